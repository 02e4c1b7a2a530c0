/- The book's map, as a function of keys. -/
import Derived.Maps.Keyed
import Derived.Laws.IdiomStrings
import Derived.Test.YtbicefgjompnoaaA03
import Derived.Test.YtbicefgjompnoaaA05
import Derived.Test.YtbicefgjompnoaaA16
namespace Go.Proofs.Ytbicefgjompnoaa.Sx
open Go.RowKit Go.Sort Go.Maps Go.WideMaps

theorem lawS : Keyed Try.prog 9 := string_keyed Try.underlying9
theorem keyS {k : ByteArray} (h : k.size ≤ maxLen) : keyOf Try.prog 9 (.string k) = some (.string k.data.toList) := keyOf_string_mk Try.underlying9 h

/-- what it gives for a key -/
structure MapF (w : World) (m : Nat) (F : ByteArray → Value) : Prop where
  ex : ∃ es clock, w.heap[m]? = some (.map es clock) ∧ (∀ e ∈ es.toList, ∃ k : ByteArray, k.size ≤ maxLen ∧ e.key = .string k ∧ e.val = F k) ∧ (∀ (i j : Nat) (a b : MapEntry), es.toList[i]? = some a → es.toList[j]? = some b → a.key = b.key → i = j) ∧ ∀ k, F k ≠ .slice none 0 0 → ∃ e ∈ es.toList, e.key = .string k
theorem MapF.lt {w : World} {m : Nat} {F : ByteArray → Value} (h : MapF w m F) : m < w.heap.size := by
  obtain ⟨es, c, h1, _⟩ := h.ex
  exact block_lt h1
theorem MapF.of {w w' : World} {m : Nat} {F : ByteArray → Value} (h : MapF w m F) (f : w'.heap[m]? = w.heap[m]?) : MapF w' m F := by
  obtain ⟨es, c, h1, h2⟩ := h.ex
  exact ⟨es, c, f.trans h1, h2⟩
theorem MapF.new (w : World) : MapF (w.alloc (.map #[] 0)) w.heap.size fun _ => .slice none 0 0 := ⟨#[], 0, (MapKept.heap_alloc w _).1, by simp, by simp, fun k h => absurd rfl h⟩
theorem MapF.look {w : World} {m : Nat} {F : ByteArray → Value} (h : MapF w m F) {k : ByteArray} (hk : k.size ≤ maxLen) :
    (Instr.lookup 61 (.map (some m)) (.string k) false).run Try.prog w = .ok (F k) w := by
  obtain ⟨es, c, h1, h2, _, h4⟩ := h.ex
  have hall : ∀ e ∈ es.toList, ∃ l, keyOf Try.prog 9 e.key = some l := fun e he => by
    obtain ⟨k', q1, q2, _⟩ := h2 e he
    exact ⟨_, by rw [q2]; exact keyS q1⟩
  obtain ⟨i0, hi0, hz0, _⟩ : ∃ i0, Try.prog.info? 56 = some i0 ∧ i0.zero = some (.slice none 0 0) ∧ True := by
    have h : ((Try.prog.info? 56).map fun i => i.zero) = some (some (.slice none 0 0)) := by kernel_rfl
    cases hq : Try.prog.info? 56 with
    | none => rw [hq] at h; simp at h
    | some j => rw [hq] at h; simp at h; exact ⟨j, rfl, h, trivial⟩
  have hz : (zeroValue 56).run Try.prog w = .ok (.slice none 0 0) w := by simp [zeroValue, typeInfo, hi0, hz0]
  rcases lawS.find w (keyS hk) es.toList hall with ⟨q1, q2⟩ | ⟨j, e0, q1, q2, q3⟩
  · have hF : F k = .slice none 0 0 := Classical.byContradiction fun q => by
      obtain ⟨e, he, hek⟩ := h4 k q
      exact q2 e he hek
    simp [Instr.lookup, run_underlying Try.underlying61, MapKept.run_getObj_map h1, lawS.check w _ (keyS hk), q1, hz, Result.andThen, hF]
  · obtain ⟨k', p1, p2, p3⟩ := h2 e0 (List.mem_of_getElem? q2)
    rw [q3] at p2
    have : k = k' := by injection p2
    subst this
    simp [Instr.lookup, run_underlying Try.underlying61, MapKept.run_getObj_map h1, lawS.check w _ (keyS hk), q1, Result.andThen, p3]
/-- a value put -/
def putF (F : ByteArray → Value) (k : ByteArray) (v : Value) (k' : ByteArray) : Value := if k' = k then v else F k'
theorem putF_same (F : ByteArray → Value) (k : ByteArray) (v : Value) : putF F k v k = v := by unfold putF; rw [if_pos rfl]
theorem putF_other {F : ByteArray → Value} {k k' : ByteArray} {v : Value} (h : k' ≠ k) : putF F k v k' = F k' := by unfold putF; rw [if_neg h]
theorem MapF.put {w : World} {m : Nat} {F : ByteArray → Value} (h : MapF w m F) {k : ByteArray} (hk : k.size ≤ maxLen) (v : Value) :
    ∃ w', (Instr.mapUpdate 61 (.map (some m)) (.string k) v).run Try.prog w = .ok () w' ∧ MapF w' m (putF F k v) ∧ Fr (· ≠ m) w w' ∧ w'.heap.size = w.heap.size := by
  obtain ⟨es, c, h1, h2, h3, h4⟩ := h.ex
  have hall : ∀ e ∈ es.toList, ∃ l, keyOf Try.prog 9 e.key = some l := fun e he => by
    obtain ⟨k', q1, q2, _⟩ := h2 e he
    exact ⟨_, by rw [q2]; exact keyS q1⟩
  have fr : ∀ o, Fr (· ≠ m) w (ChangeMaps.setBlock w m o) := fun o => ⟨rfl, rfl, rfl, by simp [ChangeMaps.setBlock], fun i _ hi => ChangeMaps.heap_setBlock_other h1 _ hi⟩
  rcases lawS.find w (keyS hk) es.toList hall with ⟨q1, q2⟩ | ⟨j, e0, q1, q2, q3⟩
  · have hn : ∀ (i : Nat) (a : MapEntry), (es.toList ++ [⟨.string k, v, c⟩])[i]? = some a → (i < es.toList.length ∧ es.toList[i]? = some a) ∨ (i = es.toList.length ∧ a = ⟨.string k, v, c⟩) := fun i a ha => by
      by_cases q : i < es.toList.length
      · rw [List.getElem?_append_left q] at ha; exact .inl ⟨q, ha⟩
      · have hb := (List.getElem?_eq_some_iff.1 ha).1
        simp at hb q
        have : i = es.toList.length := by simp; omega
        subst this
        exact .inr ⟨rfl, by simpa using ha.symm⟩
    refine ⟨ChangeMaps.setBlock w m (.map (es.push ⟨.string k, v, c⟩) (c + 1)), ?_, ⟨es.push ⟨.string k, v, c⟩, c + 1, ChangeMaps.heap_setBlock_same h1 _, fun e he => ?_, fun i j a b ha hb e => ?_, fun k' q => ?_⟩, fr _, by simp [ChangeMaps.setBlock]⟩
    · simp [Instr.mapUpdate, run_underlying Try.underlying61, MapKept.run_getObj_map h1, lawS.check w false (keyS hk), q1, MapKept.run_setObj_map _ h1, Result.andThen, ChangeMaps.setBlock]
    · rw [Array.toList_push] at he
      rcases List.mem_append.1 he with z | z
      · obtain ⟨k', p1, p2, p3⟩ := h2 e z
        refine ⟨k', p1, p2, ?_⟩
        rw [putF_other (fun q => q2 e z (by rw [p2, q]))]
        exact p3
      · rw [List.mem_singleton] at z
        subst z
        exact ⟨k, hk, rfl, (putF_same F k v).symm⟩
    · rw [Array.toList_push] at ha hb
      rcases hn i a ha with ⟨z1, z2⟩ | ⟨z1, z2⟩ <;> rcases hn j b hb with ⟨y1, y2⟩ | ⟨y1, y2⟩
      · exact h3 i j a b z2 y2 e
      · rw [y2] at e; exact absurd e (q2 a (List.mem_of_getElem? z2))
      · rw [z2] at e; exact absurd e.symm (q2 b (List.mem_of_getElem? y2))
      · omega
    · rw [Array.toList_push]
      by_cases z : k' = k
      · exact ⟨⟨.string k, v, c⟩, by simp, by rw [z]⟩
      · rw [putF_other z] at q
        obtain ⟨e, he, hek⟩ := h4 k' q
        exact ⟨e, List.mem_append_left _ he, hek⟩
  · have hjl : j < es.toList.length := (List.getElem?_eq_some_iff.1 q2).1
    have hjs : j < es.size := by simpa using hjl
    have hme : es[j]? = some e0 := by simpa using q2
    have hstay : (Instr.keyThatStays (((es[j]?).map (·.key)).getD (.string k)) (.string k)).run Try.prog w = .ok (.string k) w := by
      rw [hme]
      show (Instr.keyThatStays e0.key (.string k)).run Try.prog w = _
      rw [q3]
      exact lawS.stays w (keyS hk)
    have hmod : ∀ (i : Nat) (a : MapEntry), (es.modify j fun e => { e with key := .string k, val := v }).toList[i]? = some a → ∃ a0, es.toList[i]? = some a0 ∧ ((i = j ∧ a.key = .string k ∧ a.val = v) ∨ (i ≠ j ∧ a = a0)) := fun i a ha => by
      have ha' : (es.modify j fun e => { e with key := .string k, val := v })[i]? = some a := by rw [Array.getElem?_toList] at ha; exact ha
      rw [Array.getElem?_modify] at ha'
      by_cases z : j = i
      · subst z
        rw [if_pos rfl, hme] at ha'
        have : ({ e0 with key := .string k, val := v } : MapEntry) = a := by simpa using ha'
        exact ⟨e0, q2, .inl ⟨rfl, by rw [← this], by rw [← this]⟩⟩
      · rw [if_neg z] at ha'
        exact ⟨a, by simpa using ha', .inr ⟨fun q => z q.symm, rfl⟩⟩
    refine ⟨ChangeMaps.setBlock w m (.map (es.modify j fun e => { e with key := .string k, val := v }) c), ?_, ⟨_, c, ChangeMaps.heap_setBlock_same h1 _, fun e he => ?_, fun i j' a b ha hb e => ?_, fun k' q => ?_⟩, fr _, by simp [ChangeMaps.setBlock]⟩
    · simp [Instr.mapUpdate, run_underlying Try.underlying61, MapKept.run_getObj_map h1, lawS.check w false (keyS hk), q1, hstay, MapKept.run_setObj_map _ h1, Result.andThen, ChangeMaps.setBlock]
    · obtain ⟨i, hi⟩ := List.getElem?_of_mem he
      obtain ⟨a0, z1, z2⟩ := hmod i e hi
      rcases z2 with ⟨_, z3, z4⟩ | ⟨z3, z4⟩
      · exact ⟨k, hk, z3, by rw [putF_same]; exact z4⟩
      · subst z4
        obtain ⟨k', p1, p2, p3⟩ := h2 e (List.mem_of_getElem? z1)
        refine ⟨k', p1, p2, ?_⟩
        rw [putF_other (fun q => z3 (h3 i j e e0 z1 q2 (by rw [p2, q3, q])))]
        exact p3
    · obtain ⟨a0, z1, z2⟩ := hmod i a ha
      obtain ⟨b0, y1, y2⟩ := hmod j' b hb
      refine h3 i j' a0 b0 z1 y1 ?_
      have ka : a.key = a0.key := by
        rcases z2 with ⟨rfl, z3, _⟩ | ⟨_, z4⟩
        · rw [q2] at z1; cases z1; rw [z3, q3]
        · rw [z4]
      have kb : b.key = b0.key := by
        rcases y2 with ⟨rfl, z3, _⟩ | ⟨_, z4⟩
        · rw [q2] at y1; cases y1; rw [z3, q3]
        · rw [z4]
      rw [← ka, ← kb]; exact e
    · have hex : ∃ e ∈ es.toList, e.key = .string k' := by
        by_cases z : k' = k
        · exact ⟨e0, List.mem_of_getElem? q2, by rw [z]; exact q3⟩
        · rw [putF_other z] at q
          exact h4 k' q
      obtain ⟨e, he, hek⟩ := hex
      obtain ⟨i, hi⟩ := List.getElem?_of_mem he
      by_cases z : j = i
      · subst z
        refine ⟨{ e with key := .string k, val := v }, ?_, ?_⟩
        · refine List.mem_of_getElem? (i := j) ?_
          have : (es.modify j fun e => { e with key := .string k, val := v })[j]? = some { e with key := .string k, val := v } := by
            rw [Array.getElem?_modify, if_pos rfl]
            have : es[j]? = some e := by simpa using hi
            rw [this]; rfl
          rw [Array.getElem?_toList]
          exact this
        · show Value.string k = _
          rw [q2] at hi
          cases hi
          rw [← hek, q3]
      · refine ⟨e, ?_, hek⟩
        refine List.mem_of_getElem? (i := i) ?_
        have : (es.modify j fun e => { e with key := .string k, val := v })[i]? = some e := by
          rw [Array.getElem?_modify, if_neg z]
          simpa using hi
        rw [Array.getElem?_toList]
        exact this

end Go.Proofs.Ytbicefgjompnoaa.Sx
/- The program: key, a text for ascending literals. -/
namespace Go.Proofs.Ytbicefgjompnoaa.Sx
open Go.RowKit Go.Sort

/-- four bytes a literal -/
def key4 (x : Nat) : List UInt8 := [UInt8.ofNat x, UInt8.ofNat (x / 256), UInt8.ofNat (x / 65536), UInt8.ofNat (x / 16777216)]
def keyL (c : List Nat) : List UInt8 := c.flatMap key4
def keyB (c : List Nat) : ByteArray := ⟨(keyL c).toArray⟩
theorem keyL_len (c : List Nat) : (keyL c).length = 4 * c.length := by
  unfold keyL
  induction c with
  | nil => rfl
  | cons x c ih => rw [List.flatMap_cons, List.length_append, ih, List.length_cons]; show 4 + _ = _; omega
theorem keyB_size (c : List Nat) : (keyB c).size = 4 * c.length := by
  have := keyL_len c
  show (keyL c).toArray.size = _
  simpa using this
theorem key4_inj {x y : Nat} (hx : x < 4294967296) (hy : y < 4294967296) (h : key4 x = key4 y) : x = y := by
  unfold key4 at h
  injection h with h0 h
  injection h with h1 h
  injection h with h2 h
  injection h with h3 h
  have e : ∀ a b : Nat, UInt8.ofNat a = UInt8.ofNat b → a % 256 = b % 256 := fun a b q => by
    have := congrArg UInt8.toNat q
    simpa using this
  have := e _ _ h0
  have := e _ _ h1
  have := e _ _ h2
  have := e _ _ h3
  omega
theorem keyL_inj : ∀ (c c' : List Nat), (∀ x ∈ c, x < 4294967296) → (∀ x ∈ c', x < 4294967296) → keyL c = keyL c' → c = c'
  | [], [], _, _, _ => rfl
  | [], y :: c', _, _, h => by have := congrArg List.length h; rw [keyL_len, keyL_len] at this; simp at this
  | x :: c, [], _, _, h => by have := congrArg List.length h; rw [keyL_len, keyL_len] at this; simp at this
  | x :: c, y :: c', h1, h2, h => by
    have h' : key4 x ++ keyL c = key4 y ++ keyL c' := h
    obtain ⟨q1, q2⟩ := List.append_inj h' rfl
    rw [key4_inj (h1 x (by simp)) (h2 y (by simp)) q1, keyL_inj c c' (fun z hz => h1 z (List.mem_cons_of_mem _ hz)) (fun z hz => h2 z (List.mem_cons_of_mem _ hz)) q2]
theorem keyB_inj {c c' : List Nat} (h1 : ∀ x ∈ c, x < 4294967296) (h2 : ∀ x ∈ c', x < 4294967296) (h : keyB c = keyB c') : c = c' := by
  refine keyL_inj c c' h1 h2 ?_
  have := congrArg (fun b : ByteArray => b.data.toList) h
  simpa [keyB] using this

def u8V (b : UInt8) : Value := .int .u8 (b.toNat : Int)
theorem info5 : ∃ i0, Try.prog.info? 5 = some i0 ∧ i0.zero = some (.int .u8 0) ∧ i0.size = 1 ∧ i0.bytes = 1 := by
  have h : ((Try.prog.info? 5).map fun i => (i.zero, i.size, i.bytes)) = some (some (.int .u8 0), 1, 1) := by kernel_rfl
  cases hq : Try.prog.info? 5 with
  | none => rw [hq] at h; simp at h
  | some j => rw [hq] at h; simp at h; exact ⟨j, rfl, h.1, h.2.1, h.2.2⟩
/-- bytes in a row of the call's own -/
def OwnU (w : World) (base : Nat) (v : Value) (l : List UInt8) : Prop := w.ownsRow base 5 1 v l.length (l.map u8V)
theorem OwnU.form {w : World} {base : Nat} {v : Value} {l : List UInt8} (h : OwnU w base v l) : ∃ a cap, v = .slice a l.length cap := by
  rcases h.2 with ⟨e, hn⟩ | ⟨g', cap', cur, e, _⟩
  · exact ⟨none, 0, by rw [e, hn]⟩
  · exact ⟨_, _, e⟩
theorem u8cells {x : Nat} (hx : x < 33554434) : [Value.int .u8 ((x : Int) % 256), .int .u8 ((x : Int) / 256 % 256), .int .u8 ((x : Int) / 65536 % 256), .int .u8 ((x : Int) / 16777216)] = (key4 x).map u8V := by
  have e : x / 16777216 % 256 = x / 16777216 := by omega
  simp [key4, u8V, e]

set_option maxRecDepth 100000 in
set_option maxHeartbeats 2000000 in
theorem key_any (w : World) (b cap : Nat) (c : List Nat) (d : Array Nat) (h : LRow w b d) (ht : d.toList.take c.length = c) (hc : ∀ x ∈ c, x < 33554434) (hl : c.length ≤ 4294967296) :
    Calls Try.prog 35 #[.slice (some ⟨b, 0, none⟩) c.length cap] w fun e w' => e = .returned (.string (keyB c)) ∧ Fr (fun _ => True) w w' := by
  have mo := follows
  obtain ⟨i0_, hi0, hz0, hz1, hz2⟩ := info5
  have HL : Hid (LRow w b d) := h
  have HT : Hid (d.toList.take c.length = c) := ht
  have HC : Hid (∀ x ∈ c, x < 33554434) := hc
  have e4 : (4 : Int) * (c.length : Int) = ((4 * c.length : Nat) : Int) := by omega
  obtain ⟨w1, m1, m2, m3⟩ := run_make_own (P := Try.prog) w 0 98 5 i0_ _ 1 Try.underlying98 hi0 hz0 hz1 .i64 .i64 (4 * c.length) (by rw [hz2]; omega) (by unfold maxLen; omega) (Nat.zero_le _)
  rw [← e4] at m1
  have M2 : Hid (OwnU w1 w.heap.size (.slice (some ⟨w.heap.size, 0, none⟩) 0 (4 * c.length)) []) := by
    show w1.ownsRow _ 5 1 _ 0 []
    rcases m2.2 with ⟨q, _⟩ | ⟨g, cp, cur, q1, _, q2⟩
    · cases q
    · cases q1
      exact ⟨rfl, .inr ⟨_, _, cur, rfl, Nat.le_refl _, q2⟩⟩
  have M3 : Hid (Fr (fun _ => True) w w1) := ⟨m3.os, m3.tape, m3.output, m3.size, fun k hk _ => m3.block k hk (by simp)⟩
  obtain ⟨B, hB⟩ : ∃ B, w.heap.size = B := ⟨_, rfl⟩
  rw [hB] at m1 M2
  have HB : Hid (w.heap.size = B) := hB
  clear h ht hc m2 m3 e4 hB
  go_enter Try.func35, Try.ntmps35
  go_wp2_with fail
  clear m1
  go_loopg [3, 12] (c.length) (fun k s3 s12 wr => ∃ j : Nat, s12 = .int .i64 (j : Int) ∧ j + k = c.length ∧ Hid (OwnU wr B s3 (keyL (c.take j))) ∧ Hid (Fr (fun _ => True) w wr))
  case atStart => exact ⟨0, rfl, by omega, M2, M3⟩
  case round =>
    clear M2 M3
    obtain ⟨j, rfl, hjk, HO, HF⟩ := hrel
    obtain ⟨oa, oc, ho⟩ := HO.out.form
    subst ho
    have hkl : (keyL (c.take j)).length = 4 * j := by rw [keyL_len, List.length_take]; omega
    by_cases hj : j < c.length
    · obtain ⟨k, rfl⟩ : ∃ k, gk = k + 1 := ⟨gk - 1, by omega⟩
      obtain ⟨x, hx⟩ : ∃ x, c[j] = x := ⟨_, rfl⟩
      have HX : Hid (c[j]? = some x) := by rw [← hx]; exact List.getElem?_eq_getElem hj
      have hxl := HC.out x (hx ▸ List.getElem_mem hj)
      have hdj : d[j]? = some x := by
        have := HX.out
        rw [← HT.out, List.getElem?_take_of_lt hj] at this
        simpa using this
      have cj : wr.cell? ⟨b, j, none⟩ = some (.int .i32 (x : Int)) := by
        have h2 : LRow wr b d := HL.out.of HF.out trivial
        rw [block_cell h2]
        simp [encL, hdj]
      clear hdj hx
      have j0 : (0 : Int) ≤ (j : Int) := by omega
      have j1 : (j : Int) < (c.length : Int) := by omega
      have hkt : keyL (c.take (j + 1)) = keyL (c.take j) ++ key4 x := by
        unfold keyL
        rw [List.take_add_one, HX.out]
        simp
      have HKT : Hid (keyL (c.take (j + 1)) = keyL (c.take j) ++ key4 x) := hkt
      have HON : Hid ((wr.alloc (.cells #[.int .u8 ((x : Int) % 256), .int .u8 ((x : Int) / 256 % 256), .int .u8 ((x : Int) / 65536 % 256), .int .u8 ((x : Int) / 16777216)] 5)).ownsRow B 5 1 (.slice oa (keyL (c.take j)).length oc) (keyL (c.take j)).length ((keyL (c.take j)).map u8V)) := HO.out.alloc _
      have hone : ∀ u ∈ [Value.int .u8 ((x : Int) % 256), .int .u8 ((x : Int) / 256 % 256), .int .u8 ((x : Int) / 65536 % 256), .int .u8 ((x : Int) / 16777216)], u.oneCell' = true := fun u hu => by
        simp only [List.mem_cons, List.not_mem_nil, or_false] at hu
        rcases hu with rfl | rfl | rfl | rfl <;> rfl
      have HONE : Hid (∀ u ∈ [Value.int .u8 ((x : Int) % 256), .int .u8 ((x : Int) / 256 % 256), .int .u8 ((x : Int) / 65536 % 256), .int .u8 ((x : Int) / 16777216)], u.oneCell' = true) := hone
      have HNW : Hid ((wr.alloc (.cells #[.int .u8 ((x : Int) % 256), .int .u8 ((x : Int) / 256 % 256), .int .u8 ((x : Int) / 65536 % 256), .int .u8 ((x : Int) / 16777216)] 5)).heap[wr.heap.size]? = _) := heap_new rfl
      have HBB : Hid (B ≤ (wr.alloc (.cells #[.int .u8 ((x : Int) % 256), .int .u8 ((x : Int) / 256 % 256), .int .u8 ((x : Int) / 65536 % 256), .int .u8 ((x : Int) / 16777216)] 5)).heap.size) := by
        show B ≤ _
        have h1 := HF.out.size
        have h2 := HB.out
        simp
        omega
      have HLN : Hid ((keyL (c.take j)).length = 4 * j) := hkl
      have hn4 : (keyL (c.take j)).length + 4 ≤ maxLen := by rw [hkl]; unfold maxLen; omega
      have hb4 : ((keyL (c.take j)).length + 4) * 1 ≤ 140737488355328 := by rw [hkl]; omega
      have HF2 : Hid (Fr (fun _ => True) w (wr.alloc (.cells #[.int .u8 ((x : Int) % 256), .int .u8 ((x : Int) / 256 % 256), .int .u8 ((x : Int) / 65536 % 256), .int .u8 ((x : Int) / 16777216)] 5))) := HF.out.alloc _
      have HBS : Hid (w.heap.size = B) := HB.out
      clear hone hkt hkl HF HO
      go_wp2_with (at_builtin; refine wpList_append_own_at _ rfl _ _ 98 rfl B 5 i0_ _ 1 1 Try.underlying98 hi0 hz0 hz1 hz2 rfl (by decide) (.slice oa (keyL (c.take j)).length oc) (keyL (c.take j)).length _ rfl HON.out ⟨wr.heap.size, 0, none⟩ 4 4 [.int .u8 ((x : Int) % 256), .int .u8 ((x : Int) / 256 % 256), .int .u8 ((x : Int) / 65536 % 256), .int .u8 ((x : Int) / 16777216)] rfl rfl (World.news_of_block HNW.out) HONE.out hn4 hb4 HBB.out ?_)
      intro v4 w4 ho4 hg4 _ _
      have HO4 : Hid (OwnU w4 B v4 (keyL (c.take (j + 1)))) := by
        show OwnU _ _ _ _
        rw [HKT.out]
        unfold OwnU
        rw [List.length_append, List.map_append, ← u8cells hxl]
        exact ho4
      have HF4 : Hid (Fr (fun _ => True) w w4) := HF2.out.grown hg4 (fun k hk _ => owns_block HON.out (by have := HBS.out; omega))
      clear ho4 hg4 HON HNW HBB HONE HF2 HKT HLN hn4 hb4
      go_wp2_with fail
      go_roundg k
      case measure => omega
      case rel => exact ⟨j + 1, by simp, by omega, HO4, HF4⟩
    · have j1 : ¬ (j : Int) < (c.length : Int) := by omega
      obtain rfl : j = c.length := by omega
      rw [List.take_length] at HO hkl
      rw [List.take_length]
      have hcv : (convert 98 9 (.slice oa (4 * c.length) oc)).run Try.prog wr = .ok (.string (keyB c)) wr := by
        rw [← hkl]
        rcases HO.out.2 with ⟨q, hn⟩ | ⟨g, cp, cur, q, _, hg, _, _, _, htk⟩
        · have e0 : c = [] := List.eq_nil_of_length_eq_zero (by omega)
          subst e0
          injection q with q1 _ q3
          subst q1
          subst q3
          simp [run_convert_bytes_string _ _ _ _ _ _ _ Try.underlying98 Try.underlying5 Try.underlying9, Conv.bytesToString, keyL, keyB]
          rfl
        · cases q
          refine run_convert_bytes_back _ _ _ _ _ _ _ Try.underlying98 Try.underlying5 Try.underlying9 (fun i hi => ?_)
          have hadd : (⟨g, 0, none⟩ : Addr).add i = ⟨g, i, none⟩ := by unfold Addr.add; split <;> simp_all
          rw [hadd, block_cell hg]
          have h2 : ((keyL c).map u8V)[i]? = some (u8V (keyL c)[i]) := by simp [hi]
          rw [← htk, List.getElem?_take] at h2
          split at h2
          · simpa [u8V] using h2
          · simp at h2
      have HFF : Hid (Fr (fun _ => True) w wr) := HF.out
      clear HO HF
      go_wp2_with fail
      go_ret
      exact ⟨rfl, HFF.out⟩

end Go.Proofs.Ytbicefgjompnoaa.Sx
/- The store: add. -/
namespace Go.Proofs.Ytbicefgjompnoaa.Sx
open Go.RowKit Go.Sort

/-- a clause comes in: the store, and its row's number, or -1 -/
def addP (s : St) : List Nat → St × Int
  | [] => ({ s with empty := s.empty + 1 }, -1)
  | [a] => ({ s with rows := s.rows ++ [some [a]], single := s.single ++ [s.rows.length] }, (s.rows.length : Int))
  | a :: b :: c => (pushW (pushW { s with rows := s.rows ++ [some (a :: b :: c)] } a s.rows.length b) b s.rows.length a, (s.rows.length : Int))
def AddPost (w : World) (L : Ly) (n : Nat) (cb : Nat) (r : St × Int) (e : Ending) (w' : World) : Prop := e = .returned (.int .i32 r.2) ∧ ∃ L', SAt w' L' n r.1 ∧ FrX cb L L' w w' ∧ ∀ k : Nat, r.2 = (k : Int) → ∃ m cap, L'.rr[k]? = some (.slice (some ⟨cb, 0, none⟩) m cap)
theorem info44 : ∃ i0, Try.prog.info? 44 = some i0 ∧ i0.zero = some (.slice none 0 0) ∧ i0.size = 1 ∧ i0.bytes = 24 := by
  have h : ((Try.prog.info? 44).map fun i => (i.zero, i.size, i.bytes)) = some (some (.slice none 0 0), 1, 24) := by kernel_rfl
  cases hq : Try.prog.info? 44 with
  | none => rw [hq] at h; simp at h
  | some j => rw [hq] at h; simp at h; exact ⟨j, rfl, h.1, h.2.1, h.2.2⟩

set_option maxRecDepth 100000 in
set_option maxHeartbeats 4000000 in
theorem add_none (w : World) (L : Ly) (n : Nat) (s : St) (cb cap : Nat) (h : SAt w L n s) (he : s.empty ≤ 1000000000000) :
    Calls Try.prog 29 #[.pointer (some ⟨L.sb, 0, none⟩), .slice (some ⟨cb, 0, none⟩) 0 cap] w (AddPost w L n cb (addP s [])) := by
  have mo := follows
  have c2 : w.cell? ⟨L.sb, 2, none⟩ = some (.int .i64 (s.empty : Int)) := h.cell 2
  have z2 := h.free 2
  have S1 : Hid (SAt (w.setCell ⟨L.sb, 2, none⟩ (.int .i64 ((s.empty : Int) + 1))) L n { s with empty := s.empty + 1 }) := h.setEmpty (s.empty + 1)
  have F1 : Hid (FrS L L w (w.setCell ⟨L.sb, 2, none⟩ (.int .i64 ((s.empty : Int) + 1)))) := (FrS.refl L w).set (by rw [(h.1.st trivial).2]; decide)
  clear h
  go_enter Try.func29, Try.ntmps29
  go_wp2_with fail
  go_ret
  exact ⟨rfl, L, S1.out, F1.out.x cb, fun k e => absurd (show (-1 : Int) = (k : Int) from e) (by omega)⟩

/-- the rows' append -/
structure Grs (w : World) (L : Ly) (n : Nat) (s1 : St) (cb : Nat) (W : World) (L1 : Ly) : Prop where
  at_ : SAt W L1 n s1
  fr : FrX cb L L1 w W
  rr : ∃ m cap, L1.rr[s1.rows.length - 1]? = some (.slice (some ⟨cb, 0, none⟩) m cap)

set_option maxRecDepth 100000 in
set_option maxHeartbeats 4000000 in
theorem add_one (w : World) (L : Ly) (n : Nat) (s : St) (cb a : Nat) (d : Array Nat) (h : SAt w L n s) (hc : CAt w L cb d [a]) (hrw : s.rows.length + 1 ≤ 1000000000) (hsl : s.single.length ≤ s.rows.length) :
    Calls Try.prog 29 #[.pointer (some ⟨L.sb, 0, none⟩), .slice (some ⟨cb, 0, none⟩) 1 d.size] w (AddPost w L n cb (addP s [a])) := by
  have mo := follows
  obtain ⟨i0, hi0, hz0, hz1, hz2⟩ := info44
  obtain ⟨i1, hi1, hy0, hy1, hy2⟩ := info21
  obtain ⟨ra, rc, hrv⟩ := (h.1.ro trivial).form
  have c0 : w.cell? ⟨L.sb, 0, none⟩ = some (.slice ra s.rows.length rc) := by have := h.cell 0; simp only [stC, hrv] at this; exact this
  have HW : Hid (SAt (w.alloc (.cells #[.slice (some ⟨cb, 0, none⟩) 1 d.size] 44)) L n s) := h.alloc _
  have HF : Hid (Fr (fun _ => True) w (w.alloc (.cells #[.slice (some ⟨cb, 0, none⟩) 1 d.size] 44))) := (Fr.refl _ w).alloc _
  have OW : Hid ((w.alloc (.cells #[.slice (some ⟨cb, 0, none⟩) 1 d.size] 44)).ownsRow 0 44 1 (.slice ra s.rows.length rc) s.rows.length L.rr) := by rw [← hrv]; exact (HW.out.1.ro trivial).1
  have hmx : s.rows.length + 1 ≤ maxLen := by unfold maxLen; omega
  have hby : (s.rows.length + 1) * 24 ≤ 140737488355328 := by omega
  obtain ⟨SR, hSR⟩ : ∃ SR, ({ s with rows := s.rows ++ [some [a]] } : St) = SR := ⟨_, rfl⟩
  have HP : Hid (∀ (v4 : Value) (w9 : World), w9.ownsRow 0 44 1 v4 (s.rows.length + 1) (L.rr ++ [.slice (some ⟨cb, 0, none⟩) 1 d.size]) → (w.alloc (.cells #[.slice (some ⟨cb, 0, none⟩) 1 d.size] 44)).grownBy w9 (Value.slice ra s.rows.length rc).ownBlock → (v4.ownBlock = (Value.slice ra s.rows.length rc).ownBlock ∨ v4.ownBlock = some (w.alloc (.cells #[.slice (some ⟨cb, 0, none⟩) 1 d.size] 44)).heap.size) →
      ∃ g cap, v4 = .slice (some ⟨g, 0, none⟩) (s.rows.length + 1) cap ∧ w9.cell? ⟨L.sb, 0, none⟩ = some (.slice ra s.rows.length rc) ∧ w9.frozen? ⟨L.sb, 0, none⟩ = false ∧ ∃ L1, Grs w L n SR cb (w9.setCell ⟨L.sb, 0, none⟩ (.slice (some ⟨g, 0, none⟩) (s.rows.length + 1) cap)) L1) := by
    intro v4 w9 ho hg hat
    rcases ho.2 with ⟨_, q⟩ | ⟨g, cap, cur, e, q⟩
    · omega
    subst e
    rw [← hrv] at hg hat
    obtain ⟨k1, k2, L1, k3, k4, k5⟩ := HW.out.app_rows HF.out (c := [a]) hc hrw ho hg (by
      rcases hat with q | q
      · exact .inl q.symm
      · exact .inr (Option.some.inj q))
    exact ⟨g, cap, rfl, by rw [k1, hrv], k2, L1, by rw [← hSR]; exact k3, k4, _, _, by rw [← hSR]; simpa using k5⟩
  have e1 : SR.single.length = s.single.length := by rw [← hSR]
  have e2 : (addP s [a]) = ({ SR with single := SR.single ++ [s.rows.length] }, (s.rows.length : Int)) := by rw [← hSR]; rfl
  rw [e2]
  have hRl : SR.rows.length - 1 = s.rows.length := by rw [← hSR]; simp
  generalize s.rows.length = R at c0 OW hmx hby HP hrw hsl hRl ⊢
  have hwr : IntKind.i32.wrap (R : Int) = (R : Int) := by rw [IntKind.wrap_i32]; omega
  obtain ⟨SX, hSX⟩ : ∃ SX, ({ SR with single := SR.single ++ [R] } : St) = SX := ⟨_, rfl⟩
  rw [hSX]
  have HSX : Hid (({ SR with single := SR.single ++ [R] } : St) = SX) := hSX
  clear HW HF hrv hSR e2 hSX h
  go_enter Try.func29, Try.ntmps29
  go_upto_region 6 with (at_builtin; refine wpList_append_own_at _ rfl _ _ 73 rfl 0 44 i0 _ 1 24 Try.underlying73 hi0 hz0 hz1 hz2 rfl (by decide) (.slice ra R rc) R _ rfl OW.out ⟨w.heap.size, 0, none⟩ 1 1 [.slice (some ⟨cb, 0, none⟩) 1 d.size] rfl rfl (World.news_of_block (heap_new rfl)) (one1 rfl) hmx hby (Nat.zero_le _) ?_; intro v4 w9 ho9 hg9 _ hat9; obtain ⟨g, cap4, rfl, q1, q2, L1, q3⟩ := HP.out v4 w9 ho9 hg9 hat9; have Q3 : Hid (Grs w L n SR cb (w9.setCell ⟨L.sb, 0, none⟩ (.slice (some ⟨g, 0, none⟩) (R + 1) cap4)) L1) := q3; clear ho9 hg9 hat9 q3)
  clear c0 OW HP q1 q2
  generalize w9.setCell ⟨L.sb, 0, none⟩ (.slice (some ⟨g, 0, none⟩) (R + 1) cap4) = W5 at Q3 ⊢
  have h5 := Q3.out.at_
  have HRR : Hid (∃ m cap, L1.rr[R]? = some (.slice (some ⟨cb, 0, none⟩) m cap)) := by rw [← hRl]; exact Q3.out.rr
  clear hRl
  have hsb : L1.sb = L.sb := Q3.out.fr.sb
  obtain ⟨sa, sc, hsv⟩ := (h5.1.si trivial).form
  have c1 : W5.cell? ⟨L.sb, 1, none⟩ = some (.slice sa SR.single.length sc) := by have := h5.cell 1; simp only [stC, hsv] at this; rw [← hsb]; exact this
  have HW : Hid (SAt (W5.alloc (.cells #[.int .i32 (R : Int)] 21)) L1 n SR) := h5.alloc _
  have HF : Hid (Fr (fun _ => True) W5 (W5.alloc (.cells #[.int .i32 (R : Int)] 21))) := (Fr.refl _ W5).alloc _
  have OW : Hid ((W5.alloc (.cells #[.int .i32 (R : Int)] 21)).ownsRow 0 21 1 (.slice sa SR.single.length sc) SR.single.length (v32 SR.single)) := by rw [← hsv]; exact (HW.out.1.si trivial).1
  have hmx2 : SR.single.length + 1 ≤ maxLen := by unfold maxLen; omega
  have hby2 : (SR.single.length + 1) * 4 ≤ 140737488355328 := by omega
  have HP : Hid (∀ (v4 : Value) (w9 : World), w9.ownsRow 0 21 1 v4 (SR.single.length + 1) (v32 SR.single ++ [.int .i32 (R : Int)]) → (W5.alloc (.cells #[.int .i32 (R : Int)] 21)).grownBy w9 (Value.slice sa SR.single.length sc).ownBlock → (v4.ownBlock = (Value.slice sa SR.single.length sc).ownBlock ∨ v4.ownBlock = some (W5.alloc (.cells #[.int .i32 (R : Int)] 21)).heap.size) →
      ∃ g cap, v4 = .slice (some ⟨g, 0, none⟩) (SR.single.length + 1) cap ∧ w9.cell? ⟨L.sb, 1, none⟩ = some (.slice sa SR.single.length sc) ∧ w9.frozen? ⟨L.sb, 1, none⟩ = false ∧ ∃ L', SAt (w9.setCell ⟨L.sb, 1, none⟩ (.slice (some ⟨g, 0, none⟩) (SR.single.length + 1) cap)) L' n SX ∧ FrX cb L L' w (w9.setCell ⟨L.sb, 1, none⟩ (.slice (some ⟨g, 0, none⟩) (SR.single.length + 1) cap)) ∧ ∀ k : Nat, (R : Int) = (k : Int) → ∃ m cap, L'.rr[k]? = some (.slice (some ⟨cb, 0, none⟩) m cap)) := by
    intro v4 w9 ho hg hat
    rcases ho.2 with ⟨_, q⟩ | ⟨g, cap, cur, e, q⟩
    · omega
    subst e
    rw [← hsv] at hg hat
    obtain ⟨k1, k2, k3, k4⟩ := HW.out.app_single HF.out ho hg (by
      rcases hat with q | q
      · exact .inl q.symm
      · exact .inr (Option.some.inj q))
    rw [hsb] at k1 k2 k3 k4
    rw [HSX.out] at k3
    exact ⟨g, cap, rfl, by rw [k1, hsv], k2, _, k3, Q3.out.fr.trans k4, fun k e => by rw [← show R = k by omega]; exact HRR.out⟩
  clear e1
  generalize SR.single.length = T at c1 OW hmx2 hby2 HP
  clear HW HF hsv h5 HSX Q3 HRR
  go_wp2_with (at_builtin; refine wpList_append_own_at _ rfl _ _ 56 rfl 0 21 i1 _ 1 4 Try.underlying56 hi1 hy0 hy1 hy2 rfl (by decide) (.slice sa T sc) T _ rfl OW.out ⟨W5.heap.size, 0, none⟩ 1 1 [.int .i32 (R : Int)] rfl rfl (World.news_of_block (heap_new rfl)) (one1 rfl) hmx2 hby2 (Nat.zero_le _) ?_; intro v4 w9 ho9 hg9 _ hat9; obtain ⟨g, cap4, rfl, q1, q2, q3⟩ := HP.out v4 w9 ho9 hg9 hat9; have Q4 : Hid (∃ L', SAt (w9.setCell ⟨L.sb, 1, none⟩ (.slice (some ⟨g, 0, none⟩) (T + 1) cap4)) L' n SX ∧ FrX cb L L' w (w9.setCell ⟨L.sb, 1, none⟩ (.slice (some ⟨g, 0, none⟩) (T + 1) cap4)) ∧ ∀ k : Nat, (R : Int) = (k : Int) → ∃ m cap, L'.rr[k]? = some (.slice (some ⟨cb, 0, none⟩) m cap)) := q3; clear ho9 hg9 hat9 q3)
  go_ret
  exact ⟨rfl, Q4.out⟩

end Go.Proofs.Ytbicefgjompnoaa.Sx
