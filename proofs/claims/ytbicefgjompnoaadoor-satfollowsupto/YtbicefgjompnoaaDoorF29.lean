/- The store: look. -/
import Derived.Test.YtbicefgjompnoaaDoorF25
import Derived.Test.YtbicefgjompnoaaDoorF27
import Derived.Test.YtbicefgjompnoaaDoorF28
import Derived.Shelf.SlicesE.DeleteFunc
import Derived.Defers
namespace Go.Proofs.YtbicefgjompnoaaDoor.Sx
open Go.RowKit Go.Sort

set_option maxRecDepth 100000 in
set_option maxHeartbeats 4000000 in
theorem look_none (w : World) (L : Ly) (n : Nat) (s : St) (no cap : Nat) (a : Option Addr) (h : SAt w L n s) (hno : no < 2 * n) (hv : L.wv[no]? = some (.slice a 0 cap)) (h0 : s.watches.getD no [] = []) :
    Calls Tryd.prog 44 #[.pointer (some ⟨L.sb, 0, none⟩), .int .i32 (no : Int)] w (StPost w L n s (.int .i32 (-1))) := by
  have mo := follows
  have hn := h.2.n_
  obtain ⟨t1, t2⟩ := h.1.wt trivial
  obtain ⟨v, e1, e2⟩ := h.1.wl no trivial hno
  rw [hv] at e1
  cases e1
  have hs : wset s no [] = s := by rw [← h0]; exact wset_self (by rw [h.2.wt]; exact hno)
  have hp := h.putW hno (v' := .slice a 0 cap) (kept := []) (by rw [h0] at e2; exact e2)
  rw [hs] at hp
  have q := (FrS.refl L w).set (b := L.wb) (i := no) (v := .slice a 0 cap) (by rw [t2]; simp)
  have HP : Hid (StPost w L n s (.int .i32 (-1)) (.returned (.int .i32 (-1))) (w.setCell ⟨L.wb, no, none⟩ (.slice a 0 cap))) := ⟨rfl, _, hp, ⟨q.os, q.tape, q.output, q.size, q.block, q.own, q.sb⟩⟩
  have c3 : w.cell? ⟨L.sb, 3, none⟩ = some (.slice (some ⟨L.wb, 0, none⟩) (2 * n) (2 * n)) := h.cell 3
  have cw : w.cell? ⟨L.wb, no, none⟩ = some (.slice a 0 cap) := by rw [block_cell t1]; simpa using hv
  have fw := frozen_block t1 no
  have x1 : (no : Int) < 2 * (n : Int) := by omega
  have x2 : (no : Int) < ((2 * n : Nat) : Int) := by omega
  have ha : (a = none ∧ cap = 0) ∨ ∃ g, a = some ⟨g, 0, none⟩ := by
    rcases e2.1.2 with ⟨q, _⟩ | ⟨g, cap', cur, e, _⟩
    · cases q; exact .inl ⟨rfl, rfl⟩
    · exact .inr ⟨g, (Value.slice.inj e).1⟩
  clear h hv h0 e2 hs hp q t1 t2
  rcases ha with ⟨rfl, rfl⟩ | ⟨g, rfl⟩
  all_goals
    go_enter Tryd.func44, Tryd.ntmps44
    go_wp2_with fail
    go_step3
    go_wp2_with fail
    go_step3
    go_wp2_with fail
    refine wp_loop_rounds 1 ?_
    rw [rounds_succ]
    go_wp2_with fail
    first | go_ret | (rw [Exit.noGoto_ret]; go_ret)
    exact HP.out

theorem look_any (w : World) (L : Ly) (n : Nat) (s : St) (no : Nat) (h : SAt w L n s) (hI : LkI n s) (hno : no < 2 * n) (ht : s.truth.getD no 0 = -1) :
    Calls Tryd.prog 44 #[.pointer (some ⟨L.sb, 0, none⟩), .int .i32 (no : Int)] w (StPost w L n (lookP s no).1 (.int .i32 (lookP s no).2)) := by
  obtain ⟨R, hR⟩ : ∃ R, lookG no (s.watches.getD no []) [] s = R := ⟨_, rfl⟩
  have e1 : lookP s no = (wset R.1 no R.2.1, R.2.2) := by unfold lookP; rw [hR]; rfl
  rw [e1]
  obtain ⟨v, hv, hw⟩ := h.1.wl no trivial hno
  by_cases h0 : s.watches.getD no [] = []
  · obtain ⟨a, cap, hf⟩ := hw.form
    rw [h0] at hf
    subst hf
    have hs : wset s no [] = s := by rw [← h0]; exact wset_self (by rw [h.2.wt]; exact hno)
    rw [h0] at hR
    have hR' : (s, ([] : List (Nat × Nat)), (-1 : Int)) = R := hR
    rw [← hR']
    show Calls _ _ _ _ (StPost w L n (wset s no []) (.int .i32 (-1)))
    rw [hs]
    exact look_none w L n s no cap a h hno hv h0
  · rcases hw.1.2 with ⟨q, q2⟩ | ⟨g, cap, cur, e, _⟩
    · exact absurd (List.length_eq_zero_iff.1 q2) h0
    · subst e
      exact look_some w L n s no _ cap g R h hI hno ht hv hR

/-- look does as it should -/
theorem lookOK (n : Nat) : LookOK n (LkI n) := by
  have key : ∀ s, LkI n s → s.done < s.trail.length → opp (s.trail.getD s.done 0) < 2 * n ∧ s.truth.getD (opp (s.trail.getD s.done 0)) 0 = -1 := fun s hI hd => by
    have hm : s.trail.getD s.done 0 ∈ s.trail := getD_mem hd
    exact ⟨opp_lt (hI.tr.lt _ hm), (hI.tr.tr _ hm).2⟩
  have kp : ∀ s, LkI n s → s.done < s.trail.length → LkI n (nextS s).1 ∧ (nextS s).1.done = s.done + 1 ∧ -1 ≤ (nextS s).2 ∧ (nextS s).2 ≤ 2147483647 := fun s hI hd => by
    obtain ⟨h1, h2⟩ := key s hI hd
    have hI' := hI.done (s.done + 1)
    have := lookG_keep h1 _ [] _ (hI'.start (no := opp (s.trail.getD s.done 0)) h2)
    rcases this with ⟨q1, q2, q3, q4, q5⟩ | q
    · exact ⟨q1, q2, q4, q5⟩
    · exact absurd hI'.sum q
  refine ⟨fun w L s hI hd h => ?_, fun s hI hd => (kp s hI hd).1, fun s hI hd => (kp s hI hd).2.1, fun s hI hd => (kp s hI hd).2.2⟩
  obtain ⟨h1, h2⟩ := key s hI hd
  exact look_any w L n { s with done := s.done + 1 } _ h (hI.done _) h1 h2

end Go.Proofs.YtbicefgjompnoaaDoor.Sx
/- The program: a book in memory; rows that are gone are struck. -/
namespace Go.Proofs.YtbicefgjompnoaaDoor.Sx
open Go.RowKit Go.Sort Go.Lib Go.Shelf

/-- a row of its own, written over -/
theorem put_row {α : Type} [Inhabited α] {enc : α → Value} {w : World} {g cap m k : Nat} {cur : Array Value} {d D : Array α} (hH : Holds enc w g 0 d) (hg : w.heap[g]? = some (.cells cur 21 (0, 0))) (hm : d.size = m) (hD : D.size = d.size) (hk : k ≤ m) (hc : cur.size = cap * 1) (hcap : m ≤ cap) {xs : List Value} (hx : xs.length = k) (he : ∀ j u, xs[j]? = some u → ∃ h : j < D.size, u = enc D[j]) (hmx : cap ≤ maxLen) (q : Nat) :
    (putRow enc (Sort.ahead w q) g 0 D).ownsRow 0 21 1 (.slice (some ⟨g, 0, none⟩) k cap) k xs ∧ Fr (· ≠ g) w (putRow enc (Sort.ahead w q) g 0 D) := by
  have hH' : Holds enc (Sort.ahead w q) g 0 d := hH
  have hb : (putRow enc (Sort.ahead w q) g 0 D).heap[g]? = some (.cells (putCells enc 0 D cur) 21 (0, 0)) := by simp [putRow, mapBlock, Array.getElem?_modify, hg, onCells]
  have hs : (putCells enc 0 D cur).size = cur.size := by simp [putCells]
  refine ⟨⟨by omega, .inr ⟨g, cap, putCells enc 0 D cur, rfl, Nat.zero_le _, hb, by omega, hmx, by rw [hs]; exact hc, ?_⟩⟩, ⟨rfl, rfl, rfl, by simp [putRow, mapBlock, Sort.ahead], fun b _ hne => by simp [putRow, mapBlock, Array.getElem?_modify, Ne.symm hne, Sort.ahead]⟩⟩
  apply List.ext_getElem?
  intro j
  by_cases hj : j < k
  · have hjx : j < xs.length := by omega
    obtain ⟨h1, h2⟩ := he j xs[j] (List.getElem?_eq_getElem hjx)
    have hcl := cell?_putRow enc (Sort.ahead w q) g 0 d D hH' hD j (by omega)
    rw [Nat.zero_add, block_cell hb] at hcl
    rw [List.getElem?_take, if_pos (by omega), List.getElem?_eq_getElem hjx, h2, Array.getElem?_toList, hcl]
    simp [h1]
  · rw [List.getElem?_take, if_neg (by omega), List.getElem?_eq_none (by omega)]

end Go.Proofs.YtbicefgjompnoaaDoor.Sx
/- The program: gather. -/
namespace Go.Proofs.YtbicefgjompnoaaDoor.Sx
open Go.RowKit Go.Sort Go.Maps

theorem Fr.trans2 {P Q : Nat → Prop} {a b c : World} (h : Fr P a b) (k : Fr Q b c) (hq : ∀ i, i < a.heap.size → P i → Q i) : Fr P a c :=
  ⟨k.os.trans h.os, k.tape.trans h.tape, k.output.trans h.output, Nat.le_trans h.size k.size, fun i hi hp => (k.block i (Nat.lt_of_lt_of_le hi h.size) (hq i hi hp)).trans (h.block i hi hp)⟩

/-- a row that is there -/
theorem BB.row {n : Nat} {t : St} (h : BB n t) (hn : n ≤ 16777216) {r : Nat} {d : List Nat} (hr : t.rows[r]? = some (some d)) : d.Nodup ∧ 0 < d.length ∧ ∀ x ∈ d, x < 33554434 := by
  refine ⟨h.W.nd r d hr, ?_, fun x hx => ?_⟩
  · cases d with
    | nil => exact absurd hr (h.R.no0 r)
    | cons a d => simp
  · have := h.I.lit r d hr x hx
    omega

end Go.Proofs.YtbicefgjompnoaaDoor.Sx
/- The program: rows of one literal that are gone are struck. -/
namespace Go.Proofs.YtbicefgjompnoaaDoor.Sx
open Go.RowKit Go.Sort Go.Lib Go.Shelf

theorem filter_pmap {n : Nat} (f : Nat → Bool) : ∀ (l : List Nat) (h : ∀ x ∈ l, x < n), ((l.pmap (fun x hx => (⟨x, hx⟩ : { x : Nat // x < n })) h).filter fun x => f x.1).map (·.1) = l.filter f
  | [], _ => rfl
  | x :: l, h => by
    have ih := filter_pmap f l (fun y hy => h y (List.mem_cons_of_mem _ hy))
    simp only [List.pmap_cons, List.filter_cons]
    split
    · simp only [List.map_cons, ih]
    · exact ih

/-- what the strike leaves -/
structure DelPost (W : World) (L : Ly) (s : St) (a : Option Addr) (cap : Nat) (e : Ending) (w' : World) : Prop where
  e_ : e = .returned (.slice a (liveS s).length cap)
  ow : OwnR w' L.own (3, 0) 21 1 (.slice a (liveS s).length cap) (liveS s).length (v32 (liveS s))
  fr : Fr (fun b => L.own b ≠ (3, 0)) W w'

end Go.Proofs.YtbicefgjompnoaaDoor.Sx
/- The program: the store of clauses, its walk. -/
namespace Go.Proofs.YtbicefgjompnoaaDoor.Sx
open Go.RowKit Go.Sort
attribute [local go_sem] Oper.semAt_some

theorem rg_below (w : World) (fn : FuncId) (tmps : Array Value) (ps : Array Tmp) (a b : Code) : Below w.heap.size w (rgW w fn tmps ps a b) := ((Below.refl _ w).alloc (Nat.le_refl _) _).alloc (by simp) _
/-- between two rounds: b0 blocks were there ahead of all, b1 behind newStore, b2 where the rounds begin -/
structure SI (s : List Nat × List Nat) (C : List (List Int)) (b0 b1 : Nat) (W0 : World) (sb i : Nat) (W : World) (cs : List (List Nat)) (L : Ly) : Prop where
  len : cs.length = i
  set : ∀ (j : Nat) (x : List Int) (c : List Nat), C[j]? = some x → cs[j]? = some c → SetOf (x.map (litV s)) c
  at_ : SAt W L s.2.length (addAll (newP s.2.length) cs)
  sb_ : L.sb = sb
  own : ∀ b, (b < b0 ∨ b1 ≤ b ∧ b < W0.heap.size + 2) → L.own b = (0, 0)
  fr : Fr (fun b => b < b0 ∨ b1 ≤ b) W0 W
  big : W0.heap.size + 2 ≤ W.heap.size
def SIx (s : List Nat × List Nat) (C : List (List Int)) (b0 b1 : Nat) (W0 : World) (sb i : Nat) (W : World) : Prop := ∃ cs L, SI s C b0 b1 W0 sb i W cs L

section
variable {s : List Nat × List Nat} {C : List (List Int)} {b0 b1 sb i : Nat} {W0 W : World}
theorem SI.go {cs : List (List Nat)} {L : Ly} (h : SI s C b0 b1 W0 sb i W cs L) {W' : World} {P : Nat → Prop} (f : Fr P W W') (hP : ∀ b, ¬ P b → (b1 ≤ b ∧ W0.heap.size ≤ b ∧ b < W0.heap.size + 2)) : SI s C b0 b1 W0 sb i W' cs (nrm L W.heap.size) :=
  ⟨h.len, h.set, h.at_.frl f (fun b hb => h.own b (.inr ⟨(hP b hb).1, (hP b hb).2.2⟩)), h.sb_, fun b hb => nrm_zero fun _ => h.own b hb, ⟨f.os.trans h.fr.os, f.tape.trans h.fr.tape, f.output.trans h.fr.output, Nat.le_trans h.fr.size f.size, fun b hb hq => (f.block b (Nat.lt_of_lt_of_le hb h.fr.size) (Classical.byContradiction fun z => by have := (hP b z).2.1; omega)).trans (h.fr.block b hb hq)⟩, Nat.le_trans h.big f.size⟩
end

set_option maxRecDepth 100000 in
set_option maxHeartbeats 4000000 in
theorem store_any (w : World) (n pb fb base lo : Nat) (s : List Nat × List Nat) (C : List (List Int)) (cv : Value) (hn : n ≤ 16777216) (hA : NmAt w n pb fb base s) (hC : ClsAt w lo cv C) (hCn : C.length ≤ 900000000)
    (hL : ∀ x ∈ C, x.length ≤ 4294967296 ∧ ∀ y ∈ x, LitN n y ∧ s.1.getD y.natAbs 0 ≠ 0) :
    Calls Tryd.prog 15 #[.pointer (some ⟨fb, 0, none⟩), cv] w (StorePost w s C) := by
  obtain ⟨ca, cc, rfl, _⟩ := hC.ex
  have hbig := hC.big
  obtain ⟨vv, e1, e2⟩ := hA.ex
  have hvf : ∃ va vc, vv = .slice va s.2.length vc := by
    rcases e2.2 with ⟨q, hq⟩ | ⟨g, cap, cur, a1, _⟩
    · exact ⟨none, 0, by rw [q, hq]⟩
    · exact ⟨_, _, a1⟩
  obtain ⟨va, vc, rfl⟩ := hvf
  have cf1 : w.cell? ⟨fb, 1, none⟩ = some (.slice va s.2.length vc) := by rw [block_cell e1]; rfl
  have hfew := hA.ok.few
  have HNS : Hid (Calls _ _ _ _ _) := newStore_any w s.2.length (by omega)
  refine (callsIn_wide (n := 3)).1 ?_
  refine callsIn_of_wp_marks Tryd.func15 rfl trivial ?_ rfl
  simp only [Tryd.ntmps15, List.size_toArray, List.length_cons, List.length_nil, Nat.reduceAdd, Nat.reduceSub, Array.replicate_succ, Array.replicate_zero, List.push_toArray, List.append_toArray, List.nil_append, List.cons_append]
  gi_wp2_with fail
  refine ⟨trivial, (callsIn_wide.2 HNS.out).mono ?_⟩
  rintro e w1 ⟨L0, rfl, hS1, hF1, hO1⟩
  have HS1 : Hid (SAt w1 L0 s.2.length (newP s.2.length)) := hS1
  clear hS1 HNS
  gi_wp2_with fail
  refine ⟨trivial, (callsIn_wide.2 (sets_any _ fb ca C.length cc)).mono ?_⟩
  rintro e w3 ⟨rfl, hw3⟩
  gi_wp2_with fail
  clear hw3
  generalize hW0 : ((w1.alloc (.cells #[.pointer (some ⟨L0.sb, 0, none⟩)] 41)).alloc (.cells #[.pointer (some ⟨fb, 0, none⟩)] 39)).alloc (.cells #[.slice ca C.length cc] 22) = W0
  have hsz : W0.heap.size = w1.heap.size + 3 := by rw [← hW0]; simp
  have hB0 : Below w1.heap.size w1 W0 := by rw [← hW0]; exact ((((Below.refl _ w1).alloc (Nat.le_refl _) _).alloc (by simp) _).alloc (by simp; omega) _)
  have hb1 : W0.heap[w1.heap.size]? = some (.cells #[.pointer (some ⟨L0.sb, 0, none⟩)] 41 (0, 0)) := by
    rw [← hW0]
    exact (heap_alloc_old _ _ (by simp; omega)).trans ((heap_alloc_old _ _ (by simp)).trans (heap_alloc_new _ _))
  have hb2 : W0.heap[w1.heap.size + 1]? = some (.cells #[.pointer (some ⟨fb, 0, none⟩)] 39 (0, 0)) := by
    rw [← hW0]
    exact (heap_alloc_old _ _ (by simp)).trans (heap_new (by simp))
  have hb3 : W0.heap[w1.heap.size + 2]? = some (.cells #[.slice ca C.length cc] 22 (0, 0)) := by rw [← hW0]; exact heap_new (by simp)
  clear hW0
  have hsw := hF1.size
  -- what is so of each world between two rounds
  have hFw : ∀ (i : Nat) (W : World), SIx s C w.heap.size w1.heap.size W0 L0.sb i W → Fr (fun _ => True) w W := fun i W ⟨_, _, h⟩ =>
    ⟨h.fr.os.trans (hB0.os.trans hF1.os), h.fr.tape.trans (hB0.tape.trans hF1.tape), h.fr.output.trans (hB0.output.trans hF1.output), by have := h.fr.size; omega, fun b hb _ => (h.fr.block b (by omega) (.inl hb)).trans ((hB0.block b (by omega)).trans (hF1.block b hb trivial))⟩
  have hbx : ∀ (i : Nat) (W : World) (b : Nat), SIx s C w.heap.size w1.heap.size W0 L0.sb i W → w1.heap.size ≤ b → b < W0.heap.size → W.heap[b]? = W0.heap[b]? := fun i W b ⟨_, _, h⟩ q1 q2 => h.fr.block b q2 (.inr q1)
  have hIb : ∀ i W W', SIx s C w.heap.size w1.heap.size W0 L0.sb i W → Below W.heap.size W W' → SIx s C w.heap.size w1.heap.size W0 L0.sb i W' := fun i W W' ⟨cs, L, h⟩ hb => ⟨cs, _, h.go (P := fun _ => True) (Fr.below hb) (fun b q => absurd trivial q)⟩
  have hIp : ∀ i (W : World) o, SIx s C w.heap.size w1.heap.size W0 L0.sb i W → SIx s C w.heap.size w1.heap.size W0 L0.sb i (W.putObj (W0.heap.size + 1) o) := fun i W o ⟨cs, L, h⟩ => ⟨cs, _, h.go (P := (· ≠ W0.heap.size + 1)) ((Fr.refl _ W).put (by simp) o) (fun b q => by have : b = W0.heap.size + 1 := Classical.not_not.1 q; omega)⟩
  have hso : ∀ (i : Nat) (W : World) (cs : List (List Nat)) (L : Ly), SI s C w.heap.size w1.heap.size W0 L0.sb i W cs L → i ≤ C.length → SO s.2.length i (addAll (newP s.2.length) cs) := fun i W cs L h hi => by
    have := addAll_SO cs 0 (newP s.2.length) (newP_SO _) (fun c hc => ?_) (by have := h.len; omega)
    · rw [Nat.zero_add, h.len] at this; exact this
    · obtain ⟨j, hj, he⟩ := List.getElem_of_mem hc
      have hjC : j < C.length := by have := h.len; omega
      have hs := h.set j _ c (List.getElem?_eq_getElem hjC) (by rw [List.getElem?_eq_getElem hj, he])
      refine ⟨hs.nodup, fun x hx => ?_⟩
      obtain ⟨y, hy, rfl⟩ := List.mem_map.1 ((hs.mem x).1 hx)
      exact litV_lt hA.ok ((hL _ (List.getElem_mem hjC)).2 y hy).2
  refine range_go (F := Fence.wide) (n := 3) rfl (by omega) (gf := 42) (lb := #[.pointer (some ⟨w1.heap.size + 1 + 1, 0, none⟩), .pointer (some ⟨w1.heap.size + 1, 0, none⟩)]) rfl trivial (enters_of Tryd.func42 (by kernel_rfl) rfl) C.length (SIx s C w.heap.size w1.heap.size W0 L0.sb)
    (fun i W v => ∃ Wb x c b d, SIx s C w.heap.size w1.heap.size W0 L0.sb i Wb ∧ Fr (· ≠ W0.heap.size + 1) Wb W ∧ Hand s C i Wb W x c b d ∧ v = #[.slice (some ⟨b, 0, none⟩) c.length x.length]) (fun _ _ => True) (fun _ _ _ _ _ => trivial) (fun _ _ => trivial) hIb hIp ?hAp ?hAs ?hit ?h0
    (fun v => { tmps := #[.pointer (some ⟨fb, 0, none⟩), .slice ca C.length cc, undef, undef, .pointer none, .pointer (some ⟨w1.heap.size, 0, none⟩), v.getD 0 undef, .pointer (some ⟨fb, 0, none⟩), .pointer (some ⟨fb, 0, none⟩), .pointer (some ⟨fb, 1, none⟩), .slice va s.2.length vc, .int .i64 (s.2.length : Int), .pointer (some ⟨L0.sb, 0, none⟩), .pointer (some ⟨fb, 0, none⟩), .slice ca C.length cc, .func (.func 42) #[] #[.pointer (some ⟨w1.heap.size + 1 + 1, 0, none⟩), .pointer (some ⟨w1.heap.size + 1, 0, none⟩)], v.getD 0 undef, undef, undef, undef, undef], defers := [] }) ?hassign ?hbody ?hdone
  case hAp =>
    rintro i W v o ⟨Wb, x, c, b, d, hI, hf, hH, rfl⟩
    have hbig2 : W0.heap.size + 2 ≤ Wb.heap.size := by obtain ⟨_, _, q⟩ := hI; exact q.big
    have hbn : b ≠ W0.heap.size + 1 := by have := hH.new; omega
    exact ⟨Wb, x, c, b, d, hI, hf.put (by simp) o, ⟨hH.x_, hH.set, hH.al, hH.new, (World.putObj_heap_other hbn).trans hH.row, hH.tk, hH.sz⟩, rfl⟩
  case hAs =>
    rintro i W v ⟨Wb, x, c, b, d, hI, hf, hH, rfl⟩
    rfl
  case hit =>
    intro fn J hJb hJI hJs hY hJ0
    refine sets1_in 2 (W0.heap.size + 1) (w1.heap.size + 1 + 1) (w1.heap.size + 1) n pb fb base lo s C (.slice ca C.length cc) J hn hL hJb (fun i W hJ => ?_) (fun i W x c hJ hx hset hal => ?_) (fun i Wb W x c b d hJ hb hH => ?_) _ hJ0
    · have hI := hJI i W hJ
      have hf := hFw i W hI
      refine ⟨?_, ?_, hA.fr hf, hC.of (hf.mono fun _ _ => trivial)⟩
      · rw [block_cell ((hbx i W _ hI (by omega) (by omega)).trans hb3)]; rfl
      · rw [block_cell ((hbx i W _ hI (by omega) (by omega)).trans hb2)]; rfl
    · obtain ⟨cs, L, h⟩ := hJI i W hJ
      refine hJs i W hJ ⟨cs ++ [c], L, by simp [h.len], fun j x' c' hx' hc' => ?_, by rw [addAll_snoc, if_pos hal]; exact h.at_, h.sb_, h.own, h.fr, h.big⟩
      by_cases hj : j < cs.length
      · rw [List.getElem?_append_left hj] at hc'
        exact h.set j x' c' hx' hc'
      · have := (List.getElem?_eq_some_iff.1 hc').1
        simp at this
        have hjl : j = cs.length := by omega
        rw [hjl] at hc'
        have : c = c' := by simpa using hc'
        rw [← this]
        rw [hjl, h.len, hx] at hx'
        cases hx'
        exact hset
    · obtain ⟨f1, f2, f3, f4, f5, f6⟩ := hY i W _ (hJb i Wb W hJ hb) ⟨Wb, x, c, b, d, hJI i Wb hJ, Fr.below hb, hH, rfl⟩
      exact ⟨f1, f2, f3, f4, f5, f6.mono fun e W' q => ⟨q.1, q.2.1⟩⟩
  case h0 =>
    intro fn
    refine ⟨[], nrm L0 w1.heap.size, rfl, fun j x c _ hc => by simp at hc, HS1.out.frl (P := fun _ => True) (Fr.below (hB0.trans ((rg_below _ _ _ _ _ _).mono hB0.size))) (fun b q => absurd trivial q), rfl, fun b q => nrm_zero fun hlt => ?_, Fr.below (rg_below _ _ _ _ _ _), by unfold rgW; simp⟩
    rcases q with q | q
    · exact hO1 b q
    · omega
  case hassign =>
    rintro i v W K ⟨Wb, x, c, b, d, hI, hf, hH, rfl⟩ hK
    gi_wp2_with fail
    exact hK
  case hbody =>
    rintro i v W _ ⟨Wb, x, c, b, d, ⟨cs, L, hSI⟩, hf, hH, rfl⟩
    have hI2 := hSI.go hf (fun b q => by have : b = W0.heap.size + 1 := Classical.not_not.1 q; omega)
    have hIx : SIx s C w.heap.size w1.heap.size W0 L0.sb i W := ⟨cs, _, hI2⟩
    have hxm : x ∈ C := List.mem_of_getElem? hH.x_
    have hiC : i < C.length := (List.getElem?_eq_some_iff.1 hH.x_).1
    have hO := hso i W cs _ hI2 (by omega)
    have hlx : ∀ y ∈ c, y < 2 * s.2.length := fun y hy => by
      obtain ⟨z, hz, rfl⟩ := List.mem_map.1 ((hH.set.mem y).1 hy)
      exact litV_lt hA.ok ((hL x hxm).2 z hz).2
    have hown : (nrm L Wb.heap.size).own b = (0, 0) := nrm_new hH.new
    have HADD := add_any W (nrm L Wb.heap.size) s.2.length i (addAll (newP s.2.length) cs) b c d hI2.at_ hO.F.I hO.R.few (by have := hO.em; omega) hO.rl (by omega) ⟨hH.row, hH.tk, by rw [hH.sz]; exact (hL x hxm).1, hown⟩ hlx
    rw [hI2.sb_, hH.sz] at HADD
    have HADD2 : Hid (Calls _ _ _ _ _) := HADD
    have cs0 : W.cell? ⟨w1.heap.size, 0, none⟩ = some (.pointer (some ⟨L0.sb, 0, none⟩)) := by rw [block_cell ((hbx i W _ hIx (by omega) (by omega)).trans hb1)]; rfl
    clear HADD
    gi_wp2_with fail
    refine ⟨trivial, (CallsIn.inRound _ (callsIn_wide.2 HADD2.out)).mono ?_⟩
    rintro e W' ⟨rfl, L3, h3, h4, _⟩
    gi_wp2_with fail
    have hbb : W0.heap.size + 2 ≤ Wb.heap.size := hSI.big
    have hbn := hH.new
    have hWs := hI2.big
    have hold : ∀ k, k < W.heap.size → k ≠ b → (k < w.heap.size ∨ w1.heap.size ≤ k ∧ k < W0.heap.size + 2) → W'.heap[k]? = W.heap[k]? := fun k q1 q2 q3 => h4.block k q1 q2 (hI2.own k q3)
    have hbW := block_lt hH.row
    refine ⟨hold _ (by omega) (by omega) (.inr ⟨by omega, by omega⟩), hold _ (by omega) (by omega) (.inr ⟨by omega, by omega⟩), trivial, cs ++ [c], L3, by simp [hSI.len], fun j x' c' hx' hc' => ?_, ?_, h4.sb.trans hI2.sb_, fun k q => ?_, ⟨h4.os.trans hI2.fr.os, h4.tape.trans hI2.fr.tape, h4.output.trans hI2.fr.output, Nat.le_trans hI2.fr.size h4.size, fun k q1 q2 => ?_⟩, Nat.le_trans hWs h4.size⟩
    · by_cases hj : j < cs.length
      · rw [List.getElem?_append_left hj] at hc'
        exact hSI.set j x' c' hx' hc'
      · have := (List.getElem?_eq_some_iff.1 hc').1
        simp at this
        have hjl : j = cs.length := by omega
        rw [hjl] at hc'
        have : c = c' := by simpa using hc'
        rw [← this]
        rw [hjl, hSI.len, hH.x_] at hx'
        cases hx'
        exact hH.set
    · rw [addAll_snoc, if_neg (by rw [hH.al]; simp)]
      exact h3
    · have hk : k < W.heap.size := by omega
      exact (h4.own k hk (by omega)).trans (hI2.own k q)
    · refine (hold k (by omega) (by omega) ?_).trans (hI2.fr.block k q1 q2)
      rcases q2 with z | z
      · exact .inl z
      · exact .inr ⟨z, by omega⟩
  case hdone =>
    rintro W ⟨cs, L, h⟩ hK
    have cs0 : W.cell? ⟨w1.heap.size, 0, none⟩ = some (.pointer (some ⟨L0.sb, 0, none⟩)) := by rw [block_cell ((hbx _ W _ ⟨cs, L, h⟩ (by omega) (by omega)).trans hb1)]; rfl
    have hf := hFw _ W ⟨cs, L, h⟩
    gi_wp2_with fail
    refine ⟨by simp, .inl ⟨_, _, rfl, run_takeDeferred hK, ?_⟩⟩
    refine ⟨_, results_tmp rfl _ _ _, cs, nrm L W.heap.size, by rw [← h.sb_]; rfl, h.len, h.set, h.at_.frl (P := (· ≠ W0.heap.size)) ((Fr.refl _ W).put (by simp) _) (fun b q => h.own b (.inr (by have : b = W0.heap.size := Classical.not_not.1 q; omega))), ⟨hf.os, hf.tape, hf.output, by have := hf.size; simpa using this, fun b hb _ => (World.putObj_heap_other (by omega)).trans (hf.block b hb trivial)⟩, fun b hb => nrm_zero fun _ => h.own b (.inl hb)⟩

end Go.Proofs.YtbicefgjompnoaaDoor.Sx
/- The program: settle. -/
namespace Go.Proofs.YtbicefgjompnoaaDoor.Sx
open Go.RowKit Go.Sort

/-- the rows of one literal are put anew -/
theorem SAt.putS {W w' : World} {L : Ly} {n : Nat} {s : St} (h : SAt W L n s) (f : Fr (fun b => L.own b ≠ (3, 0)) W w') {v' : Value} {l : List Nat} (ho : OwnR w' L.own (3, 0) 21 1 v' l.length (v32 l)) :
    w'.cell? ⟨L.sb, 1, none⟩ = some L.sv ∧ w'.frozen? ⟨L.sb, 1, none⟩ = false ∧ SAt (w'.setCell ⟨L.sb, 1, none⟩ v') { L with sv := v' } n { s with single := l } ∧ FrS L { L with sv := v' } W (w'.setCell ⟨L.sb, 1, none⟩ v') := by
  have h1 : SAtK (· ≠ (3, 0)) w' L n s := (h.1.mono (K' := (· ≠ (3, 0))) fun _ _ => trivial).fr fun b hb hne => f.block b hb hne
  obtain ⟨h2, h3⟩ := h1.st (by decide)
  obtain ⟨k1, k2, k3⟩ := h1.setSt (by decide) 1 v'
  refine ⟨by rw [block_cell h2]; rfl, frozen_block h2 1, ⟨⟨fun _ => ⟨k2, k3⟩, fun _ => k1.wt (by decide), fun _ => k1.tr (by decide), fun _ => k1.wy (by decide), fun _ => k1.dp (by decide), fun _ => k1.ro (by decide), fun _ => ?_, fun _ => k1.ta (by decide), fun _ => k1.cu (by decide), fun l _ => k1.wl l (by simp), fun r _ => k1.rl r (by simp)⟩, ⟨h.2.n_, h.2.tr, h.2.wy, h.2.dp, h.2.wt, h.2.wv, h.2.rr, h.2.t3, h.2.lit, h.2.few, h.2.rows⟩⟩, ?_⟩
  · exact ho.fr fun b _ hk => Below.heap_setCell w' ⟨L.sb, 1, none⟩ _ b (fun e => by rw [show b = L.sb from e, h3] at hk; cases hk)
  · refine ⟨f.os, f.tape, f.output, by have := f.size; simpa using this, fun b hb hz => ?_, fun _ _ => rfl, rfl⟩
    rw [Below.heap_setCell w' ⟨L.sb, 1, none⟩ _ b (fun e => by rw [show b = L.sb from e, h3] at hz; cases hz)]
    exact f.block b hb (by rw [hz]; decide)

/-- what begin comes to, of a book -/
theorem beg_of {w w' : World} {L : Ly} {n : Nat} {s : St} {e : Ending} (hB : BB n s) (h : BegS w L n (LkI n) (freshS s) e w') : ∃ (s' : St) (b : Bool) (L' : Ly), e = .returned (.bool b) ∧ SAt w' L' n s' ∧ FrS L L' w w' ∧ BI n s' b (!b) ∧ SC s s' := by
  rcases h with ⟨h1, rfl, L', h2, h3⟩ | ⟨h1, h2, rfl, L', h3, h4⟩ | ⟨h1, h2, k, r, h3, _, rfl, L', h4, h5⟩
  · exact ⟨_, false, L', rfl, h2, h3, settle_empty hB h1, RP.refl _, rfl⟩
  · obtain ⟨q1, q2⟩ := settle_single hB h2
    exact ⟨_, false, L', rfl, h3, h4, q1, q2⟩
  · obtain ⟨q1, q2⟩ := settle_follow hB h1 h2 h3
    exact ⟨r.1, _, L', rfl, h4, h5, q1, q2⟩

theorem FrX.set {cb : Nat} {L L' : Ly} {w w' : World} (h : FrX cb L L' w w') (i : Nat) (v : Value) : FrX cb L L' w (w'.setCell ⟨cb, i, none⟩ v) :=
  ⟨h.os, h.tape, h.output, by have := h.size; simpa using this, fun b hb hne ho => (Below.heap_setCell w' ⟨cb, i, none⟩ v b (fun e => hne e)).trans (h.block b hb hne ho), h.own, h.sb⟩
theorem FrX.drew {cb : Nat} {L L' : Ly} {w w' : World} (h : FrX cb L L' w w') : FrX cb L L' w w'.drew := ⟨h.os, h.tape, h.output, h.size, h.block, h.own, h.sb⟩
end Go.Proofs.YtbicefgjompnoaaDoor.Sx
/- The program: settle, whatever is known; back, deferred. -/
namespace Go.Proofs.YtbicefgjompnoaaDoor.Sx
open Go.RowKit Go.Sort

end Go.Proofs.YtbicefgjompnoaaDoor.Sx
/- The program: mustBe. -/
namespace Go.Proofs.YtbicefgjompnoaaDoor.Sx
open Go.RowKit Go.Sort

end Go.Proofs.YtbicefgjompnoaaDoor.Sx
