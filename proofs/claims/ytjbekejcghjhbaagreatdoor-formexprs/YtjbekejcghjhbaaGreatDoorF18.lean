/- The writer: text is put together. -/
import Derived.Test.YtjbekejcghjhbaaGreatDoorF10
import Derived.Lib.AppendStr
import Derived.Lib.UnsafeStr
import Derived.Lib.LaidTab
import Derived.Lib.OthersKept
import Derived.Lib.OwnKind
import Derived.Shelf.Strings.Builder1
import Derived.Deep.Cut
import Derived.Test.YtjbekejcghjhbaaGreatDoorF11
import Derived.Deep.RegionHeld3
namespace Go.Proofs.YtjbekejcghjhbaaGreatDoor.Sx
open Go.RowKit Go.Sort

theorem infoB : (Tryz.prog.info? 5).map (fun i => (i.zero, i.size, i.bytes)) = some (some (.int .u8 0), 1, 1) := by kernel_rfl

def ccRen : Go.Shelf.Ren := ⟨fun | 240 => 132 | 276 => 181 | n => n, fun | 0 => 0 | 4 => 4 | 9 => 9 | 20 => 20 | 70 => 73 | 72 => 76 | 37 => 74 | 5 => 5 | 164 => 178 | n => n, fun | n => n⟩
theorem ccLays : Lays.n240 Tryz.prog ccRen := {
  mixed := by kernel_rfl
  f240 := Tryz.func132.trans (congrArg some (by kernel_rfl))
  f276 := Tryz.func181.trans (congrArg some (by kernel_rfl))
  t0 := Tryz.underlying0
  a0 := Tryz.isAgg0
  z0 := Tryz.sizeOf0
  v0 := Tryz.zeroValue0
  t4 := Tryz.underlying4
  a4 := Tryz.isAgg4
  z4 := Tryz.sizeOf4
  v4 := Tryz.zeroValue4
  t9 := Tryz.underlying9
  a9 := Tryz.isAgg9
  z9 := Tryz.sizeOf9
  v9 := Tryz.zeroValue9
  t20 := Tryz.underlying20
  a20 := Tryz.isAgg20
  z20 := Tryz.sizeOf20
  v20 := Tryz.zeroValue20
  t70 := Tryz.underlying73
  a70 := Tryz.isAgg73
  z70 := Tryz.sizeOf73
  v70 := Tryz.zeroValue73
  t72 := Tryz.underlying76
  a72 := Tryz.isAgg76
  z72 := Tryz.sizeOf76
  v72 := Tryz.zeroValue76
  t164 := Tryz.underlying178
  a164 := Tryz.isAgg178
  z164 := Tryz.sizeOf178
  v164 := Tryz.zeroValue178 }
theorem ccX : Builder.X72 Tryz.prog ccRen := {
  sizeBuilder := by kernel_rfl
  liesBuilder := by kernel_rfl }

theorem cc_used (b : Nat) (w : World) (h0 : w.cell? ⟨b, 0, none⟩ = some (.pointer (some ⟨b, 0, none⟩))) :
    Calls Tryz.prog 132 #[.pointer (some ⟨b, 0, none⟩)] w fun e w' => e = .returned (.tuple #[]) ∧ w' = w := Any.Builder_copyCheck_used ccLays ccX b w h0
theorem writer_size : (Tryz.prog.info? 76).map (·.size) = some 2 := by kernel_rfl
theorem writer_lies : liesAt Tryz.prog Tryz.prog.depth 97 (2 / Tryz.prog.cellsOf 97) 0 76 1 = true := by kernel_rfl
set_option maxHeartbeats 1000000 in
set_option maxRecDepth 100000 in
theorem cc_fresh (b : Nat) (w : World) (h0 : w.cell? ⟨b, 0, none⟩ = some (.pointer none)) (hsh : w.shape? b = some (97, 2)) (hfz : w.frozen? ⟨b, 0, none⟩ = false) :
    Calls Tryz.prog 132 #[.pointer (some ⟨b, 0, none⟩)] w fun e w' => e = .returned (.tuple #[]) ∧ w' = w.setCell ⟨b, 0, none⟩ (.pointer (some ⟨b, 0, none⟩)) := by
  obtain ⟨j, hj, hjs⟩ := Option.map_eq_some_iff.1 writer_size
  go_enter Tryz.func132, Tryz.ntmps132
  go_wp2
  rw [Lib.run_to_unsafe w ⟨b, 0, none⟩ Tryz.underlying73 Tryz.underlying178 hj (by rw [hjs]; decide) hsh (Nat.zero_lt_succ 1)]
  simp only [Result.andThen]
  rw [Oper.upon_value]
  go_wp2
  rw [run_callFunc_extern Tryz.func181 (by kernel_rfl) (by kernel_rfl) (by kernel_rfl) (e := Extern.AbiNoEscape.same) (by kernel_rfl)]
  rw [Lib.run_noEscape]
  simp only [Result.andThen]
  rw [Oper.upon_value]
  go_wp2
  rw [Lib.run_from_unsafe w ⟨b, 0, none⟩ Tryz.underlying178 Tryz.underlying73 hj hsh writer_lies]
  simp only [Result.andThen]
  rw [Oper.upon_value]
  go_wp2
  go_end0
  exact ⟨rfl, rfl⟩

theorem cc_any (B b : Nat) (bs : List Value) (w : World) (h : Lib.IsBuilder 97 5 B b bs w) :
    Calls Tryz.prog 132 #[.pointer (some ⟨b, 0, none⟩)] w fun e w' => e = .returned (.tuple #[]) ∧ (Lib.BuilderAt 97 5 B b (.pointer (some ⟨b, 0, none⟩)) bs w' ∧ Below B w w' ∧ Lib.OthersKept 5 (some b) w w') := by
  rcases h with h | h
  · refine (cc_fresh b w h.cell0 h.shape h.frozen0).mono ?_
    rintro e w' ⟨rfl, rfl⟩
    exact ⟨rfl, h.used _, (Below.refl B w).setCell h.1 _, (Lib.OthersKept.refl _ _ w).setCell ⟨b, 0, none⟩ rfl _⟩
  · refine (cc_used b w h.cell0).mono ?_
    rintro e w' ⟨rfl, rfl⟩
    exact ⟨rfl, h, Below.refl B _, Lib.OthersKept.refl _ _ _⟩

set_option maxRecDepth 100000 in
set_option maxHeartbeats 2000000 in
theorem ws_raw (B b : Nat) (bs : List Value) (s : ByteArray) (w : World) (h : Lib.IsBuilder 97 5 B b bs w) (hlen : bs.length + s.size ≤ 140737488355328) (hBw : B ≤ w.heap.size) :
    Calls Tryz.prog 70 #[.pointer (some ⟨b, 0, none⟩), .string s] w fun e w' => e = .returned (.tuple #[.int .i64 s.size, .nilIface]) ∧ (Lib.BuilderAt 97 5 B b (.pointer (some ⟨b, 0, none⟩)) (bs ++ Lib.strCells s) w' ∧ Below B w w' ∧ Lib.OthersKept 5 (some b) w w') := by
  obtain ⟨i0, hi, hz0, hz1, hz2⟩ := info_parts infoB
  go_enter Tryz.func70, Tryz.ntmps70
  go_wp2_with fail
  refine (cc_any B b bs _ h).mono ?_
  rintro e w1 ⟨rfl, h1, hb1, hk1⟩
  obtain ⟨hB, v, hbk, hown, hne⟩ := h1
  have c0 : w1.cell? ⟨b, 0, none⟩ = some (.pointer (some ⟨b, 0, none⟩)) := by rw [Lib.cell_of_heap hbk]; rfl
  have c1 : w1.cell? ⟨b, 1, none⟩ = some v := by rw [Lib.cell_of_heap hbk]; rfl
  go_wp2_with (at_builtin; refine Lib.wpList_append_own_string _ rfl _ _ 74 9 rfl B 5 i0 Tryz.underlying74 Tryz.underlying9 hi hz0 hz1 hz2 _ _ _ rfl hown s rfl ?c3 ?c4 ?c5 ?_)
  case c3 => unfold maxLen; omega
  case c4 => omega
  case c5 => have := hb1.size; omega
  intro v' w2 hown' hgrow _
  have hlt : b < w1.heap.size := by
    rcases Nat.lt_or_ge b w1.heap.size with h' | h'
    · exact h'
    · simp [Array.getElem?_eq_none h'] at hbk
  have hb2 : w2.heap[b]? = some (.cells #[.pointer (some ⟨b, 0, none⟩), v] 97 (0, 0)) := by
    rw [hgrow.block b hlt (fun e => hne e.symm)]
    exact hbk
  have d0 : w2.cell? ⟨b, 0, none⟩ = some (.pointer (some ⟨b, 0, none⟩)) := by rw [Lib.cell_of_heap hb2]; rfl
  have d1 : w2.cell? ⟨b, 1, none⟩ = some v := by rw [Lib.cell_of_heap hb2]; rfl
  have f1 := Lib.frozen_of_heap hb2 1
  obtain ⟨ao, n', cap, rfl⟩ : ∃ ao n' cap, v' = .slice ao n' cap := by
    rcases hown'.2 with ⟨hv, _⟩ | ⟨g, cap, cur, hv, _⟩
    · exact ⟨_, _, _, hv⟩
    · exact ⟨_, _, _, hv⟩
  go_wp2
  go_ret2
  refine ⟨rfl, ?_, ?_, ?_⟩
  · exact Lib.BuilderAt.put hB hb2 (by simpa [Lib.strCells_length] using hown') (by decide)
  · exact (hb1.grown hgrow (by have := hb1.size; omega) (fun k hk => (hown.lt k hk).1)).setCell hB _
  · exact (hk1.grown hgrow (fun g hg => Lib.ownsRow_kind hown g hg)).setCell _ rfl _

/-- a builder that holds a text; the table of powers -/
structure Bld (B b : Nat) (l : List UInt8) (w : World) : Prop where
  is : Lib.IsBuilder 97 5 B b (Lib.byteCells l) w
  low : B ≤ w.heap.size
  tab : Lib.TabIs Tryz.prog w "internal/strconv.uint64pow10" .u64 Lib.pow10Tab
  glob : 2 < B

theorem pow_global : Tryz.prog.globalNamed "internal/strconv.uint64pow10" = some 2 := by kernel_rfl
theorem own_kept {w w' : World} {B : Nat} {e : TypeId} {v : Value} {n : Nat} {xs : List Value} (h : w.ownsRow B e 1 v n xs) (hb : Below w.heap.size w w') : w'.ownsRow B e 1 v n xs := by
  refine ⟨h.1, ?_⟩
  rcases h.2 with q | ⟨g, cap, cur, h1, h2, h3, h4⟩
  · exact .inl q
  · exact .inr ⟨g, cap, cur, h1, h2, Below.blockAt hb h3, h4⟩
theorem at_kept {w w' : World} {T e : TypeId} {B b : Nat} {p : Value} {bs : List Value} (h : Lib.BuilderAt T e B b p bs w) (hb : Below w.heap.size w w') : Lib.BuilderAt T e B b p bs w' := by
  obtain ⟨h1, v, h2, h3, h4⟩ := h
  exact ⟨h1, v, Below.blockAt hb h2, own_kept h3 hb, h4⟩
theorem tab_below {w w' : World} {B : Nat} (hb : Below B w w') (hg : 2 < B) (h : Lib.TabIs Tryz.prog w "internal/strconv.uint64pow10" .u64 Lib.pow10Tab) : Lib.TabIs Tryz.prog w' "internal/strconv.uint64pow10" .u64 Lib.pow10Tab := by
  unfold Lib.TabIs World.var? at h ⊢
  rw [pow_global] at h ⊢
  simp only [Option.bind_some] at h ⊢
  rw [hb.block 2 hg]
  exact h
theorem Bld.grew {B b : Nat} {l : List UInt8} {w w' : World} (h : Bld B b l w) (hg : Grew w w') : Bld B b l w' := by
  have hb := hg.below
  refine ⟨?_, Nat.le_trans h.low hb.size, tab_below hb (Nat.lt_of_lt_of_le h.glob h.low) h.tab, h.glob⟩
  rcases h.is with q | q
  · exact .inl (at_kept q hb)
  · exact .inr (at_kept q hb)
theorem grew_B {B : Nat} {w w' : World} (hg : Grew w w') (hl : B ≤ w.heap.size) : Below B w w' :=
  ⟨hg.below.os, hg.below.tape, hg.below.output, hg.below.size, fun k hk => hg.below.block k (Nat.lt_of_lt_of_le hk hl)⟩
theorem frB {B : Nat} {w w' : World} (h : Below B w w') : Fr (· < B) w w' := ⟨h.os, h.tape, h.output, h.size, fun i _ hp => h.block i hp⟩

/-- what is kept beside the builder -/
def Kp (B b : Nat) (w w' : World) : Prop := Below B w w' ∧ Lib.OthersKept 5 (some b) w w'
theorem Kp.refl (B b : Nat) (w : World) : Kp B b w w := ⟨Below.refl B w, Lib.OthersKept.refl _ _ _⟩
theorem Kp.trans {B b : Nat} {w1 w2 w3 : World} (h : Kp B b w1 w2) (k : Kp B b w2 w3) : Kp B b w1 w3 := ⟨h.1.trans k.1, h.2.trans k.2⟩
theorem Kp.grew {B b : Nat} {w w' : World} (hg : Grew w w') (hl : B ≤ w.heap.size) : Kp B b w w' := ⟨grew_B hg hl, fun _ _ h _ _ => Below.blockAt hg.below h⟩
theorem Bld.lt {B b : Nat} {l : List UInt8} {w : World} (h : Bld B b l w) : b < w.heap.size := by
  rcases h.is with q | q
  · exact q.lt
  · exact q.lt
/-- what is no row of bytes stays -/
theorem Kp.kept {B b k : Nat} {w w' : World} (h : Kp B b w w') {vs : Array Value} {T : TypeId} (hT : T ≠ 5) (hk : w.heap[k]? = some (.cells vs T (0, 0))) (hb : k ≠ b) : w'.heap[k]? = some (.cells vs T (0, 0)) :=
  h.2 k _ hk (by simpa using hb) (fun c fz e => by injection e with _ e2 _; exact absurd e2 hT)

/-- a text has been put behind -/
def Wrote (B b : Nat) (l t : List UInt8) (w w' : World) : Prop := Bld B b (l ++ t) w' ∧ Kp B b w w'
def WrotePost (B b : Nat) (l t : List UInt8) (w : World) (e : Ending) (w' : World) : Prop := e = .returned (.tuple #[]) ∧ Wrote B b l t w w'

theorem ws_any (B b : Nat) (l : List UInt8) (s : ByteArray) (w : World) (h : Bld B b l w) (hlen : l.length + s.size ≤ 140737488355328) :
    Calls Tryz.prog 70 #[.pointer (some ⟨b, 0, none⟩), .string s] w fun e w' => (∃ k : Nat, e = .returned (.tuple #[.int .i64 k, .nilIface])) ∧ Wrote B b l s.data.toList w w' := by
  refine (ws_raw B b (Lib.byteCells l) s w h.is (by rw [Lib.byteCells_length]; exact hlen) h.low).mono ?_
  rintro e w' ⟨rfl, h1, h2, h3⟩
  exact ⟨⟨_, rfl⟩, ⟨.inr (by rw [Lib.byteCells_append]; exact h1), Nat.le_trans h.low h2.size, tab_below h2 h.glob h.tab, h.glob⟩, h2, h3⟩

end Go.Proofs.YtjbekejcghjhbaaGreatDoor.Sx

namespace Go.Proofs.YtjbekejcghjhbaaGreatDoor.Sx
open Go.RowKit Go.Sort

def catB (ss : List ByteArray) : List UInt8 := ss.flatMap fun s => s.data.toList
theorem catB_take (ss : List ByteArray) (k : Nat) (s : ByteArray) (h : ss[k]? = some s) : catB (ss.take (k + 1)) = catB (ss.take k) ++ s.data.toList := by
  rw [List.take_add_one, h]; simp [catB]
theorem catB_le (ss : List ByteArray) (k : Nat) : (catB (ss.take k)).length ≤ (catB ss).length := by
  have : catB ss = catB (ss.take k) ++ catB (ss.drop k) := by unfold catB; rw [← List.flatMap_append, List.take_append_drop]
  rw [this, List.length_append]; omega
theorem Wrote.nil {B b : Nat} {l : List UInt8} {w : World} (h : Bld B b l w) : Wrote B b l [] w w := ⟨by rw [List.append_nil]; exact h, Kp.refl _ _ _⟩
theorem Wrote.trans {B b : Nat} {l s t : List UInt8} {w1 w2 w3 : World} (h : Wrote B b l s w1 w2) (k : Wrote B b (l ++ s) t w2 w3) : Wrote B b l (s ++ t) w1 w3 := ⟨by rw [← List.append_assoc]; exact k.1, h.2.trans k.2⟩

set_option maxRecDepth 100000 in
set_option maxHeartbeats 1000000 in
theorem wput_any (B b g c : Nat) (l : List UInt8) (w : World) (ss : List ByteArray) (n : Nat) (hn : n = ss.length) (hn9 : n ≤ 1000) (hrow : w.heap[g]? = some (.cells (ss.map Value.string).toArray 9 (0, 0))) (hgb : g ≠ b) (hB : Bld B b l w) (hlen : l.length + (catB ss).length ≤ 140737488355328) :
    Calls Tryz.prog 96 #[.pointer (some ⟨b, 0, none⟩), .slice (some ⟨g, 0, none⟩) n c] w (WrotePost B b l (catB ss) w) := by
  have HR : Hid (w.heap[g]? = _) := hrow
  have HB : Hid (Bld B b l w) := hB
  have HN : Hid (n = ss.length) := hn
  have W0 : Hid (Wrote B b l (catB (ss.take 0)) w w) := Wrote.nil hB
  clear hrow hB hn
  go_enter Tryz.func96, Tryz.ntmps96
  go_wp2_with fail
  go_loopw [8] (fun i wr => ∃ k : Nat, k ≤ n ∧ i = .int .i64 k ∧ Hid (Wrote B b l (catB (ss.take k)) w wr)) (fun i _ => n - (intOf i).toNat)
  case atStart => exact ⟨0, Nat.zero_le _, rfl, W0⟩
  case round =>
    clear W0
    obtain ⟨k, hk, rfl, W1⟩ := hrel
    by_cases hlt : k < n
    · obtain ⟨s, hs⟩ : ∃ s, ss[k]? = some s := ⟨_, List.getElem?_eq_getElem (by have := HN.out; omega)⟩
      have hg := W1.out.2.kept (by decide) HR.out hgb
      have c0 : wr.cell? ⟨g, k, none⟩ = some (.string s) := by
        rw [block_cell hg]; simp [hs]
      have hgl : g < wr.heap.size := block_lt hg
      have HW : Hid (Calls _ _ _ _ _) := ws_any B b (l ++ catB (ss.take k)) s wr W1.out.1 (by
        have h1 := catB_le ss (k + 1)
        rw [catB_take ss k s hs, List.length_append] at h1
        rw [List.length_append]
        have : s.data.toList.length = s.size := by simp
        omega)
      have HT : Hid (catB (ss.take (k + 1)) = _) := catB_take ss k s hs
      clear hs hg
      go_wp2_with (go_at_call 70; refine HW.out.mono ?_; rintro e w2 ⟨⟨q, rfl⟩, hw⟩; have W2 : Hid (Wrote B b l (catB (ss.take (k + 1))) w w2) := (by show Wrote _ _ _ _ _ _; rw [HT.out]; exact W1.out.trans hw); clear hw)
      go_roundw
      case rel => exact ⟨k + 1, by omega, by go_num, W2⟩
      case measure => simp [intOf]; omega
    · obtain rfl : k = n := by omega
      have ht : ss.take k = ss := List.take_of_length_le (by have := HN.out; omega)
      rw [ht] at W1
      clear ht
      go_wp2_with fail
      go_end0
      exact ⟨rfl, W1.out⟩

/-- pieces that are laid for the call -/
theorem put_call (B b : Nat) (l : List UInt8) (w : World) (vs : Array Value) (ss : List ByteArray) (n : Nat) (T : List UInt8) (hvs : vs = (ss.map Value.string).toArray) (hn : n = ss.length) (hn9 : n ≤ 1000) (hT : T = catB ss) (hB : Bld B b l w) (hlen : l.length + T.length ≤ 140737488355328) :
    Calls Tryz.prog 96 #[.pointer (some ⟨b, 0, none⟩), .slice (some ⟨w.heap.size, 0, none⟩) n n] (w.alloc (.cells vs 9)) (WrotePost B b l T w) := by
  subst hvs hT
  have hlt := hB.lt
  refine (wput_any B b w.heap.size n l (w.alloc (.cells (ss.map Value.string).toArray 9)) ss n hn hn9 (heap_new rfl) (by omega) (hB.grew ((Grew.refl w).alloc _)) hlen).mono ?_
  rintro e w' ⟨rfl, h1, h2⟩
  exact ⟨rfl, h1, (Kp.grew ((Grew.refl w).alloc _) hB.low).trans h2⟩
end Go.Proofs.YtjbekejcghjhbaaGreatDoor.Sx

namespace Go.Proofs.YtjbekejcghjhbaaGreatDoor.Sx
open Go.RowKit Go.Sort

def opHoldsX (op : List UInt8) : Nat := if levelF op ≠ 0 then levelF op else if op = oAt ∨ op = oPut then 13 else if op = oNeg then 12 else if op = oFun then 14 else openF op
theorem opHolds_means {op : List UInt8} {kids : List PX} {x : PX} (h : OpMeans op kids x) : opHoldsX op = x.rk := by
  rcases h with ⟨hj, a, b, rfl, rfl⟩ | ⟨rfl, rfl⟩ | ⟨rfl, rfl⟩ | ⟨rfl, rfl⟩ | ⟨rfl, f, k, rfl, rfl⟩ | ⟨rfl, f, k, v, rfl, rfl⟩ | ⟨rfl, a, rfl, rfl⟩ | ⟨ho, a, rfl, rfl⟩ | ⟨ho, a, rfl, rfl⟩ | ⟨ho, rfl⟩
  · have : levelF op ≠ 0 := by
      simp only [joins, List.map_cons, List.map_nil, List.mem_cons, List.not_mem_nil, or_false] at hj
      rcases hj with rfl | rfl | rfl | rfl | rfl | rfl | rfl | rfl | rfl | rfl | rfl | rfl | rfl | rfl | rfl | rfl | rfl | rfl | rfl | rfl | rfl | rfl | rfl | rfl | rfl <;> decide
    unfold opHoldsX
    rw [if_pos this]; rfl
  · show opHoldsX oSet = 14; decide
  · show opHoldsX oSeq = 14; decide
  · show opHoldsX oFun = 14; decide
  · show opHoldsX oAt = 13; decide
  · show opHoldsX oPut = 13; decide
  · show opHoldsX oNeg = 12; decide
  · show opHoldsX op = 6
    simp only [aheads6, List.mem_cons, List.not_mem_nil, or_false] at ho
    rcases ho with rfl | rfl | rfl <;> decide
  · show opHoldsX op = 12
    simp only [aheads12, List.mem_cons, List.not_mem_nil, or_false] at ho
    rcases ho with rfl | rfl | rfl <;> decide
  · show opHoldsX op = 14
    simp only [called7, List.mem_cons, List.not_mem_nil, or_false] at ho
    rcases ho with rfl | rfl | rfl | rfl | rfl | rfl | rfl <;> decide

theorem grip_rank (a b c : Value) (w : World) : (Instr.field 204 (.agg #[a, b, c]) 0).run Tryz.prog w = .ok a w := by kernel_rfl
attribute [local go_sem] grip_rank
set_option maxRecDepth 100000 in
set_option maxHeartbeats 1000000 in
theorem wopHolds_any (w : World) (be sort at' len cap : Nat) (op nm : ByteArray) (n : Int) (pa : Option Addr) (he : EBlk w be sort op nm n at' pa len cap) :
    Calls Tryz.prog 295 #[.pointer (some ⟨be, 0, none⟩)] w fun e w' => e = .returned (.int .i64 (opHoldsX op.data.toList : Int)) ∧ Grew w w' := by
  have HE : Hid (EBlk w be sort op nm n at' pa len cap) := he
  have c1 := block_cell he 1
  have HJ : Hid (Calls _ _ _ _ _) := fjoining_any op w
  have HO : Hid (∀ W : World, _) := fun W => fopening_any op W
  have htl : op.toList = op.data.toList := ByteArray.toList_eq op
  clear he
  have mo := follows
  obtain ⟨q, hq⟩ : ∃ q, opHoldsX op.data.toList = q := ⟨_, rfl⟩
  rw [hq]
  have HQ : Hid (opHoldsX op.data.toList = q) := hq
  clear hq
  by_cases h0 : levelF op.data.toList = 0
  · have HJ2 : Hid (Calls Tryz.prog 151 #[.string op] w fun e w' => e = .returned (.agg #[.int .i64 (-1), .int .i64 0, .int .i64 0]) ∧ Grew w w') := by
      have := HJ.out
      unfold gripV at this
      rw [if_pos h0] at this
      exact this
    have HG : Hid (∀ W, Grew w W → W.cell? ⟨be, 1, none⟩ = some (.string op)) := fun W g => block_cell (HE.out.of (P := fun _ => True) (Fr.grew g) trivial) 1
    have hq := HQ.out
    unfold opHoldsX at hq
    rw [if_neg (by simpa using h0)] at hq
    clear HJ h0
    cases g1 : (op.data.toList == oAt) with
    | true =>
      have k1 : (op.toList == [97, 116]) = true := by rw [htl]; exact g1
      rw [if_pos (.inl (eq_of_beq g1))] at hq
      subst hq
      clear g1 htl HQ
      go_enter Tryz.func295, Tryz.ntmps295
      go_wp2_with (go_at_call 151; refine HJ2.out.mono ?_; rintro e w2 ⟨rfl, hg⟩; have d1 := HG.out w2 hg; have G2 : Hid (Grew w w2) := hg; clear hg)
      go_ret
      exact ⟨rfl, G2.out⟩
    | false =>
      have k1 : (op.toList == [97, 116]) = false := by rw [htl]; exact g1
      cases g2 : (op.data.toList == oPut) with
      | true =>
        have k2 : (op.toList == [112, 117, 116]) = true := by rw [htl]; exact g2
        rw [if_pos (.inr (eq_of_beq g2))] at hq
        subst hq
        clear g1 g2 htl HQ
        go_enter Tryz.func295, Tryz.ntmps295
        go_wp2_with (go_at_call 151; refine HJ2.out.mono ?_; rintro e w2 ⟨rfl, hg⟩; have d1 := HG.out w2 hg; have G2 : Hid (Grew w w2) := hg; clear hg)
        go_ret
        exact ⟨rfl, G2.out⟩
      | false =>
        have k2 : (op.toList == [112, 117, 116]) = false := by rw [htl]; exact g2
        rw [if_neg (fun q => by rcases q with q | q <;> simp [q] at g1 g2)] at hq
        cases g3 : (op.data.toList == oNeg) with
        | true =>
          have k3 : (op.toList == [110, 101, 103]) = true := by rw [htl]; exact g3
          rw [if_pos (eq_of_beq g3)] at hq
          subst hq
          clear g1 g2 g3 htl HQ
          go_enter Tryz.func295, Tryz.ntmps295
          go_wp2_with (go_at_call 151; refine HJ2.out.mono ?_; rintro e w2 ⟨rfl, hg⟩; have d1 := HG.out w2 hg; have G2 : Hid (Grew w w2) := hg; clear hg)
          go_ret
          exact ⟨rfl, G2.out⟩
        | false =>
          have k3 : (op.toList == [110, 101, 103]) = false := by rw [htl]; exact g3
          rw [if_neg (fun q => by simp [q] at g3)] at hq
          cases g4 : (op.data.toList == oFun) with
          | true =>
            have k4 : (op.toList == [102, 117, 110]) = true := by rw [htl]; exact g4
            rw [if_pos (eq_of_beq g4)] at hq
            subst hq
            clear g1 g2 g3 g4 htl HQ
            go_enter Tryz.func295, Tryz.ntmps295
            go_wp2_with (go_at_call 151; refine HJ2.out.mono ?_; rintro e w2 ⟨rfl, hg⟩; have d1 := HG.out w2 hg; have G2 : Hid (Grew w w2) := hg; clear hg)
            go_ret
            exact ⟨rfl, G2.out⟩
          | false =>
            have k4 : (op.toList == [102, 117, 110]) = false := by rw [htl]; exact g4
            rw [if_neg (fun q => by simp [q] at g4)] at hq
            have HQ2 : Hid (openF op.data.toList = q) := hq
            clear g1 g2 g3 g4 htl HQ hq
            go_enter Tryz.func295, Tryz.ntmps295
            go_wp2_with (first | (go_at_call 151; refine HJ2.out.mono ?_; rintro e w2 ⟨rfl, hg⟩; have d1 := HG.out w2 hg; have G2 : Hid (Grew w w2) := hg; clear hg) | (go_at_call 149; refine (HO.out _).mono ?_; rintro e w3 ⟨rfl, hw⟩; cases hw))
            go_ret
            exact ⟨by rw [HQ2.out]; rfl, G2.out⟩
  · have HJ2 : Hid (Calls Tryz.prog 151 #[.string op] w fun e w' => e = .returned (.agg #[.int .i64 (levelF op.data.toList : Int), .int .i64 (leftF (levelF op.data.toList) : Int), .int .i64 (rightF (levelF op.data.toList) : Int)]) ∧ Grew w w') := by
      have := HJ.out
      unfold gripV at this
      rw [if_neg h0] at this
      exact this
    have hq := HQ.out
    unfold opHoldsX at hq
    rw [if_pos h0] at hq
    obtain ⟨lv, hlv⟩ : ∃ lv, levelF op.data.toList = lv := ⟨_, rfl⟩
    rw [hlv] at HJ2 hq
    subst hq
    have k0 : ((lv : Int) != -1) = true := by rw [bne_iff_ne]; omega
    clear HJ h0 HQ hlv htl
    go_enter Tryz.func295, Tryz.ntmps295
    go_wp2_with (go_at_call 151; refine HJ2.out.mono ?_; rintro e w2 ⟨rfl, hg⟩; have G2 : Hid (Grew w w2) := hg; clear hg)
    go_ret
    exact ⟨rfl, G2.out⟩

theorem bind_rk (op nm : List UInt8) (a b : PX) (ho : op ∈ binds4 ∨ op ∈ binds2) : openF op = (dBind op nm a b).rk := by
  simp only [binds4, binds2, List.mem_cons, List.not_mem_nil, or_false] at ho
  rcases ho with (rfl | rfl | rfl | rfl) | (rfl | rfl) <;> rfl
set_option maxRecDepth 100000 in
set_option maxHeartbeats 1000000 in
theorem wholds_any (w : World) (be sort at' len cap : Nat) (op nm : ByteArray) (n : Int) (pa : Option Addr) (kids : List PX) (x : PX) (he : EBlk w be sort op nm n at' pa len cap) (hm : Means sort op.data.toList nm.data.toList n kids x) :
    Calls Tryz.prog 248 #[.pointer (some ⟨be, 0, none⟩)] w fun e w' => e = .returned (.int .i64 (x.rk : Int)) ∧ Grew w w' := by
  have c0 := block_cell he 0
  have c1 := block_cell he 1
  have HOH : Hid (Calls _ _ _ _ _) := wopHolds_any w be sort at' len cap op nm n pa he
  have HO : Hid (Calls _ _ _ _ _) := fopening_any op w
  clear he
  have mo := follows
  rcases hm with ⟨rfl, -, -, rfl⟩ | ⟨rfl, rfl⟩ | ⟨rfl, rfl⟩ | ⟨rfl, rfl⟩ | ⟨rfl, rfl⟩ | ⟨rfl, rfl⟩ | ⟨rfl, rfl⟩ | ⟨rfl, rfl⟩ | ⟨rfl, a, b, c, rfl, rfl⟩ | ⟨rfl, a, b, rfl, rfl⟩ | ⟨rfl, ho, a, b, rfl, rfl⟩ | ⟨hs, hop⟩
  case inr.inr.inr.inr.inr.inr.inr.inr.inr.inr.inl =>
    rw [← bind_rk _ nm.data.toList a b ho]
    clear ho
    go_enter Tryz.func248, Tryz.ntmps248
    go_wp2_with (go_at_call 149; refine HO.out.mono ?_; rintro e w3 ⟨rfl, hw⟩; cases hw)
    go_ret
    exact ⟨rfl, Grew.refl _⟩
  case inr.inr.inr.inr.inr.inr.inr.inr.inr.inr.inr =>
    rw [← opHolds_means hop]
    clear hop
    rcases hs with rfl | rfl
    all_goals
      go_enter Tryz.func248, Tryz.ntmps248
      go_wp2_with (go_at_call 295; refine HOH.out.mono ?_; rintro e w3 ⟨rfl, hg⟩; have G3 : Hid (Grew w w3) := hg; clear hg)
      go_ret
      exact ⟨rfl, G3.out⟩
  all_goals
    go_enter Tryz.func248, Tryz.ntmps248
    go_wp2_with fail
    go_ret
    exact ⟨rfl, Grew.refl _⟩
end Go.Proofs.YtjbekejcghjhbaaGreatDoor.Sx

namespace Go.Proofs.YtjbekejcghjhbaaGreatDoor.Sx
open Go.RowKit Go.Sort

/-- trees so deep are written as they should -/
def WrE (n : Nat) : Prop := ∀ (B b : Nat) (l : List UInt8) (w : World) (x : PX) (v : Value), RepE (· < B) w n x v → Bld B b l w → l.length + x.tx.length ≤ 140737488355328 → Calls Tryz.prog 56 #[.pointer (some ⟨b, 0, none⟩), v] w (WrotePost B b l x.tx w)
theorem RepE.kp {B b n : Nat} {w w' : World} {x : PX} {v : Value} (h : RepE (· < B) w n x v) (k : Kp B b w w') : RepE (· < B) w' n x v := RepE.fr (frB k.1) (fun _ _ q => q) n x v h
theorem RowP.kp {B b n : Nat} {w w' : World} {a : Option Addr} {len : Nat} {es : List PX} (h : RowP (· < B) w (RepE (· < B) w n) a len es) (k : Kp B b w w') : RowP (· < B) w' (RepE (· < B) w' n) a len es := RowP.fr (frB k.1) (fun _ _ h => h.kp k) (fun _ _ q => q) h
theorem EBlk.kp {B b be sort at' len cap : Nat} {op nm : ByteArray} {n : Int} {pa : Option Addr} {w w' : World} (h : EBlk w be sort op nm n at' pa len cap) (k : Kp B b w w') (hb : be < B) : EBlk w' be sort op nm n at' pa len cap := h.of (frB k.1) hb
theorem Wrote.kp {B b : Nat} {l t : List UInt8} {w w' : World} (h : Wrote B b l t w w') : Kp B b w w' := h.2
theorem Wrote.grew {B b : Nat} {l t : List UInt8} {w w' w2 : World} (h : Wrote B b l t w w') (g : Grew w' w2) : Wrote B b l t w w2 := ⟨h.1.grew g, h.2.trans (Kp.grew g h.1.low)⟩
/-- text more -/
theorem Wrote.put {B b : Nat} {l t s u : List UInt8} {w w1 w2 : World} (h : Wrote B b l t w w1) (k : Wrote B b (l ++ t) s w1 w2) (e : t ++ s = u) : Wrote B b l u w w2 := by rw [← e]; exact h.trans k

set_option maxRecDepth 100000 in
set_option maxHeartbeats 1000000 in
theorem wpart_any {n : Nat} (hW : WrE n) (B b : Nat) (l : List UInt8) (w : World) (x : PX) (v : Value) (q : Nat) (hx : RepE (· < B) w n x v) (hB : Bld B b l w) (hlen : l.length + (partX x q).length ≤ 140737488355328) :
    Calls Tryz.prog 150 #[.pointer (some ⟨b, 0, none⟩), v, .int .i64 (q : Int)] w (WrotePost B b l (partX x q) w) := by
  have HX : Hid (RepE (· < B) w n x v) := hx
  have HB : Hid (Bld B b l w) := hB
  have HW : Hid (WrE n) := hW
  obtain ⟨be, rfl, HH⟩ : ∃ be, v = .pointer (some ⟨be, 0, none⟩) ∧ Hid (Calls Tryz.prog 248 #[.pointer (some ⟨be, 0, none⟩)] w fun e w' => e = .returned (.int .i64 (x.rk : Int)) ∧ Grew w w') := by
    cases n with
    | zero => exact absurd hx id
    | succ n =>
      obtain ⟨be, sort, op, nm, i, a, pa, len, cap, kids, rfl, h2, h3, h4, h5⟩ := hx
      exact ⟨be, rfl, wholds_any w be sort a len cap op nm i pa kids x h3 h5⟩
  have W0 : Hid (Wrote B b l [] w w) := Wrote.nil hB
  clear hx hB hW
  unfold partX at hlen ⊢
  by_cases hq : x.rk < q
  · rw [if_pos hq] at hlen ⊢
    have hq' : ¬ (q : Int) ≤ (x.rk : Int) := by omega
    clear hq
    simp only [List.length_cons, List.length_append, List.length_nil] at hlen
    go_enter Tryz.func150, Tryz.ntmps150
    go_wp2_with (go_at_call 248; refine HH.out.mono ?_; rintro e w1 ⟨rfl, hg⟩; have W1 : Hid (Wrote B b l [] w w1) := W0.out.grew hg; clear hg)
    refine (put_call B b (l ++ []) w1 _ [⟨#[40]⟩] 1 [40] rfl rfl (by decide) rfl W1.out.1 (by simp; omega)).mono ?_
    rintro e w2 ⟨rfl, hw⟩
    have W2 : Hid (Wrote B b l [40] w w2) := W1.out.put hw rfl
    clear hw W1 W0 HH
    go_wp2_with fail
    refine (HW.out B b (l ++ [40]) w2 x _ (HX.out.kp W2.out.kp) W2.out.1 (by simp; omega)).mono ?_
    rintro e w3 ⟨rfl, hw⟩
    have W3 : Hid (Wrote B b l (40 :: x.tx) w w3) := W2.out.put hw rfl
    clear hw W2
    go_wp2_with fail
    refine (put_call B b (l ++ (40 :: x.tx)) w3 _ [⟨#[41]⟩] 1 [41] rfl rfl (by decide) rfl W3.out.1 (by simp; omega)).mono ?_
    rintro e w4 ⟨rfl, hw⟩
    have W4 : Hid (Wrote B b l (40 :: (x.tx ++ [41])) w w4) := W3.out.put hw rfl
    clear hw W3
    go_wp2_with fail
    go_end0
    exact ⟨rfl, W4.out⟩
  · rw [if_neg hq] at hlen ⊢
    have hq' : (q : Int) ≤ (x.rk : Int) := by omega
    clear hq
    go_enter Tryz.func150, Tryz.ntmps150
    go_wp2_with (go_at_call 248; refine HH.out.mono ?_; rintro e w1 ⟨rfl, hg⟩; have W1 : Hid (Wrote B b l [] w w1) := W0.out.grew hg; clear hg)
    refine (HW.out B b (l ++ []) w1 x _ (HX.out.kp W1.out.kp) W1.out.1 (by simp; omega)).mono ?_
    rintro e w2 ⟨rfl, hw⟩
    have W2 : Hid (Wrote B b l x.tx w w2) := W1.out.put hw rfl
    clear hw W1 W0 HH
    go_wp2_with fail
    refine bodyPost_ret (results_none rfl _ _ _) rfl ?_
    exact ⟨rfl, W2.out⟩
end Go.Proofs.YtjbekejcghjhbaaGreatDoor.Sx

namespace Go.Proofs.YtjbekejcghjhbaaGreatDoor.Sx
open Go.RowKit Go.Sort

def seps (sep : Nat → List UInt8) (kids : List PX) (k : Nat) : List UInt8 := sepFrom sep 0 ((kids.take k).map PX.tx)
theorem sepFrom_snoc (sep : Nat → List UInt8) (a : List UInt8) : ∀ (l : List (List UInt8)) (i : Nat), sepFrom sep i (l ++ [a]) = sepFrom sep i l ++ (sep (i + l.length) ++ a)
  | [], i => by simp [sepFrom]
  | c :: l, i => by
    have := sepFrom_snoc sep a l (i + 1)
    simp only [List.cons_append, sepFrom, List.length_cons] at this ⊢
    rw [this, show i + 1 + l.length = i + (l.length + 1) from by omega]
    simp
theorem seps_step (sep : Nat → List UInt8) (kids : List PX) (k : Nat) (x : PX) (h : kids[k]? = some x) : seps sep kids (k + 1) = seps sep kids k ++ (sep k ++ x.tx) := by
  have hk := (List.getElem?_eq_some_iff.1 h).1
  unfold seps
  rw [List.take_add_one, h, Option.toList_some, List.map_append, List.map_cons, List.map_nil, sepFrom_snoc]
  simp only [List.length_map, List.length_take, Nat.zero_add]
  rw [show min k kids.length = k from by omega]
theorem seps_all (sep : Nat → List UInt8) (kids : List PX) (k : Nat) (h : kids.length ≤ k) : seps sep kids k = sepFrom sep 0 (kids.map PX.tx) := by
  unfold seps; rw [List.take_of_length_le h]
theorem sepFrom_le (sep : Nat → List UInt8) : ∀ (l m : List (List UInt8)) (i : Nat), (sepFrom sep i l).length ≤ (sepFrom sep i (l ++ m)).length
  | [], m, i => by simp [sepFrom]
  | c :: l, m, i => by
    have := sepFrom_le sep l m (i + 1)
    simp only [List.cons_append, sepFrom, List.length_append] at this ⊢
    omega
theorem seps_le (sep : Nat → List UInt8) (kids : List PX) (k : Nat) : (seps sep kids k).length ≤ (sepFrom sep 0 (kids.map PX.tx)).length := by
  have := sepFrom_le sep ((kids.take k).map PX.tx) ((kids.drop k).map PX.tx) 0
  rw [← List.map_append, List.take_append_drop] at this
  exact this
theorem rowP_at {P : Nat → Prop} {w : World} {R : PX → Value → Prop} {a : Option Addr} {len : Nat} {es : List PX} (h : RowP P w R a len es) {k : Nat} (hk : k < len) : ∃ b off x v, a = some ⟨b, off, none⟩ ∧ b < w.heap.size ∧ es[k]? = some x ∧ w.cell? ⟨b, off + k, none⟩ = some v ∧ R x v := by
  obtain ⟨h1, -, h3⟩ := h
  obtain ⟨b, off, e, hb, -, h4⟩ := h3.resolve_left (by omega)
  obtain ⟨x, hx⟩ : ∃ x, es[k]? = some x := ⟨_, List.getElem?_eq_getElem (by omega)⟩
  obtain ⟨v, hv, hr⟩ := h4 k x hx
  exact ⟨b, off, x, v, e, hb, hx, hv, hr⟩
theorem RepE.ptr {P : Nat → Prop} {w : World} {n : Nat} {x : PX} {v : Value} (h : RepE P w n x v) : ∃ b, v = .pointer (some ⟨b, 0, none⟩) := by
  obtain ⟨b, h1, -⟩ := TreeE.ptr ⟨n, h⟩
  exact ⟨b, h1⟩

set_option maxRecDepth 100000 in
set_option maxHeartbeats 1000000 in
theorem wlist_any {n : Nat} (hW : WrE n) (B b : Nat) (l : List UInt8) (w : World) (op cl : ByteArray) (pa : Option Addr) (len cap : Nat) (kids : List PX) (hr : RowP (· < B) w (RepE (· < B) w n) pa len kids) (hB : Bld B b l w)
    (hlen : l.length + (op.data.toList ++ (commasX kids ++ cl.data.toList)).length ≤ 140737488355328) :
    Calls Tryz.prog 97 #[.pointer (some ⟨b, 0, none⟩), .string op, .slice pa len cap, .string cl] w (WrotePost B b l (op.data.toList ++ (commasX kids ++ cl.data.toList)) w) := by
  have HR : Hid (RowP (· < B) w (RepE (· < B) w n) pa len kids) := hr
  have HB : Hid (Bld B b l w) := hB
  have HW : Hid (WrE n) := hW
  have HN : Hid (len = kids.length) := hr.1
  have hl4 : len ≤ 4294967296 := hr.2.1
  have hsz1 : op.data.toList.length = op.size := by simp
  have hsz2 : cl.data.toList.length = cl.size := by simp
  simp only [List.length_append] at hlen
  have HL : Hid (l.length + (op.data.toList.length + ((commasX kids).length + cl.data.toList.length)) ≤ 140737488355328) := hlen
  clear hr hB hW hlen hsz1 hsz2
  go_enter Tryz.func97, Tryz.ntmps97
  go_wp2_with fail
  refine (put_call B b l w _ [op] 1 op.data.toList rfl rfl (by decide) (by simp [catB]) HB.out (by have := HL.out; omega)).mono ?_
  rintro e w1 ⟨rfl, hw⟩
  have W1 : Hid (Wrote B b l (op.data.toList ++ seps commaS kids 0) w w1) := by
    show Wrote _ _ _ _ _ _
    rw [show seps commaS kids 0 = [] from rfl, List.append_nil]; exact hw
  clear hw
  go_wp2_with fail
  go_loopw [16] (fun i wr => ∃ k : Nat, k ≤ len ∧ i = .int .i64 k ∧ Hid (Wrote B b l (op.data.toList ++ seps commaS kids k) w wr)) (fun i _ => len - (intOf i).toNat)
  case atStart => exact ⟨0, Nat.zero_le _, rfl, W1⟩
  case round =>
    clear W1
    obtain ⟨k, hk, rfl, W1⟩ := hrel
    by_cases hlt : k < len
    · obtain ⟨pb, off, x, v, rfl, hpb, hx, hv, hrx⟩ := rowP_at (HR.out.kp W1.out.kp) hlt
      obtain ⟨bx, rfl⟩ := hrx.ptr
      have HX : Hid (RepE (· < B) wr n x _) := hrx
      have hst := seps_step commaS kids k x hx
      have hle := seps_le commaS kids (k + 1)
      have hcx : (commasX kids).length = (sepFrom commaS 0 (kids.map PX.tx)).length := rfl
      rw [hst, List.length_append, List.length_append, ← hcx] at hle
      have HST : Hid (seps commaS kids (k + 1) = _) := hst
      have hL := HL.out
      have HS1 : Hid ((l ++ (op.data.toList ++ seps commaS kids k)).length + ((commaS k).length + x.tx.length) ≤ 140737488355328) := by
        show _ ≤ _
        simp only [List.length_append]; omega
      clear hx hrx hst hle hcx hL
      by_cases h0 : k = 0
      · subst h0
        rw [Nat.add_zero] at hv
        go_wp2_with fail
        refine (HW.out B b _ wr x _ HX.out W1.out.1 (by have := HS1.out; omega)).mono ?_
        rintro e w2 ⟨rfl, hw⟩
        have W2 : Hid (Wrote B b l (op.data.toList ++ seps commaS kids (0 + 1)) w w2) := W1.out.put hw (by rw [HST.out]; simp [commaS])
        clear hw W1 HX HST HS1
        go_wp2_with fail
        go_roundw
        case rel => exact ⟨0 + 1, by omega, by go_num, W2⟩
        case measure => simp [intOf]; omega
      · have h0' : (0 : Int) < (k : Int) := by omega
        have hc : commaS k = [44, 32] := by unfold commaS; rw [if_neg h0]
        rw [hc] at HS1 HST
        clear hc
        go_wp2_with fail
        refine (put_call B b _ wr _ [⟨#[44, 32]⟩] 1 [44, 32] rfl rfl (by decide) rfl W1.out.1 (by have := HS1.out; simp only [List.length_cons, List.length_nil] at this ⊢; omega)).mono ?_
        rintro e w2 ⟨rfl, hw⟩
        have W2 : Hid (Wrote B b l ((op.data.toList ++ seps commaS kids k) ++ [44, 32]) w w2) := W1.out.put hw rfl
        have HX2 : Hid (RepE (· < B) w2 n x _) := HX.out.kp hw.kp
        clear hw W1 HX
        go_wp2_with fail
        refine (HW.out B b _ w2 x _ HX2.out W2.out.1 (by have := HS1.out; simp only [List.length_append, List.length_cons, List.length_nil] at this ⊢; omega)).mono ?_
        rintro e w3 ⟨rfl, hw⟩
        have W3 : Hid (Wrote B b l (op.data.toList ++ seps commaS kids (k + 1)) w w3) := W2.out.put hw (by rw [HST.out]; simp)
        clear hw W2 HX2 HST HS1
        go_wp2_with fail
        go_roundw
        case rel => exact ⟨k + 1, by omega, by go_num, W3⟩
        case measure => simp [intOf]; omega
    · obtain rfl : k = len := by omega
      rw [seps_all commaS kids k (by have := HN.out; omega)] at W1
      go_wp2_with fail
      refine (put_call B b _ wr _ [cl] 1 cl.data.toList rfl rfl (by decide) (by simp [catB]) W1.out.1 (by have := HL.out; simp only [List.length_append, commasX] at this ⊢; omega)).mono ?_
      rintro e w2 ⟨rfl, hw⟩
      have W2 : Hid (Wrote B b l (op.data.toList ++ (commasX kids ++ cl.data.toList)) w w2) := W1.out.put hw (by simp [commasX])
      clear hw W1
      go_wp2_with fail
      go_end0
      exact ⟨rfl, W2.out⟩
end Go.Proofs.YtjbekejcghjhbaaGreatDoor.Sx

namespace Go.Proofs.YtjbekejcghjhbaaGreatDoor.Sx
open Go.RowKit Go.Sort

set_option maxRecDepth 100000 in
set_option maxHeartbeats 1000000 in
theorem wfunction_any {n : Nat} (hW : WrE n) (B b : Nat) (l : List UInt8) (w : World) (pa : Option Addr) (len cap : Nat) (kids : List PX) (hr : RowP (· < B) w (RepE (· < B) w n) pa len kids) (hB : Bld B b l w)
    (hlen : l.length + (91 :: (sepFrom pairS 0 (kids.map PX.tx) ++ [93])).length ≤ 140737488355328) :
    Calls Tryz.prog 152 #[.pointer (some ⟨b, 0, none⟩), .slice pa len cap] w (WrotePost B b l (91 :: (sepFrom pairS 0 (kids.map PX.tx) ++ [93])) w) := by
  have HR : Hid (RowP (· < B) w (RepE (· < B) w n) pa len kids) := hr
  have HB : Hid (Bld B b l w) := hB
  have HW : Hid (WrE n) := hW
  have HN : Hid (len = kids.length) := hr.1
  have hl4 : len ≤ 4294967296 := hr.2.1
  simp only [List.length_append, List.length_cons, List.length_nil] at hlen
  have HL : Hid (l.length + ((sepFrom pairS 0 (kids.map PX.tx)).length + 2) ≤ 140737488355328) := by show _ ≤ _; omega
  clear hr hB hW hlen
  go_enter Tryz.func152, Tryz.ntmps152
  go_wp2_with fail
  refine (put_call B b l w _ [⟨#[91]⟩] 1 [91] rfl rfl (by decide) rfl HB.out (by have := HL.out; simp; omega)).mono ?_
  rintro e w1 ⟨rfl, hw⟩
  have W1 : Hid (Wrote B b l (91 :: seps pairS kids 0) w w1) := hw
  clear hw
  go_wp2_with fail
  go_loopw [11] (fun i wr => ∃ k : Nat, k ≤ len ∧ i = .int .i64 k ∧ Hid (Wrote B b l (91 :: seps pairS kids k) w wr)) (fun i _ => len - (intOf i).toNat)
  case atStart => exact ⟨0, Nat.zero_le _, rfl, W1⟩
  case round =>
    clear W1
    obtain ⟨k, hk, rfl, W1⟩ := hrel
    by_cases hlt : k < len
    · obtain ⟨pb, off, x, v, rfl, hpb, hx, hv, hrx⟩ := rowP_at (HR.out.kp W1.out.kp) hlt
      obtain ⟨bx, rfl⟩ := hrx.ptr
      have HX : Hid (RepE (· < B) wr n x _) := hrx
      have hst := seps_step pairS kids k x hx
      have hle := seps_le pairS kids (k + 1)
      rw [hst, List.length_append, List.length_append] at hle
      have HST : Hid (seps pairS kids (k + 1) = _) := hst
      have hL := HL.out
      have HS1 : Hid ((l ++ (91 :: seps pairS kids k)).length + ((pairS k).length + x.tx.length) ≤ 140737488355328) := by
        show _ ≤ _
        simp only [List.length_append, List.length_cons]; omega
      clear hx hrx hst hle hL
      by_cases h1 : k % 2 = 1
      · have hc : pairS k = [58, 32] := by unfold pairS; rw [if_pos h1]
        rw [hc] at HS1 HST
        have hm : (k : Int).tmod 2 = 1 := by rw [Int.tmod_eq_emod_of_nonneg (by omega)]; omega
        clear hc h1
        go_wp2_with fail
        refine (put_call B b _ wr _ [⟨#[58, 32]⟩] 1 [58, 32] rfl rfl (by decide) rfl W1.out.1 (by have := HS1.out; simp only [List.length_cons, List.length_nil] at this ⊢; omega)).mono ?_
        rintro e w2 ⟨rfl, hw⟩
        have W2 : Hid (Wrote B b l ((91 :: seps pairS kids k) ++ [58, 32]) w w2) := W1.out.put hw rfl
        have HX2 : Hid (RepE (· < B) w2 n x _) := HX.out.kp hw.kp
        clear hw W1 HX
        go_wp2_with fail
        refine (HW.out B b _ w2 x _ HX2.out W2.out.1 (by have := HS1.out; simp only [List.length_append, List.length_cons, List.length_nil] at this ⊢; omega)).mono ?_
        rintro e w3 ⟨rfl, hw⟩
        have W3 : Hid (Wrote B b l (91 :: seps pairS kids (k + 1)) w w3) := W2.out.put hw (by rw [HST.out]; simp)
        clear hw W2 HX2 HST HS1
        go_wp2_with fail
        go_roundw
        case rel => exact ⟨k + 1, by omega, by go_num, W3⟩
        case measure => simp [intOf]; omega
      have hm : (k : Int).tmod 2 = 0 := by rw [Int.tmod_eq_emod_of_nonneg (by omega)]; omega
      by_cases h0 : k = 0
      · subst h0
        rw [Nat.add_zero] at hv
        clear hm h1
        go_wp2_with fail
        refine (HW.out B b _ wr x _ HX.out W1.out.1 (by have := HS1.out; omega)).mono ?_
        rintro e w2 ⟨rfl, hw⟩
        have W2 : Hid (Wrote B b l (91 :: seps pairS kids (0 + 1)) w w2) := W1.out.put hw (by rw [HST.out]; simp [pairS])
        clear hw W1 HX HST HS1
        go_wp2_with fail
        go_roundw
        case rel => exact ⟨0 + 1, by omega, by go_num, W2⟩
        case measure => simp [intOf]; omega
      · have h0' : (0 : Int) < (k : Int) := by omega
        have hc : pairS k = [44, 32] := by unfold pairS; rw [if_neg h1, if_neg h0]
        rw [hc] at HS1 HST
        clear hc h1 h0
        go_wp2_with fail
        refine (put_call B b _ wr _ [⟨#[44, 32]⟩] 1 [44, 32] rfl rfl (by decide) rfl W1.out.1 (by have := HS1.out; simp only [List.length_cons, List.length_nil] at this ⊢; omega)).mono ?_
        rintro e w2 ⟨rfl, hw⟩
        have W2 : Hid (Wrote B b l ((91 :: seps pairS kids k) ++ [44, 32]) w w2) := W1.out.put hw rfl
        have HX2 : Hid (RepE (· < B) w2 n x _) := HX.out.kp hw.kp
        clear hw W1 HX
        go_wp2_with fail
        refine (HW.out B b _ w2 x _ HX2.out W2.out.1 (by have := HS1.out; simp only [List.length_append, List.length_cons, List.length_nil] at this ⊢; omega)).mono ?_
        rintro e w3 ⟨rfl, hw⟩
        have W3 : Hid (Wrote B b l (91 :: seps pairS kids (k + 1)) w w3) := W2.out.put hw (by rw [HST.out]; simp)
        clear hw W2 HX2 HST HS1
        go_wp2_with fail
        go_roundw
        case rel => exact ⟨k + 1, by omega, by go_num, W3⟩
        case measure => simp [intOf]; omega
    · obtain rfl : k = len := by omega
      rw [seps_all pairS kids k (by have := HN.out; omega)] at W1
      go_wp2_with fail
      refine (put_call B b _ wr _ [⟨#[93]⟩] 1 [93] rfl rfl (by decide) rfl W1.out.1 (by have := HL.out; simp only [List.length_append, List.length_cons, List.length_nil] at this ⊢; omega)).mono ?_
      rintro e w2 ⟨rfl, hw⟩
      have W2 : Hid (Wrote B b l (91 :: (sepFrom pairS 0 (kids.map PX.tx) ++ [93])) w w2) := W1.out.put hw (by simp)
      clear hw W1
      go_wp2_with fail
      go_end0
      exact ⟨rfl, W2.out⟩
end Go.Proofs.YtjbekejcghjhbaaGreatDoor.Sx

namespace Go.Proofs.YtjbekejcghjhbaaGreatDoor.Sx
open Go.RowKit Go.Sort

theorem row1 {B n : Nat} {w : World} {pa : Option Addr} {len : Nat} {a : PX} (h : RowP (· < B) w (RepE (· < B) w n) pa len [a]) :
    len = 1 ∧ ∃ pb off, pa = some ⟨pb, off, none⟩ ∧ pb < B ∧ pb < w.heap.size ∧ ∃ x0, w.cell? ⟨pb, off, none⟩ = some (.pointer (some ⟨x0, 0, none⟩)) ∧ RepE (· < B) w n a (.pointer (some ⟨x0, 0, none⟩)) := by
  obtain ⟨h1, -, h3⟩ := h
  simp at h1
  obtain ⟨pb, off, e, hb, hP, h4⟩ := h3.resolve_left (by omega)
  obtain ⟨v0, c0, r0⟩ := h4 0 a rfl
  obtain ⟨x0, rfl⟩ := r0.ptr
  exact ⟨h1, pb, off, e, hP, hb, x0, c0, r0⟩
theorem row2 {B n : Nat} {w : World} {pa : Option Addr} {len : Nat} {a b : PX} (h : RowP (· < B) w (RepE (· < B) w n) pa len [a, b]) :
    len = 2 ∧ ∃ pb off, pa = some ⟨pb, off, none⟩ ∧ pb < B ∧ pb < w.heap.size ∧ ∃ x0, w.cell? ⟨pb, off, none⟩ = some (.pointer (some ⟨x0, 0, none⟩)) ∧ RepE (· < B) w n a (.pointer (some ⟨x0, 0, none⟩)) ∧
      ∃ x1, w.cell? ⟨pb, off + 1, none⟩ = some (.pointer (some ⟨x1, 0, none⟩)) ∧ RepE (· < B) w n b (.pointer (some ⟨x1, 0, none⟩)) := by
  obtain ⟨h1, -, h3⟩ := h
  simp at h1
  obtain ⟨pb, off, e, hb, hP, h4⟩ := h3.resolve_left (by omega)
  obtain ⟨v0, c0, r0⟩ := h4 0 a rfl
  obtain ⟨x0, rfl⟩ := r0.ptr
  obtain ⟨v1, c1, r1⟩ := h4 1 b rfl
  obtain ⟨x1, rfl⟩ := r1.ptr
  exact ⟨h1, pb, off, e, hP, hb, x0, c0, r0, x1, c1, r1⟩
theorem row3 {B n : Nat} {w : World} {pa : Option Addr} {len : Nat} {a b c : PX} (h : RowP (· < B) w (RepE (· < B) w n) pa len [a, b, c]) :
    len = 3 ∧ ∃ pb off, pa = some ⟨pb, off, none⟩ ∧ pb < B ∧ pb < w.heap.size ∧ ∃ x0, w.cell? ⟨pb, off, none⟩ = some (.pointer (some ⟨x0, 0, none⟩)) ∧ RepE (· < B) w n a (.pointer (some ⟨x0, 0, none⟩)) ∧
      ∃ x1, w.cell? ⟨pb, off + 1, none⟩ = some (.pointer (some ⟨x1, 0, none⟩)) ∧ RepE (· < B) w n b (.pointer (some ⟨x1, 0, none⟩)) ∧
      ∃ x2, w.cell? ⟨pb, off + 2, none⟩ = some (.pointer (some ⟨x2, 0, none⟩)) ∧ RepE (· < B) w n c (.pointer (some ⟨x2, 0, none⟩)) := by
  obtain ⟨h1, -, h3⟩ := h
  simp at h1
  obtain ⟨pb, off, e, hb, hP, h4⟩ := h3.resolve_left (by omega)
  obtain ⟨v0, c0, r0⟩ := h4 0 a rfl
  obtain ⟨x0, rfl⟩ := r0.ptr
  obtain ⟨v1, c1, r1⟩ := h4 1 b rfl
  obtain ⟨x1, rfl⟩ := r1.ptr
  obtain ⟨v2, c2, r2⟩ := h4 2 c rfl
  obtain ⟨x2, rfl⟩ := r2.ptr
  exact ⟨h1, pb, off, e, hP, hb, x0, c0, r0, x1, c1, r1, x2, c2, r2⟩

set_option maxRecDepth 100000 in
set_option maxHeartbeats 1000000 in
theorem wchoice_any {n : Nat} (hW : WrE n) (B b be sort at' len cap : Nat) (l : List UInt8) (w : World) (op nm : ByteArray) (i : Int) (pa : Option Addr) (ka kb kc : PX) (he : EBlk w be sort op nm i at' pa len cap) (hbe : be < B) (hr : RowP (· < B) w (RepE (· < B) w n) pa len [ka, kb, kc]) (hB : Bld B b l w)
    (hlen : l.length + ((dIf ka kb kc).tx).length ≤ 140737488355328) :
    Calls Tryz.prog 98 #[.pointer (some ⟨b, 0, none⟩), .pointer (some ⟨be, 0, none⟩)] w (WrotePost B b l ((dIf ka kb kc).tx) w) := by
  have HE : Hid (EBlk w be sort op nm i at' pa len cap) := he
  have HW : Hid (WrE n) := hW
  have HB : Hid (Bld B b l w) := hB
  have W0 : Hid (Wrote B b l ([] : List UInt8) w w) := Wrote.nil hB
  have HL : Hid (l.length + ((dIf ka kb kc).tx).length ≤ 140737488355328) := hlen
  obtain ⟨rfl, pb, off, hpa, hpB, hpl, x0, q0, r0, x1, q1, r1, x2, q2, r2⟩ := row3 hr
  subst hpa
  have HX0 : Hid (RepE (· < B) w n _ _) := r0
  have HY0 : Hid (∀ W, Kp B b w W → W.cell? ⟨pb, off, none⟩ = some (.pointer (some ⟨x0, 0, none⟩))) := fun W k => (World.cell?_of_block (w := w) (k.1.block pb hpB)).trans q0
  have HX1 : Hid (RepE (· < B) w n _ _) := r1
  have HY1 : Hid (∀ W, Kp B b w W → W.cell? ⟨pb, off + 1, none⟩ = some (.pointer (some ⟨x1, 0, none⟩))) := fun W k => (World.cell?_of_block (w := w) (k.1.block pb hpB)).trans q1
  have HX2 : Hid (RepE (· < B) w n _ _) := r2
  have HY2 : Hid (∀ W, Kp B b w W → W.cell? ⟨pb, off + 2, none⟩ = some (.pointer (some ⟨x2, 0, none⟩))) := fun W k => (World.cell?_of_block (w := w) (k.1.block pb hpB)).trans q2
  clear q0 r0 q1 r1 q2 r2
  clear he hW hB hr hlen
  simp only [dIf] at HL ⊢
  go_enter Tryz.func98, Tryz.ntmps98
  have c5 := block_cell (HE.out.kp W0.out.kp hbe) 5
  have y0 := HY0.out _ W0.out.kp
  have y1 := HY1.out _ W0.out.kp
  have y2 := HY2.out _ W0.out.kp
  go_wp2_with fail
  clear c5 y0 y1 y2
  refine (put_call B b _ w _ [⟨#[105, 102, 32]⟩] 1 [105, 102, 32] rfl rfl (by decide) (by simp [catB]) W0.out.1 (by have hL := HL.out; simp only [List.length_append, List.length_cons, List.length_nil] at hL ⊢; omega)).mono ?_
  rintro e v1 ⟨rfl, hw⟩
  have V1 : Hid (Wrote B b l (([] : List UInt8) ++ [105, 102, 32]) w v1) := W0.out.put hw rfl
  clear hw
  have c5 := block_cell (HE.out.kp V1.out.kp hbe) 5
  have y0 := HY0.out _ V1.out.kp
  have y1 := HY1.out _ V1.out.kp
  have y2 := HY2.out _ V1.out.kp
  go_wp2_with fail
  clear c5 y0 y1 y2
  refine (HW.out B b _ v1 ka _ (HX0.out.kp V1.out.kp) V1.out.1 (by have hL := HL.out; simp only [List.length_append, List.length_cons, List.length_nil] at hL ⊢; omega)).mono ?_
  rintro e v2 ⟨rfl, hw⟩
  have V2 : Hid (Wrote B b l ((([] : List UInt8) ++ [105, 102, 32]) ++ ka.tx) w v2) := V1.out.put hw rfl
  clear hw
  have c5 := block_cell (HE.out.kp V2.out.kp hbe) 5
  have y0 := HY0.out _ V2.out.kp
  have y1 := HY1.out _ V2.out.kp
  have y2 := HY2.out _ V2.out.kp
  go_wp2_with fail
  clear c5 y0 y1 y2
  refine (put_call B b _ v2 _ [⟨#[32, 116, 104, 101, 110, 32]⟩] 1 [32, 116, 104, 101, 110, 32] rfl rfl (by decide) (by simp [catB]) V2.out.1 (by have hL := HL.out; simp only [List.length_append, List.length_cons, List.length_nil] at hL ⊢; omega)).mono ?_
  rintro e v3 ⟨rfl, hw⟩
  have V3 : Hid (Wrote B b l (((([] : List UInt8) ++ [105, 102, 32]) ++ ka.tx) ++ [32, 116, 104, 101, 110, 32]) w v3) := V2.out.put hw rfl
  clear hw
  have c5 := block_cell (HE.out.kp V3.out.kp hbe) 5
  have y0 := HY0.out _ V3.out.kp
  have y1 := HY1.out _ V3.out.kp
  have y2 := HY2.out _ V3.out.kp
  go_wp2_with fail
  clear c5 y0 y1 y2
  refine (HW.out B b _ v3 kb _ (HX1.out.kp V3.out.kp) V3.out.1 (by have hL := HL.out; simp only [List.length_append, List.length_cons, List.length_nil] at hL ⊢; omega)).mono ?_
  rintro e v4 ⟨rfl, hw⟩
  have V4 : Hid (Wrote B b l ((((([] : List UInt8) ++ [105, 102, 32]) ++ ka.tx) ++ [32, 116, 104, 101, 110, 32]) ++ kb.tx) w v4) := V3.out.put hw rfl
  clear hw
  have c5 := block_cell (HE.out.kp V4.out.kp hbe) 5
  have y0 := HY0.out _ V4.out.kp
  have y1 := HY1.out _ V4.out.kp
  have y2 := HY2.out _ V4.out.kp
  go_wp2_with fail
  clear c5 y0 y1 y2
  refine (put_call B b _ v4 _ [⟨#[32, 101, 108, 115, 101, 32]⟩] 1 [32, 101, 108, 115, 101, 32] rfl rfl (by decide) (by simp [catB]) V4.out.1 (by have hL := HL.out; simp only [List.length_append, List.length_cons, List.length_nil] at hL ⊢; omega)).mono ?_
  rintro e v5 ⟨rfl, hw⟩
  have V5 : Hid (Wrote B b l (((((([] : List UInt8) ++ [105, 102, 32]) ++ ka.tx) ++ [32, 116, 104, 101, 110, 32]) ++ kb.tx) ++ [32, 101, 108, 115, 101, 32]) w v5) := V4.out.put hw rfl
  clear hw
  have c5 := block_cell (HE.out.kp V5.out.kp hbe) 5
  have y0 := HY0.out _ V5.out.kp
  have y1 := HY1.out _ V5.out.kp
  have y2 := HY2.out _ V5.out.kp
  go_wp2_with fail
  clear c5 y0 y1 y2
  refine (HW.out B b _ v5 kc _ (HX2.out.kp V5.out.kp) V5.out.1 (by have hL := HL.out; simp only [List.length_append, List.length_cons, List.length_nil] at hL ⊢; omega)).mono ?_
  rintro e v6 ⟨rfl, hw⟩
  have V6 : Hid (Wrote B b l ((((((([] : List UInt8) ++ [105, 102, 32]) ++ ka.tx) ++ [32, 116, 104, 101, 110, 32]) ++ kb.tx) ++ [32, 101, 108, 115, 101, 32]) ++ kc.tx) w v6) := V5.out.put hw rfl
  clear hw
  go_wp2_with fail
  go_end0
  exact ⟨rfl, by have h := V6.out; simpa using h⟩
end Go.Proofs.YtjbekejcghjhbaaGreatDoor.Sx

namespace Go.Proofs.YtjbekejcghjhbaaGreatDoor.Sx
open Go.RowKit Go.Sort

set_option maxRecDepth 100000 in
set_option maxHeartbeats 1000000 in
theorem wbind_bare {n : Nat} (hW : WrE n) (B b be sort at' len cap : Nat) (l : List UInt8) (w : World) (op nm : ByteArray) (i : Int) (pa : Option Addr) (ka kb : PX) (he : EBlk w be sort op nm i at' pa len cap) (hbe : be < B) (hr : RowP (· < B) w (RepE (· < B) w n) pa len [ka, kb]) (hB : Bld B b l w) (ho : openF op.data.toList = 0)
    (hlen : l.length + (boundT op.data.toList nm.data.toList ka kb).length ≤ 140737488355328) :
    Calls Tryz.prog 99 #[.pointer (some ⟨b, 0, none⟩), .pointer (some ⟨be, 0, none⟩)] w (WrotePost B b l (boundT op.data.toList nm.data.toList ka kb) w) := by
  have HE : Hid (EBlk w be sort op nm i at' pa len cap) := he
  have HW : Hid (WrE n) := hW
  have HB : Hid (Bld B b l w) := hB
  have W0 : Hid (Wrote B b l ([] : List UInt8) w w) := Wrote.nil hB
  have mo := follows
  have HL : Hid (l.length + (boundT op.data.toList nm.data.toList ka kb).length ≤ 140737488355328) := hlen
  obtain ⟨rfl, pb, off, hpa, hpB, hpl, x0, q0, r0, x1, q1, r1⟩ := row2 hr
  subst hpa
  have HX0 : Hid (RepE (· < B) w n _ _) := r0
  have HY0 : Hid (∀ W, Kp B b w W → W.cell? ⟨pb, off, none⟩ = some (.pointer (some ⟨x0, 0, none⟩))) := fun W k => (World.cell?_of_block (w := w) (k.1.block pb hpB)).trans q0
  have HX1 : Hid (RepE (· < B) w n _ _) := r1
  have HY1 : Hid (∀ W, Kp B b w W → W.cell? ⟨pb, off + 1, none⟩ = some (.pointer (some ⟨x1, 0, none⟩))) := fun W k => (World.cell?_of_block (w := w) (k.1.block pb hpB)).trans q1
  clear q0 r0 q1 r1
  clear he hW hB hr hlen
  have HO : Hid (Calls Tryz.prog 149 #[.string op] w fun e w' => e = .returned (.int .i64 0) ∧ w' = w) := by have := fopening_any op w; rw [ho] at this; exact this
  clear ho
  simp only [boundT] at HL ⊢
  go_enter Tryz.func99, Tryz.ntmps99
  have c1 := block_cell (HE.out.kp W0.out.kp hbe) 1
  have c2 := block_cell (HE.out.kp W0.out.kp hbe) 2
  have c5 := block_cell (HE.out.kp W0.out.kp hbe) 5
  have y0 := HY0.out _ W0.out.kp
  have y1 := HY1.out _ W0.out.kp
  go_wp2_with (go_at_call 149; refine HO.out.mono ?_; rintro e w3 ⟨rfl, hw⟩; cases hw)
  clear c1 c2 c5 y0 y1
  have c1 := block_cell (HE.out.kp W0.out.kp hbe) 1
  have c2 := block_cell (HE.out.kp W0.out.kp hbe) 2
  have c5 := block_cell (HE.out.kp W0.out.kp hbe) 5
  have y0 := HY0.out _ W0.out.kp
  have y1 := HY1.out _ W0.out.kp
  have hbl := block_lt (HE.out.kp W0.out.kp hbe)
  have WD : Hid (Wrote B b l ([] : List UInt8) w w.drew) := W0.out.grew (Grew.refl _).drew
  go_wp2_with fail
  go_region_held3 (fun w' => w'.cell? ⟨be, 1, none⟩ = some (.string op) ∧ w'.cell? ⟨be, 2, none⟩ = some (.string nm)) (first | (constructor <;> assumption) | assumption | go_keep)
      ((go_at_call 96; refine (put_call B b _ w.drew _ [op, ⟨#[32]⟩, nm, ⟨#[32, 105, 110, 32]⟩] 4 (op.data.toList ++ [32] ++ nm.data.toList ++ [32, 105, 110, 32]) rfl rfl (by decide) (by simp [catB]) WD.out.1 (by have hL := HL.out; simp only [List.length_append, List.length_cons, List.length_nil] at hL ⊢; omega)).mono ?_; rintro e v1 ⟨rfl, hw⟩; have V1 : Hid (Wrote B b l (([] : List UInt8) ++ (op.data.toList ++ [32] ++ nm.data.toList ++ [32, 105, 110, 32])) w v1) := WD.out.put hw rfl; have j1 := block_cell (HE.out.kp V1.out.kp hbe) 1; have j2 := block_cell (HE.out.kp V1.out.kp hbe) 2; clear hw))
  clear hbl WD j1 j2 c1 c2 c5 y0 y1
  have c1 := block_cell (HE.out.kp V1.out.kp hbe) 1
  have c2 := block_cell (HE.out.kp V1.out.kp hbe) 2
  have c5 := block_cell (HE.out.kp V1.out.kp hbe) 5
  have y0 := HY0.out _ V1.out.kp
  have y1 := HY1.out _ V1.out.kp
  go_wp2_with fail
  clear c1 c2 c5 y0 y1
  refine (wpart_any HW.out B b _ v1 ka _ 8 (HX0.out.kp V1.out.kp) V1.out.1 (by have hL := HL.out; simp only [List.length_append, List.length_cons, List.length_nil] at hL ⊢; omega)).mono ?_
  rintro e v2 ⟨rfl, hw⟩
  have V2 : Hid (Wrote B b l ((([] : List UInt8) ++ (op.data.toList ++ [32] ++ nm.data.toList ++ [32, 105, 110, 32])) ++ partX ka 8) w v2) := V1.out.put hw rfl
  clear hw
  have c1 := block_cell (HE.out.kp V2.out.kp hbe) 1
  have c2 := block_cell (HE.out.kp V2.out.kp hbe) 2
  have c5 := block_cell (HE.out.kp V2.out.kp hbe) 5
  have y0 := HY0.out _ V2.out.kp
  have y1 := HY1.out _ V2.out.kp
  go_wp2_with fail
  clear c1 c2 c5 y0 y1
  refine (put_call B b _ v2 _ [⟨#[32, 58, 32]⟩] 1 [32, 58, 32] rfl rfl (by decide) (by simp [catB]) V2.out.1 (by have hL := HL.out; simp only [List.length_append, List.length_cons, List.length_nil] at hL ⊢; omega)).mono ?_
  rintro e v3 ⟨rfl, hw⟩
  have V3 : Hid (Wrote B b l (((([] : List UInt8) ++ (op.data.toList ++ [32] ++ nm.data.toList ++ [32, 105, 110, 32])) ++ partX ka 8) ++ [32, 58, 32]) w v3) := V2.out.put hw rfl
  clear hw
  have c1 := block_cell (HE.out.kp V3.out.kp hbe) 1
  have c2 := block_cell (HE.out.kp V3.out.kp hbe) 2
  have c5 := block_cell (HE.out.kp V3.out.kp hbe) 5
  have y0 := HY0.out _ V3.out.kp
  have y1 := HY1.out _ V3.out.kp
  go_wp2_with fail
  clear c1 c2 c5 y0 y1
  refine (HW.out B b _ v3 kb _ (HX1.out.kp V3.out.kp) V3.out.1 (by have hL := HL.out; simp only [List.length_append, List.length_cons, List.length_nil] at hL ⊢; omega)).mono ?_
  rintro e v4 ⟨rfl, hw⟩
  have V4 : Hid (Wrote B b l ((((([] : List UInt8) ++ (op.data.toList ++ [32] ++ nm.data.toList ++ [32, 105, 110, 32])) ++ partX ka 8) ++ [32, 58, 32]) ++ kb.tx) w v4) := V3.out.put hw rfl
  clear hw
  go_wp2_with fail
  go_end0
  exact ⟨rfl, by have h := V4.out; simpa using h⟩
set_option maxRecDepth 100000 in
set_option maxHeartbeats 1000000 in
theorem wbind_in {n : Nat} (hW : WrE n) (B b be sort at' len cap : Nat) (l : List UInt8) (w : World) (op nm : ByteArray) (i : Int) (pa : Option Addr) (ka kb : PX) (he : EBlk w be sort op nm i at' pa len cap) (hbe : be < B) (hr : RowP (· < B) w (RepE (· < B) w n) pa len [ka, kb]) (hB : Bld B b l w) (ho : openF op.data.toList = 14)
    (hlen : l.length + (123 :: (boundT op.data.toList nm.data.toList ka kb ++ [125])).length ≤ 140737488355328) :
    Calls Tryz.prog 99 #[.pointer (some ⟨b, 0, none⟩), .pointer (some ⟨be, 0, none⟩)] w (WrotePost B b l (123 :: (boundT op.data.toList nm.data.toList ka kb ++ [125])) w) := by
  have HE : Hid (EBlk w be sort op nm i at' pa len cap) := he
  have HW : Hid (WrE n) := hW
  have HB : Hid (Bld B b l w) := hB
  have W0 : Hid (Wrote B b l ([] : List UInt8) w w) := Wrote.nil hB
  have mo := follows
  have HL : Hid (l.length + (123 :: (boundT op.data.toList nm.data.toList ka kb ++ [125])).length ≤ 140737488355328) := hlen
  obtain ⟨rfl, pb, off, hpa, hpB, hpl, x0, q0, r0, x1, q1, r1⟩ := row2 hr
  subst hpa
  have HX0 : Hid (RepE (· < B) w n _ _) := r0
  have HY0 : Hid (∀ W, Kp B b w W → W.cell? ⟨pb, off, none⟩ = some (.pointer (some ⟨x0, 0, none⟩))) := fun W k => (World.cell?_of_block (w := w) (k.1.block pb hpB)).trans q0
  have HX1 : Hid (RepE (· < B) w n _ _) := r1
  have HY1 : Hid (∀ W, Kp B b w W → W.cell? ⟨pb, off + 1, none⟩ = some (.pointer (some ⟨x1, 0, none⟩))) := fun W k => (World.cell?_of_block (w := w) (k.1.block pb hpB)).trans q1
  clear q0 r0 q1 r1
  clear he hW hB hr hlen
  have HO : Hid (Calls Tryz.prog 149 #[.string op] w fun e w' => e = .returned (.int .i64 14) ∧ w' = w) := by have := fopening_any op w; rw [ho] at this; exact this
  clear ho
  simp only [boundT] at HL ⊢
  go_enter Tryz.func99, Tryz.ntmps99
  have c1 := block_cell (HE.out.kp W0.out.kp hbe) 1
  have c2 := block_cell (HE.out.kp W0.out.kp hbe) 2
  have c5 := block_cell (HE.out.kp W0.out.kp hbe) 5
  have y0 := HY0.out _ W0.out.kp
  have y1 := HY1.out _ W0.out.kp
  go_wp2_with (go_at_call 149; refine HO.out.mono ?_; rintro e w3 ⟨rfl, hw⟩; cases hw)
  clear c1 c2 c5 y0 y1
  refine (put_call B b _ w _ [⟨#[123]⟩] 1 [123] rfl rfl (by decide) (by simp [catB]) W0.out.1 (by have hL := HL.out; simp only [List.length_append, List.length_cons, List.length_nil] at hL ⊢; omega)).mono ?_
  rintro e v1 ⟨rfl, hw⟩
  have V1 : Hid (Wrote B b l (([] : List UInt8) ++ [123]) w v1) := W0.out.put hw rfl
  clear hw
  have c1 := block_cell (HE.out.kp V1.out.kp hbe) 1
  have c2 := block_cell (HE.out.kp V1.out.kp hbe) 2
  have c5 := block_cell (HE.out.kp V1.out.kp hbe) 5
  have y0 := HY0.out _ V1.out.kp
  have y1 := HY1.out _ V1.out.kp
  have hbl := block_lt (HE.out.kp V1.out.kp hbe)
  have WD : Hid (Wrote B b l (([] : List UInt8) ++ [123]) w v1.drew) := V1.out.grew (Grew.refl _).drew
  go_wp2_with fail
  go_region_held3 (fun w' => w'.cell? ⟨be, 1, none⟩ = some (.string op) ∧ w'.cell? ⟨be, 2, none⟩ = some (.string nm)) (first | (constructor <;> assumption) | assumption | go_keep)
      ((go_at_call 96; refine (put_call B b _ v1.drew _ [op, ⟨#[32]⟩, nm, ⟨#[32, 105, 110, 32]⟩] 4 (op.data.toList ++ [32] ++ nm.data.toList ++ [32, 105, 110, 32]) rfl rfl (by decide) (by simp [catB]) WD.out.1 (by have hL := HL.out; simp only [List.length_append, List.length_cons, List.length_nil] at hL ⊢; omega)).mono ?_; rintro e v2 ⟨rfl, hw⟩; have V2 : Hid (Wrote B b l ((([] : List UInt8) ++ [123]) ++ (op.data.toList ++ [32] ++ nm.data.toList ++ [32, 105, 110, 32])) w v2) := WD.out.put hw rfl; have j1 := block_cell (HE.out.kp V2.out.kp hbe) 1; have j2 := block_cell (HE.out.kp V2.out.kp hbe) 2; clear hw))
  clear hbl WD j1 j2 c1 c2 c5 y0 y1
  have c1 := block_cell (HE.out.kp V2.out.kp hbe) 1
  have c2 := block_cell (HE.out.kp V2.out.kp hbe) 2
  have c5 := block_cell (HE.out.kp V2.out.kp hbe) 5
  have y0 := HY0.out _ V2.out.kp
  have y1 := HY1.out _ V2.out.kp
  go_wp2_with fail
  clear c1 c2 c5 y0 y1
  refine (wpart_any HW.out B b _ v2 ka _ 8 (HX0.out.kp V2.out.kp) V2.out.1 (by have hL := HL.out; simp only [List.length_append, List.length_cons, List.length_nil] at hL ⊢; omega)).mono ?_
  rintro e v3 ⟨rfl, hw⟩
  have V3 : Hid (Wrote B b l (((([] : List UInt8) ++ [123]) ++ (op.data.toList ++ [32] ++ nm.data.toList ++ [32, 105, 110, 32])) ++ partX ka 8) w v3) := V2.out.put hw rfl
  clear hw
  have c1 := block_cell (HE.out.kp V3.out.kp hbe) 1
  have c2 := block_cell (HE.out.kp V3.out.kp hbe) 2
  have c5 := block_cell (HE.out.kp V3.out.kp hbe) 5
  have y0 := HY0.out _ V3.out.kp
  have y1 := HY1.out _ V3.out.kp
  go_wp2_with fail
  clear c1 c2 c5 y0 y1
  refine (put_call B b _ v3 _ [⟨#[32, 58, 32]⟩] 1 [32, 58, 32] rfl rfl (by decide) (by simp [catB]) V3.out.1 (by have hL := HL.out; simp only [List.length_append, List.length_cons, List.length_nil] at hL ⊢; omega)).mono ?_
  rintro e v4 ⟨rfl, hw⟩
  have V4 : Hid (Wrote B b l ((((([] : List UInt8) ++ [123]) ++ (op.data.toList ++ [32] ++ nm.data.toList ++ [32, 105, 110, 32])) ++ partX ka 8) ++ [32, 58, 32]) w v4) := V3.out.put hw rfl
  clear hw
  have c1 := block_cell (HE.out.kp V4.out.kp hbe) 1
  have c2 := block_cell (HE.out.kp V4.out.kp hbe) 2
  have c5 := block_cell (HE.out.kp V4.out.kp hbe) 5
  have y0 := HY0.out _ V4.out.kp
  have y1 := HY1.out _ V4.out.kp
  go_wp2_with fail
  clear c1 c2 c5 y0 y1
  refine (HW.out B b _ v4 kb _ (HX1.out.kp V4.out.kp) V4.out.1 (by have hL := HL.out; simp only [List.length_append, List.length_cons, List.length_nil] at hL ⊢; omega)).mono ?_
  rintro e v5 ⟨rfl, hw⟩
  have V5 : Hid (Wrote B b l (((((([] : List UInt8) ++ [123]) ++ (op.data.toList ++ [32] ++ nm.data.toList ++ [32, 105, 110, 32])) ++ partX ka 8) ++ [32, 58, 32]) ++ kb.tx) w v5) := V4.out.put hw rfl
  clear hw
  have c1 := block_cell (HE.out.kp V5.out.kp hbe) 1
  have c2 := block_cell (HE.out.kp V5.out.kp hbe) 2
  have c5 := block_cell (HE.out.kp V5.out.kp hbe) 5
  have y0 := HY0.out _ V5.out.kp
  have y1 := HY1.out _ V5.out.kp
  go_wp2_with fail
  clear c1 c2 c5 y0 y1
  refine (put_call B b _ v5 _ [⟨#[125]⟩] 1 [125] rfl rfl (by decide) (by simp [catB]) V5.out.1 (by have hL := HL.out; simp only [List.length_append, List.length_cons, List.length_nil] at hL ⊢; omega)).mono ?_
  rintro e v6 ⟨rfl, hw⟩
  have V6 : Hid (Wrote B b l ((((((([] : List UInt8) ++ [123]) ++ (op.data.toList ++ [32] ++ nm.data.toList ++ [32, 105, 110, 32])) ++ partX ka 8) ++ [32, 58, 32]) ++ kb.tx) ++ [125]) w v6) := V5.out.put hw rfl
  clear hw
  go_wp2_with fail
  go_end0
  exact ⟨rfl, by have h := V6.out; simpa using h⟩
theorem wbind_any {n : Nat} (hW : WrE n) (B b be sort at' len cap : Nat) (l : List UInt8) (w : World) (op nm : ByteArray) (i : Int) (pa : Option Addr) (ka kb : PX) (he : EBlk w be sort op nm i at' pa len cap) (hbe : be < B) (hr : RowP (· < B) w (RepE (· < B) w n) pa len [ka, kb]) (hB : Bld B b l w) (ho : op.data.toList ∈ binds4 ∨ op.data.toList ∈ binds2)
    (hlen : l.length + (dBind op.data.toList nm.data.toList ka kb).tx.length ≤ 140737488355328) :
    Calls Tryz.prog 99 #[.pointer (some ⟨b, 0, none⟩), .pointer (some ⟨be, 0, none⟩)] w (WrotePost B b l (dBind op.data.toList nm.data.toList ka kb).tx w) := by
  rcases ho with ho | ho
  · have h1 : openF op.data.toList = 0 := by
      simp only [binds4, List.mem_cons, List.not_mem_nil, or_false] at ho
      rcases ho with ho | ho | ho | ho <;> rw [ho] <;> rfl
    have h2 : (dBind op.data.toList nm.data.toList ka kb).tx = boundT op.data.toList nm.data.toList ka kb := by
      have : binds2.contains op.data.toList = false := by
        simp only [binds4, List.mem_cons, List.not_mem_nil, or_false] at ho
        rcases ho with ho | ho | ho | ho <;> rw [ho] <;> rfl
      unfold dBind; rw [this]; rfl
    rw [h2] at hlen ⊢
    exact wbind_bare hW B b be sort at' len cap l w op nm i pa ka kb he hbe hr hB h1 hlen
  · have h1 : openF op.data.toList = 14 := by
      simp only [binds2, List.mem_cons, List.not_mem_nil, or_false] at ho
      rcases ho with ho | ho <;> rw [ho] <;> rfl
    have h2 : (dBind op.data.toList nm.data.toList ka kb).tx = 123 :: (boundT op.data.toList nm.data.toList ka kb ++ [125]) := by
      have : binds2.contains op.data.toList = true := by
        simp only [binds2, List.mem_cons, List.not_mem_nil, or_false] at ho
        rcases ho with ho | ho <;> rw [ho] <;> rfl
      unfold dBind; rw [this]; rfl
    rw [h2] at hlen ⊢
    exact wbind_in hW B b be sort at' len cap l w op nm i pa ka kb he hbe hr hB h1 hlen
end Go.Proofs.YtjbekejcghjhbaaGreatDoor.Sx
