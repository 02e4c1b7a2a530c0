/- Text is put together. -/
import Derived.Test.YtbogejmmkohbkaaGreatDoorGA3
import Derived.Test.YtbogejmmkohbkaaGreatDoorGA6
import Derived.Lib.AppendStr
import Derived.Lib.UnsafeStr
import Derived.Lib.LaidTab
import Derived.Lib.OthersKept
import Derived.Lib.OwnKind
import Derived.Test.YtbogejmmkohbkaaGreatDoorGA8
import Derived.Deep.Cut
namespace Go.Proofs.YtbogejmmkohbkaaGreatDoor.Sx
open Go.RowKit Go.Sort

theorem infoB : (Tryz.prog.info? 5).map (fun i => (i.zero, i.size, i.bytes)) = some (some (.int .u8 0), 1, 1) := by kernel_rfl

def ccRen : Go.Shelf.Ren := ⟨fun | 240 => 132 | 276 => 181 | n => n, fun | 0 => 0 | 4 => 4 | 9 => 9 | 20 => 20 | 70 => 73 | 72 => 76 | 37 => 74 | 5 => 5 | 164 => 178 | n => n, fun | n => n⟩
theorem ccLays : Lays.n240 Tryz.prog ccRen := {
  mixed := by kernel_rfl
  f240 := Tryz.func132.trans (congrArg some (by kernel_rfl))
  f276 := Tryz.func181.trans (congrArg some (by kernel_rfl))
  t0 := Tryz.underlying0
  a0 := Tryz.isAgg0
  z0 := Tryz.sizeOf0
  v0 := Tryz.zeroValue0
  t4 := Tryz.underlying4
  a4 := Tryz.isAgg4
  z4 := Tryz.sizeOf4
  v4 := Tryz.zeroValue4
  t9 := Tryz.underlying9
  a9 := Tryz.isAgg9
  z9 := Tryz.sizeOf9
  v9 := Tryz.zeroValue9
  t20 := Tryz.underlying20
  a20 := Tryz.isAgg20
  z20 := Tryz.sizeOf20
  v20 := Tryz.zeroValue20
  t70 := Tryz.underlying73
  a70 := Tryz.isAgg73
  z70 := Tryz.sizeOf73
  v70 := Tryz.zeroValue73
  t72 := Tryz.underlying76
  a72 := Tryz.isAgg76
  z72 := Tryz.sizeOf76
  v72 := Tryz.zeroValue76
  t164 := Tryz.underlying178
  a164 := Tryz.isAgg178
  z164 := Tryz.sizeOf178
  v164 := Tryz.zeroValue178 }
theorem ccX : Builder.X72 Tryz.prog ccRen := {
  sizeBuilder := by kernel_rfl
  liesBuilder := by kernel_rfl }

theorem cc_used (b : Nat) (w : World) (h0 : w.cell? ⟨b, 0, none⟩ = some (.pointer (some ⟨b, 0, none⟩))) :
    Calls Tryz.prog 132 #[.pointer (some ⟨b, 0, none⟩)] w fun e w' => e = .returned (.tuple #[]) ∧ w' = w := Any.Builder_copyCheck_used ccLays ccX b w h0
theorem cc_fresh (b : Nat) (w : World) (h0 : w.cell? ⟨b, 0, none⟩ = some (.pointer none)) (hsh : w.shape? b = some (76, 2)) (hfz : w.frozen? ⟨b, 0, none⟩ = false) :
    Calls Tryz.prog 132 #[.pointer (some ⟨b, 0, none⟩)] w fun e w' => e = .returned (.tuple #[]) ∧ w' = w.setCell ⟨b, 0, none⟩ (.pointer (some ⟨b, 0, none⟩)) := Any.Builder_copyCheck_fresh ccLays ccX b w h0 hsh hfz

theorem cc_any (B b : Nat) (bs : List Value) (w : World) (h : Lib.IsBuilder 76 5 B b bs w) :
    Calls Tryz.prog 132 #[.pointer (some ⟨b, 0, none⟩)] w fun e w' => e = .returned (.tuple #[]) ∧ (Lib.BuilderAt 76 5 B b (.pointer (some ⟨b, 0, none⟩)) bs w' ∧ Below B w w' ∧ Lib.OthersKept 5 (some b) w w') := by
  rcases h with h | h
  · refine (cc_fresh b w h.cell0 h.shape h.frozen0).mono ?_
    rintro e w' ⟨rfl, rfl⟩
    exact ⟨rfl, h.used _, (Below.refl B w).setCell (p := ⟨b, 0, none⟩) h.1 _, (Lib.OthersKept.refl _ _ w).setCell ⟨b, 0, none⟩ rfl _⟩
  · refine (cc_used b w h.cell0).mono ?_
    rintro e w' ⟨rfl, rfl⟩
    exact ⟨rfl, h, Below.refl B _, Lib.OthersKept.refl _ _ _⟩

set_option maxRecDepth 100000 in
set_option maxHeartbeats 2000000 in
theorem ws_raw (B b : Nat) (bs : List Value) (s : ByteArray) (w : World) (h : Lib.IsBuilder 76 5 B b bs w) (hlen : bs.length + s.size ≤ 140737488355328) (hBw : B ≤ w.heap.size) :
    Calls Tryz.prog 70 #[.pointer (some ⟨b, 0, none⟩), .string s] w fun e w' => e = .returned (.tuple #[.int .i64 s.size, .nilIface]) ∧ (Lib.BuilderAt 76 5 B b (.pointer (some ⟨b, 0, none⟩)) (bs ++ Lib.strCells s) w' ∧ Below B w w' ∧ Lib.OthersKept 5 (some b) w w') := by
  obtain ⟨i0, hi, hz0, hz1, hz2⟩ := info_parts infoB
  go_enter Tryz.func70, Tryz.ntmps70
  go_wp2_with fail
  refine (cc_any B b bs _ h).mono ?_
  rintro e w1 ⟨rfl, h1, hb1, hk1⟩
  obtain ⟨hB, v, hbk, hown, hne⟩ := h1
  have c0 : w1.cell? ⟨b, 0, none⟩ = some (.pointer (some ⟨b, 0, none⟩)) := by rw [Lib.cell_of_heap hbk]; rfl
  have c1 : w1.cell? ⟨b, 1, none⟩ = some v := by rw [Lib.cell_of_heap hbk]; rfl
  go_wp2_with (at_builtin; refine Lib.wpList_append_own_string _ rfl _ _ 74 9 rfl B 5 i0 Tryz.underlying74 Tryz.underlying9 hi hz0 hz1 hz2 _ _ _ rfl hown s rfl ?c3 ?c4 ?c5 ?_)
  case c3 => unfold maxLen; omega
  case c4 => omega
  case c5 => have := hb1.size; omega
  intro v' w2 hown' hgrow _
  have hlt : b < w1.heap.size := by
    rcases Nat.lt_or_ge b w1.heap.size with h' | h'
    · exact h'
    · simp [Array.getElem?_eq_none h'] at hbk
  have hb2 : w2.heap[b]? = some (.cells #[.pointer (some ⟨b, 0, none⟩), v] 76 (0, 0)) := by
    rw [hgrow.block b hlt (fun e => hne e.symm)]
    exact hbk
  have d0 : w2.cell? ⟨b, 0, none⟩ = some (.pointer (some ⟨b, 0, none⟩)) := by rw [Lib.cell_of_heap hb2]; rfl
  have d1 : w2.cell? ⟨b, 1, none⟩ = some v := by rw [Lib.cell_of_heap hb2]; rfl
  have f1 : w2.frozen? ⟨b, 1, none⟩ = false := Lib.frozen_of_heap hb2 1
  obtain ⟨ao, n', cap, rfl⟩ : ∃ ao n' cap, v' = .slice ao n' cap := by
    rcases hown'.2 with ⟨hv, _⟩ | ⟨g, cap, cur, hv, _⟩
    · exact ⟨_, _, _, hv⟩
    · exact ⟨_, _, _, hv⟩
  go_wp2
  go_ret2
  refine ⟨rfl, ?_, ?_, ?_⟩
  · exact Lib.BuilderAt.put (T := 76) (e := 5) hB hb2 (bs' := bs ++ Lib.strCells s) (by simpa [Lib.strCells_length] using hown') (by decide)
  · exact (hb1.grown hgrow (by have := hb1.size; omega) (fun k hk => (hown.lt k hk).1)).setCell (p := ⟨b, 1, none⟩) hB _
  · exact (hk1.grown hgrow (fun g hg => Lib.ownsRow_kind hown g hg)).setCell ⟨b, 1, none⟩ rfl _

/-- a builder that holds a text; the table of powers -/
structure Bld (B b : Nat) (l : List UInt8) (w : World) : Prop where
  is : Lib.IsBuilder 76 5 B b (Lib.byteCells l) w
  low : B ≤ w.heap.size
  tab : Lib.TabIs Tryz.prog w "internal/strconv.uint64pow10" .u64 Lib.pow10Tab
  glob : 2 < B

theorem pow_global : Tryz.prog.globalNamed "internal/strconv.uint64pow10" = some 2 := by kernel_rfl
end Go.Proofs.YtbogejmmkohbkaaGreatDoor.Sx

namespace Go.Proofs.YtbogejmmkohbkaaGreatDoor.Sx
open Go.RowKit Go.Sort

theorem own_kept {w w' : World} {B : Nat} {e : TypeId} {v : Value} {n : Nat} {xs : List Value} (h : w.ownsRow B e 1 v n xs) (hb : Below w.heap.size w w') : w'.ownsRow B e 1 v n xs := by
  refine ⟨h.1, ?_⟩
  rcases h.2 with q | ⟨g, cap, cur, h1, h2, h3, h4⟩
  · exact .inl q
  · exact .inr ⟨g, cap, cur, h1, h2, Below.blockAt hb h3, h4⟩
theorem at_kept {w w' : World} {T e : TypeId} {B b : Nat} {p : Value} {bs : List Value} (h : Lib.BuilderAt T e B b p bs w) (hb : Below w.heap.size w w') : Lib.BuilderAt T e B b p bs w' := by
  obtain ⟨h1, v, h2, h3, h4⟩ := h
  exact ⟨h1, v, Below.blockAt hb h2, own_kept h3 hb, h4⟩
theorem tab_below {w w' : World} {B : Nat} (hb : Below B w w') (hg : 2 < B) (h : Lib.TabIs Tryz.prog w "internal/strconv.uint64pow10" .u64 Lib.pow10Tab) : Lib.TabIs Tryz.prog w' "internal/strconv.uint64pow10" .u64 Lib.pow10Tab := by
  unfold Lib.TabIs World.var? at h ⊢
  rw [pow_global] at h ⊢
  simp only [Option.bind_some] at h ⊢
  rw [hb.block 2 hg]
  exact h
theorem Bld.grew {B b : Nat} {l : List UInt8} {w w' : World} (h : Bld B b l w) (hg : Grew w w') : Bld B b l w' := by
  have hb := hg.below
  refine ⟨?_, Nat.le_trans h.low hb.size, tab_below (B := w.heap.size) hb (Nat.lt_of_lt_of_le h.glob h.low) h.tab, h.glob⟩
  rcases h.is with q | q
  · exact .inl (at_kept q hb)
  · exact .inr (at_kept q hb)
theorem grew_B {B : Nat} {w w' : World} (hg : Grew w w') (hl : B ≤ w.heap.size) : Below B w w' :=
  ⟨hg.below.os, hg.below.tape, hg.below.output, hg.below.size, fun k hk => hg.below.block k (Nat.lt_of_lt_of_le hk hl)⟩
theorem frB {B : Nat} {w w' : World} (h : Below B w w') : Fr (· < B) w w' := ⟨h.os, h.tape, h.output, h.size, fun i _ hp => h.block i hp⟩

/-- what is kept beside the builder -/
def Kp (B b : Nat) (w w' : World) : Prop := Below B w w' ∧ Lib.OthersKept 5 (some b) w w'
theorem Kp.refl (B b : Nat) (w : World) : Kp B b w w := ⟨Below.refl B w, Lib.OthersKept.refl _ _ _⟩
theorem Kp.trans {B b : Nat} {w1 w2 w3 : World} (h : Kp B b w1 w2) (k : Kp B b w2 w3) : Kp B b w1 w3 := ⟨h.1.trans k.1, h.2.trans k.2⟩
theorem Kp.grew {B b : Nat} {w w' : World} (hg : Grew w w') (hl : B ≤ w.heap.size) : Kp B b w w' := ⟨grew_B hg hl, fun _ _ h _ _ => Below.blockAt hg.below h⟩
theorem Bld.lt {B b : Nat} {l : List UInt8} {w : World} (h : Bld B b l w) : b < w.heap.size := by
  rcases h.is with q | q
  · exact q.lt
  · exact q.lt
/-- a box of a value stays -/
theorem Kp.box {B b k : Nat} {w w' : World} (h : Kp B b w w') {v : Value} (hk : w.heap[k]? = some (.cells #[v] 23 (0, 0))) (hb : k ≠ b) : w'.heap[k]? = some (.cells #[v] 23 (0, 0)) :=
  h.2 k _ hk (by simpa using hb) (fun c fz e => by injection e with _ e2 _; exact absurd e2 (by decide))

/-- a text has been put behind -/
def Wrote (B b : Nat) (l t : List UInt8) (w w' : World) : Prop := Bld B b (l ++ t) w' ∧ Kp B b w w'
def WrotePost (B b : Nat) (l t : List UInt8) (w : World) (e : Ending) (w' : World) : Prop := e = .returned (.tuple #[]) ∧ Wrote B b l t w w'

theorem ws_any (B b : Nat) (l : List UInt8) (s : ByteArray) (w : World) (h : Bld B b l w) (hlen : l.length + s.size ≤ 140737488355328) :
    Calls Tryz.prog 70 #[.pointer (some ⟨b, 0, none⟩), .string s] w fun e w' => (∃ k : Nat, e = .returned (.tuple #[.int .i64 k, .nilIface])) ∧ Wrote B b l s.data.toList w w' := by
  refine (ws_raw B b (Lib.byteCells l) s w h.is (by rw [Lib.byteCells_length]; exact hlen) h.low).mono ?_
  rintro e w' ⟨rfl, h1, h2, h3⟩
  exact ⟨⟨_, rfl⟩, ⟨.inr (by rw [Lib.byteCells_append]; exact h1), Nat.le_trans h.low h2.size, tab_below h2 h.glob h.tab, h.glob⟩, h2, h3⟩

/-- the contract of write -/
def WrOK (n : Nat) : Prop := ∀ (B b : Nat) (l : List UInt8) (w : World) (a : AV n) (v : Value), RepP (· < B) w n a v → WF n a → Bld B b l w → l.length + (sh n a).length ≤ 140737488355328 → Calls Tryz.prog 31 #[.pointer (some ⟨b, 0, none⟩), v] w (WrotePost B b l (sh n a) w)

/-- what is left of a list from its k-th on -/
def restL (cl : List UInt8) (k : Nat) (l : List (List UInt8)) : List UInt8 := if k = 0 then jL cl l else jT cl l
def sepL (k : Nat) : List UInt8 := if k = 0 then [] else [44, 32]
theorem restL_nil (cl : List UInt8) (k : Nat) : restL cl k [] = cl := by unfold restL; split <;> rfl
theorem restL_cons (cl : List UInt8) (k : Nat) (a : List UInt8) (l : List (List UInt8)) : restL cl k (a :: l) = sepL k ++ (a ++ restL cl (k + 1) l) := by
  unfold restL sepL
  split <;> simp [jL, jT]

set_option maxRecDepth 100000 in
set_option maxHeartbeats 4000000 in
theorem writeList_any (n : Nat) (hW : WrOK n) (B b : Nat) (l : List UInt8) (w : World) (op cl : ByteArray) (a : Option Addr) (len cap : Nat) (es : List (AV n)) (h : RowP (· < B) w (RepP (· < B) w n) a len es) (hwf : ∀ x ∈ es, WF n x) (hB : Bld B b l w) (hlen : l.length + (op.data.toList ++ jL cl.data.toList (es.map (sh n))).length ≤ 140737488355328) :
    Calls Tryz.prog 73 #[.pointer (some ⟨b, 0, none⟩), .string op, .slice a len cap, .string cl] w (WrotePost B b l (op.data.toList ++ jL cl.data.toList (es.map (sh n))) w) := by
  obtain ⟨e1, b1, r1⟩ := h
  obtain ⟨T, hT⟩ : ∃ T, op.data.toList ++ jL cl.data.toList (es.map (sh n)) = T := ⟨_, rfl⟩
  rw [hT] at hlen ⊢
  have E1 : Hid (len = es.length) := e1
  have HT : Hid (op.data.toList ++ restL cl.data.toList 0 ((es.drop 0).map (sh n)) = T) := hT
  have HWF : Hid (∀ x ∈ es, WF n x) := hwf
  have HW : Hid (WrOK n) := hW
  have hol : op.size ≤ T.length := by rw [← hT]; simp
  have HO : Hid (Calls Tryz.prog 70 #[.pointer (some ⟨b, 0, none⟩), .string op] w _) := ws_any B b l op w hB (by omega)
  clear e1 hT hwf hW hB
  go_enter Tryz.func73, Tryz.ntmps73
  go_wp2_with fail
  refine HO.out.mono ?_
  rintro e w1 ⟨⟨k0, rfl⟩, h1, h2⟩
  have HB1 : Hid (Bld B b (l ++ op.data.toList) w1) := h1
  have HL1 : Hid (Kp B b w w1) := h2
  clear h1 h2 HO
  go_wp2_with fail
  go_loopw [15] (fun i wr => ∃ k : Nat, k ≤ len ∧ i = .int .i64 k ∧ Hid (∃ m, Bld B b (l ++ m) wr ∧ m ++ restL cl.data.toList k ((es.drop k).map (sh n)) = T) ∧ Hid (Kp B b w wr)) (fun i _ => len - (intOf i).toNat)
  case atStart => exact ⟨0, Nat.zero_le _, rfl, ⟨_, HB1.out, HT.out⟩, HL1.out⟩
  case round =>
    obtain ⟨k, hk, rfl, HM, HG⟩ := hrel
    obtain ⟨m, hm1, hm2⟩ := HM.out
    have HM1 : Hid (Bld B b (l ++ m) wr) := hm1
    clear HB1 HL1 HT HM hm1
    by_cases hlt : k < len
    · have hx : k < es.length := by rw [← E1.out]; exact hlt
      obtain ⟨p1, o1, rfl, hp1, hp2, hc1⟩ := r1.resolve_left (by omega)
      obtain ⟨v1, hv1, hr1⟩ := hc1 k es[k] (List.getElem?_eq_getElem hx)
      have g1 := (HG.out.1.cell (p := ⟨p1, o1 + k, none⟩) hp2).trans hv1
      have s1 : p1 < wr.heap.size := Nat.lt_of_lt_of_le hp1 HG.out.1.size
      have st1 := store_one (hr1.rep _ _ _).one
      have hd : es.drop k = es[k] :: es.drop (k + 1) := List.drop_eq_getElem_cons hx
      rw [hd, List.map_cons, restL_cons] at hm2
      have HC : Hid (∀ (W : World) (q : List UInt8), Below B w W → Bld B b q W → q.length + (sh n es[k]).length ≤ 140737488355328 → _) := fun (W : World) (q : List UInt8) hw hb hl => HW.out B b q W es[k] v1 (hr1.keep (frB hw)) (HWF.out _ (List.getElem_mem hx)) hb hl
      generalize sh n es[k] = t1 at HC hm2
      generalize hrr : restL cl.data.toList (k + 1) ((es.drop (k + 1)).map (sh n)) = rr at hm2
      have HRR : Hid (restL cl.data.toList (k + 1) ((es.drop (k + 1)).map (sh n)) = rr) := hrr
      have hle := congrArg List.length hm2
      simp only [List.length_append] at hle
      have HQ : Hid (m ++ (sepL k ++ (t1 ++ rr)) = T) := hm2
      clear hc1 hv1 hr1 r1 hd hm2 hrr HW HWF
      have A1 : Hid (Bld B b (l ++ m) (wr.alloc (.cells #[v1] 23))) := HM1.out.grew ((Grew.refl _).alloc _)
      have A2 : Hid (Kp B b w (wr.alloc (.cells #[v1] 23))) := HG.out.trans (Kp.grew ((Grew.refl _).alloc _) HM1.out.low)
      have A3 : Hid ((wr.alloc (.cells #[v1] 23)).heap[wr.heap.size]? = some (.cells #[v1] 23 (0, 0))) := heap_new rfl
      have hbne : wr.heap.size ≠ b := by have := HM1.out.lt; omega
      clear HM1 HG
      go_upto_region 4 with fail
      generalize wr.alloc (.cells #[v1] 23) = wA at A1 A2 A3 ⊢
      have HFin : Hid (∀ W : World, Bld B b (l ++ m ++ sepL k ++ t1) W → Kp B b w W → ∃ m', Bld B b (l ++ m') W ∧ m' ++ restL cl.data.toList (k + 1) ((es.drop (k + 1)).map (sh n)) = T) := by
        intro W h _
        refine ⟨m ++ sepL k ++ t1, by simpa using h, ?_⟩
        rw [HRR.out, ← HQ.out]; simp
      rcases Nat.eq_zero_or_pos k with hk0 | hk0
      · have HE : Hid (sepL k = []) := by show _ = _; rw [hk0]; rfl
        subst hk0
        have y0 := block_cell A3.out 0
        have HC1 : Hid (Calls Tryz.prog 31 #[.pointer (some ⟨b, 0, none⟩), v1] wA _) := HC.out wA (l ++ m) A2.out.1 A1.out (by simp; omega)
        clear HC
        go_wp2_with fail
        refine HC1.out.mono ?_
        rintro e w3 ⟨rfl, h1, h2⟩
        have Z1 : Hid (Bld B b (l ++ m ++ sepL 0 ++ t1) w3) := by show Bld _ _ _ _; rw [HE.out, List.append_nil]; exact h1
        have Z2 : Hid (Kp B b w w3) := A2.out.trans h2
        clear h1 h2 HC1
        go_wp2_with fail
        go_roundw
        case rel => exact ⟨0 + 1, by omega, by go_num, HFin.out _ Z1.out Z2.out, Z2⟩
        case measure => simp [intOf]; omega
      · have HE : Hid (sepL k = [44, 32]) := by show _ = _; unfold sepL; rw [if_neg (by omega)]
        have hse : (sepL k).length = 2 := by rw [HE.out]; rfl
        have HO : Hid (Calls Tryz.prog 70 #[.pointer (some ⟨b, 0, none⟩), .string ⟨#[44, 32]⟩] wA _) := ws_any B b (l ++ m) ⟨#[44, 32]⟩ wA A1.out (by simp [ByteArray.size]; omega)
        go_wp2_with fail
        refine HO.out.mono ?_
        rintro e w2 ⟨⟨k1, rfl⟩, h1, h2⟩
        have D1 : Hid (Bld B b (l ++ m ++ sepL k) w2) := by rw [HE.out]; exact h1
        have D2 : Hid (Kp B b w w2) := A2.out.trans h2
        have D3 : Hid (w2.heap[wr.heap.size]? = some (.cells #[v1] 23 (0, 0))) := h2.box A3.out hbne
        have y0 := block_cell D3.out 0
        have HC1 : Hid (Calls Tryz.prog 31 #[.pointer (some ⟨b, 0, none⟩), v1] w2 _) := HC.out w2 (l ++ m ++ sepL k) D2.out.1 D1.out (by simp; omega)
        clear HC h1 h2 A1 A2 A3 HO
        go_wp2_with fail
        refine HC1.out.mono ?_
        rintro e w3 ⟨rfl, h1, h2⟩
        have Z1 : Hid (Bld B b (l ++ m ++ sepL k ++ t1) w3) := h1
        have Z2 : Hid (Kp B b w w3) := D2.out.trans h2
        clear h1 h2 HC1
        go_wp2_with fail
        go_roundw
        case rel => exact ⟨k + 1, by omega, by go_num, HFin.out _ Z1.out Z2.out, Z2⟩
        case measure => simp [intOf]; omega
    · have hq : k = len := by omega
      have hz : es.drop k = [] := List.drop_of_length_le (by rw [← E1.out]; omega)
      rw [hz, List.map_nil, restL_nil] at hm2
      have hle := congrArg List.length hm2
      simp only [List.length_append] at hle
      have HO : Hid (Calls Tryz.prog 70 #[.pointer (some ⟨b, 0, none⟩), .string cl] wr _) := ws_any B b (l ++ m) cl wr HM1.out (by simp; simp at hle; omega)
      have HQ : Hid (l ++ m ++ cl.data.toList = l ++ T) := by show _ = _; rw [← hm2]; simp
      clear r1 hm2 hz
      go_wp2_with fail
      refine HO.out.mono ?_
      rintro e w2 ⟨⟨k1, rfl⟩, h1, h2⟩
      have HZ : Hid (WrotePost B b l T w (.returned (.tuple #[])) w2) := ⟨rfl, by rw [← HQ.out]; exact h1, HG.out.trans h2⟩
      clear h1 h2 HO HQ
      go_wp2_with fail
      go_end0
      exact HZ.out
end Go.Proofs.YtbogejmmkohbkaaGreatDoor.Sx
