/- Text is put together. -/
import Derived.Test.YtbogejmmkohbkaaGreatDoorGA3
import Derived.Test.YtbogejmmkohbkaaGreatDoorGA6
import Derived.Lib.AppendStr
import Derived.Lib.UnsafeStr
import Derived.Lib.LaidTab
import Derived.Lib.OthersKept
import Derived.Lib.OwnKind
import Derived.Test.YtbogejmmkohbkaaGreatDoorGA8
import Derived.Deep.Cut
import Derived.Test.YtbogejmmkohbkaaGreatDoorGA4
namespace Go.Proofs.YtbogejmmkohbkaaGreatDoor.Sx
open Go.RowKit Go.Sort

theorem infoB : (Tryz.prog.info? 5).map (fun i => (i.zero, i.size, i.bytes)) = some (some (.int .u8 0), 1, 1) := by kernel_rfl

def ccRen : Go.Shelf.Ren := ⟨fun | 240 => 132 | 276 => 181 | n => n, fun | 0 => 0 | 4 => 4 | 9 => 9 | 20 => 20 | 70 => 73 | 72 => 76 | 37 => 74 | 5 => 5 | 164 => 178 | n => n, fun | n => n⟩
theorem ccLays : Lays.n240 Tryz.prog ccRen := {
  mixed := by kernel_rfl
  f240 := Tryz.func132.trans (congrArg some (by kernel_rfl))
  f276 := Tryz.func181.trans (congrArg some (by kernel_rfl))
  t0 := Tryz.underlying0
  a0 := Tryz.isAgg0
  z0 := Tryz.sizeOf0
  v0 := Tryz.zeroValue0
  t4 := Tryz.underlying4
  a4 := Tryz.isAgg4
  z4 := Tryz.sizeOf4
  v4 := Tryz.zeroValue4
  t9 := Tryz.underlying9
  a9 := Tryz.isAgg9
  z9 := Tryz.sizeOf9
  v9 := Tryz.zeroValue9
  t20 := Tryz.underlying20
  a20 := Tryz.isAgg20
  z20 := Tryz.sizeOf20
  v20 := Tryz.zeroValue20
  t70 := Tryz.underlying73
  a70 := Tryz.isAgg73
  z70 := Tryz.sizeOf73
  v70 := Tryz.zeroValue73
  t72 := Tryz.underlying76
  a72 := Tryz.isAgg76
  z72 := Tryz.sizeOf76
  v72 := Tryz.zeroValue76
  t164 := Tryz.underlying178
  a164 := Tryz.isAgg178
  z164 := Tryz.sizeOf178
  v164 := Tryz.zeroValue178 }
theorem ccX : Builder.X72 Tryz.prog ccRen := {
  sizeBuilder := by kernel_rfl
  liesBuilder := by kernel_rfl }

theorem cc_used (b : Nat) (w : World) (h0 : w.cell? ⟨b, 0, none⟩ = some (.pointer (some ⟨b, 0, none⟩))) :
    Calls Tryz.prog 132 #[.pointer (some ⟨b, 0, none⟩)] w fun e w' => e = .returned (.tuple #[]) ∧ w' = w := Any.Builder_copyCheck_used ccLays ccX b w h0
theorem cc_fresh (b : Nat) (w : World) (h0 : w.cell? ⟨b, 0, none⟩ = some (.pointer none)) (hsh : w.shape? b = some (76, 2)) (hfz : w.frozen? ⟨b, 0, none⟩ = false) :
    Calls Tryz.prog 132 #[.pointer (some ⟨b, 0, none⟩)] w fun e w' => e = .returned (.tuple #[]) ∧ w' = w.setCell ⟨b, 0, none⟩ (.pointer (some ⟨b, 0, none⟩)) := Any.Builder_copyCheck_fresh ccLays ccX b w h0 hsh hfz

theorem cc_any (B b : Nat) (bs : List Value) (w : World) (h : Lib.IsBuilder 76 5 B b bs w) :
    Calls Tryz.prog 132 #[.pointer (some ⟨b, 0, none⟩)] w fun e w' => e = .returned (.tuple #[]) ∧ (Lib.BuilderAt 76 5 B b (.pointer (some ⟨b, 0, none⟩)) bs w' ∧ Below B w w' ∧ Lib.OthersKept 5 (some b) w w') := by
  rcases h with h | h
  · refine (cc_fresh b w h.cell0 h.shape h.frozen0).mono ?_
    rintro e w' ⟨rfl, rfl⟩
    exact ⟨rfl, h.used _, (Below.refl B w).setCell (p := ⟨b, 0, none⟩) h.1 _, (Lib.OthersKept.refl _ _ w).setCell ⟨b, 0, none⟩ rfl _⟩
  · refine (cc_used b w h.cell0).mono ?_
    rintro e w' ⟨rfl, rfl⟩
    exact ⟨rfl, h, Below.refl B _, Lib.OthersKept.refl _ _ _⟩

set_option maxRecDepth 100000 in
set_option maxHeartbeats 2000000 in
theorem ws_raw (B b : Nat) (bs : List Value) (s : ByteArray) (w : World) (h : Lib.IsBuilder 76 5 B b bs w) (hlen : bs.length + s.size ≤ 140737488355328) (hBw : B ≤ w.heap.size) :
    Calls Tryz.prog 70 #[.pointer (some ⟨b, 0, none⟩), .string s] w fun e w' => e = .returned (.tuple #[.int .i64 s.size, .nilIface]) ∧ (Lib.BuilderAt 76 5 B b (.pointer (some ⟨b, 0, none⟩)) (bs ++ Lib.strCells s) w' ∧ Below B w w' ∧ Lib.OthersKept 5 (some b) w w') := by
  obtain ⟨i0, hi, hz0, hz1, hz2⟩ := info_parts infoB
  go_enter Tryz.func70, Tryz.ntmps70
  go_wp2_with fail
  refine (cc_any B b bs _ h).mono ?_
  rintro e w1 ⟨rfl, h1, hb1, hk1⟩
  obtain ⟨hB, v, hbk, hown, hne⟩ := h1
  have c0 : w1.cell? ⟨b, 0, none⟩ = some (.pointer (some ⟨b, 0, none⟩)) := by rw [Lib.cell_of_heap hbk]; rfl
  have c1 : w1.cell? ⟨b, 1, none⟩ = some v := by rw [Lib.cell_of_heap hbk]; rfl
  go_wp2_with (at_builtin; refine Lib.wpList_append_own_string _ rfl _ _ 74 9 rfl B 5 i0 Tryz.underlying74 Tryz.underlying9 hi hz0 hz1 hz2 _ _ _ rfl hown s rfl ?c3 ?c4 ?c5 ?_)
  case c3 => unfold maxLen; omega
  case c4 => omega
  case c5 => have := hb1.size; omega
  intro v' w2 hown' hgrow _
  have hlt : b < w1.heap.size := by
    rcases Nat.lt_or_ge b w1.heap.size with h' | h'
    · exact h'
    · simp [Array.getElem?_eq_none h'] at hbk
  have hb2 : w2.heap[b]? = some (.cells #[.pointer (some ⟨b, 0, none⟩), v] 76 (0, 0)) := by
    rw [hgrow.block b hlt (fun e => hne e.symm)]
    exact hbk
  have d0 : w2.cell? ⟨b, 0, none⟩ = some (.pointer (some ⟨b, 0, none⟩)) := by rw [Lib.cell_of_heap hb2]; rfl
  have d1 : w2.cell? ⟨b, 1, none⟩ = some v := by rw [Lib.cell_of_heap hb2]; rfl
  have f1 : w2.frozen? ⟨b, 1, none⟩ = false := Lib.frozen_of_heap hb2 1
  obtain ⟨ao, n', cap, rfl⟩ : ∃ ao n' cap, v' = .slice ao n' cap := by
    rcases hown'.2 with ⟨hv, _⟩ | ⟨g, cap, cur, hv, _⟩
    · exact ⟨_, _, _, hv⟩
    · exact ⟨_, _, _, hv⟩
  go_wp2
  go_ret2
  refine ⟨rfl, ?_, ?_, ?_⟩
  · exact Lib.BuilderAt.put (T := 76) (e := 5) hB hb2 (bs' := bs ++ Lib.strCells s) (by simpa [Lib.strCells_length] using hown') (by decide)
  · exact (hb1.grown hgrow (by have := hb1.size; omega) (fun k hk => (hown.lt k hk).1)).setCell (p := ⟨b, 1, none⟩) hB _
  · exact (hk1.grown hgrow (fun g hg => Lib.ownsRow_kind hown g hg)).setCell ⟨b, 1, none⟩ rfl _

/-- a builder that holds a text; the table of powers -/
structure Bld (B b : Nat) (l : List UInt8) (w : World) : Prop where
  is : Lib.IsBuilder 76 5 B b (Lib.byteCells l) w
  low : B ≤ w.heap.size
  tab : Lib.TabIs Tryz.prog w "internal/strconv.uint64pow10" .u64 Lib.pow10Tab
  glob : 2 < B

theorem pow_global : Tryz.prog.globalNamed "internal/strconv.uint64pow10" = some 2 := by kernel_rfl
end Go.Proofs.YtbogejmmkohbkaaGreatDoor.Sx

namespace Go.Proofs.YtbogejmmkohbkaaGreatDoor.Sx
open Go.RowKit Go.Sort

theorem own_kept {w w' : World} {B : Nat} {e : TypeId} {v : Value} {n : Nat} {xs : List Value} (h : w.ownsRow B e 1 v n xs) (hb : Below w.heap.size w w') : w'.ownsRow B e 1 v n xs := by
  refine ⟨h.1, ?_⟩
  rcases h.2 with q | ⟨g, cap, cur, h1, h2, h3, h4⟩
  · exact .inl q
  · exact .inr ⟨g, cap, cur, h1, h2, Below.blockAt hb h3, h4⟩
theorem at_kept {w w' : World} {T e : TypeId} {B b : Nat} {p : Value} {bs : List Value} (h : Lib.BuilderAt T e B b p bs w) (hb : Below w.heap.size w w') : Lib.BuilderAt T e B b p bs w' := by
  obtain ⟨h1, v, h2, h3, h4⟩ := h
  exact ⟨h1, v, Below.blockAt hb h2, own_kept h3 hb, h4⟩
theorem tab_below {w w' : World} {B : Nat} (hb : Below B w w') (hg : 2 < B) (h : Lib.TabIs Tryz.prog w "internal/strconv.uint64pow10" .u64 Lib.pow10Tab) : Lib.TabIs Tryz.prog w' "internal/strconv.uint64pow10" .u64 Lib.pow10Tab := by
  unfold Lib.TabIs World.var? at h ⊢
  rw [pow_global] at h ⊢
  simp only [Option.bind_some] at h ⊢
  rw [hb.block 2 hg]
  exact h
theorem Bld.grew {B b : Nat} {l : List UInt8} {w w' : World} (h : Bld B b l w) (hg : Grew w w') : Bld B b l w' := by
  have hb := hg.below
  refine ⟨?_, Nat.le_trans h.low hb.size, tab_below (B := w.heap.size) hb (Nat.lt_of_lt_of_le h.glob h.low) h.tab, h.glob⟩
  rcases h.is with q | q
  · exact .inl (at_kept q hb)
  · exact .inr (at_kept q hb)
theorem grew_B {B : Nat} {w w' : World} (hg : Grew w w') (hl : B ≤ w.heap.size) : Below B w w' :=
  ⟨hg.below.os, hg.below.tape, hg.below.output, hg.below.size, fun k hk => hg.below.block k (Nat.lt_of_lt_of_le hk hl)⟩
theorem frB {B : Nat} {w w' : World} (h : Below B w w') : Fr (· < B) w w' := ⟨h.os, h.tape, h.output, h.size, fun i _ hp => h.block i hp⟩

/-- what is kept beside the builder -/
def Kp (B b : Nat) (w w' : World) : Prop := Below B w w' ∧ Lib.OthersKept 5 (some b) w w'
theorem Kp.refl (B b : Nat) (w : World) : Kp B b w w := ⟨Below.refl B w, Lib.OthersKept.refl _ _ _⟩
theorem Kp.trans {B b : Nat} {w1 w2 w3 : World} (h : Kp B b w1 w2) (k : Kp B b w2 w3) : Kp B b w1 w3 := ⟨h.1.trans k.1, h.2.trans k.2⟩
theorem Kp.grew {B b : Nat} {w w' : World} (hg : Grew w w') (hl : B ≤ w.heap.size) : Kp B b w w' := ⟨grew_B hg hl, fun _ _ h _ _ => Below.blockAt hg.below h⟩
theorem Bld.lt {B b : Nat} {l : List UInt8} {w : World} (h : Bld B b l w) : b < w.heap.size := by
  rcases h.is with q | q
  · exact q.lt
  · exact q.lt
/-- a box of a value stays -/
theorem Kp.box {B b k : Nat} {w w' : World} (h : Kp B b w w') {v : Value} (hk : w.heap[k]? = some (.cells #[v] 23 (0, 0))) (hb : k ≠ b) : w'.heap[k]? = some (.cells #[v] 23 (0, 0)) :=
  h.2 k _ hk (by simpa using hb) (fun c fz e => by injection e with _ e2 _; exact absurd e2 (by decide))

/-- a text has been put behind -/
def Wrote (B b : Nat) (l t : List UInt8) (w w' : World) : Prop := Bld B b (l ++ t) w' ∧ Kp B b w w'
def WrotePost (B b : Nat) (l t : List UInt8) (w : World) (e : Ending) (w' : World) : Prop := e = .returned (.tuple #[]) ∧ Wrote B b l t w w'

theorem ws_any (B b : Nat) (l : List UInt8) (s : ByteArray) (w : World) (h : Bld B b l w) (hlen : l.length + s.size ≤ 140737488355328) :
    Calls Tryz.prog 70 #[.pointer (some ⟨b, 0, none⟩), .string s] w fun e w' => (∃ k : Nat, e = .returned (.tuple #[.int .i64 k, .nilIface])) ∧ Wrote B b l s.data.toList w w' := by
  refine (ws_raw B b (Lib.byteCells l) s w h.is (by rw [Lib.byteCells_length]; exact hlen) h.low).mono ?_
  rintro e w' ⟨rfl, h1, h2, h3⟩
  exact ⟨⟨_, rfl⟩, ⟨.inr (by rw [Lib.byteCells_append]; exact h1), Nat.le_trans h.low h2.size, tab_below h2 h.glob h.tab, h.glob⟩, h2, h3⟩

/-- the contract of write -/
def WrOK (n : Nat) : Prop := ∀ (B b : Nat) (l : List UInt8) (w : World) (a : AV n) (v : Value), RepP (· < B) w n a v → WF n a → Bld B b l w → l.length + (sh n a).length ≤ 140737488355328 → Calls Tryz.prog 31 #[.pointer (some ⟨b, 0, none⟩), v] w (WrotePost B b l (sh n a) w)

/-- what is left of a list from its k-th on -/
def restL (cl : List UInt8) (k : Nat) (l : List (List UInt8)) : List UInt8 := if k = 0 then jL cl l else jT cl l
def sepL (k : Nat) : List UInt8 := if k = 0 then [] else [44, 32]
theorem restL_nil (cl : List UInt8) (k : Nat) : restL cl k [] = cl := by unfold restL; split <;> rfl
theorem restL_cons (cl : List UInt8) (k : Nat) (a : List UInt8) (l : List (List UInt8)) : restL cl k (a :: l) = sepL k ++ (a ++ restL cl (k + 1) l) := by
  unfold restL sepL
  split <;> simp [jL, jT]

set_option maxRecDepth 100000 in
set_option maxHeartbeats 4000000 in
theorem writeList_any (n : Nat) (hW : WrOK n) (B b : Nat) (l : List UInt8) (w : World) (op cl : ByteArray) (a : Option Addr) (len cap : Nat) (es : List (AV n)) (h : RowP (· < B) w (RepP (· < B) w n) a len es) (hwf : ∀ x ∈ es, WF n x) (hB : Bld B b l w) (hlen : l.length + (op.data.toList ++ jL cl.data.toList (es.map (sh n))).length ≤ 140737488355328) :
    Calls Tryz.prog 73 #[.pointer (some ⟨b, 0, none⟩), .string op, .slice a len cap, .string cl] w (WrotePost B b l (op.data.toList ++ jL cl.data.toList (es.map (sh n))) w) := by
  obtain ⟨e1, b1, r1⟩ := h
  obtain ⟨T, hT⟩ : ∃ T, op.data.toList ++ jL cl.data.toList (es.map (sh n)) = T := ⟨_, rfl⟩
  rw [hT] at hlen ⊢
  have E1 : Hid (len = es.length) := e1
  have HT : Hid (op.data.toList ++ restL cl.data.toList 0 ((es.drop 0).map (sh n)) = T) := hT
  have HWF : Hid (∀ x ∈ es, WF n x) := hwf
  have HW : Hid (WrOK n) := hW
  have hol : op.size ≤ T.length := by rw [← hT]; simp
  have HO : Hid (Calls Tryz.prog 70 #[.pointer (some ⟨b, 0, none⟩), .string op] w _) := ws_any B b l op w hB (by omega)
  clear e1 hT hwf hW hB
  go_enter Tryz.func73, Tryz.ntmps73
  go_wp2_with fail
  refine HO.out.mono ?_
  rintro e w1 ⟨⟨k0, rfl⟩, h1, h2⟩
  have HB1 : Hid (Bld B b (l ++ op.data.toList) w1) := h1
  have HL1 : Hid (Kp B b w w1) := h2
  clear h1 h2 HO
  go_wp2_with fail
  go_loopw [15] (fun i wr => ∃ k : Nat, k ≤ len ∧ i = .int .i64 k ∧ Hid (∃ m, Bld B b (l ++ m) wr ∧ m ++ restL cl.data.toList k ((es.drop k).map (sh n)) = T) ∧ Hid (Kp B b w wr)) (fun i _ => len - (intOf i).toNat)
  case atStart => exact ⟨0, Nat.zero_le _, rfl, ⟨_, HB1.out, HT.out⟩, HL1.out⟩
  case round =>
    obtain ⟨k, hk, rfl, HM, HG⟩ := hrel
    obtain ⟨m, hm1, hm2⟩ := HM.out
    have HM1 : Hid (Bld B b (l ++ m) wr) := hm1
    clear HB1 HL1 HT HM hm1
    by_cases hlt : k < len
    · have hx : k < es.length := by rw [← E1.out]; exact hlt
      obtain ⟨p1, o1, rfl, hp1, hp2, hc1⟩ := r1.resolve_left (by omega)
      obtain ⟨v1, hv1, hr1⟩ := hc1 k es[k] (List.getElem?_eq_getElem hx)
      have g1 := (HG.out.1.cell (p := ⟨p1, o1 + k, none⟩) hp2).trans hv1
      have s1 : p1 < wr.heap.size := Nat.lt_of_lt_of_le hp1 HG.out.1.size
      have st1 := store_one (hr1.rep _ _ _).one
      have hd : es.drop k = es[k] :: es.drop (k + 1) := List.drop_eq_getElem_cons hx
      rw [hd, List.map_cons, restL_cons] at hm2
      have HC : Hid (∀ (W : World) (q : List UInt8), Below B w W → Bld B b q W → q.length + (sh n es[k]).length ≤ 140737488355328 → _) := fun (W : World) (q : List UInt8) hw hb hl => HW.out B b q W es[k] v1 (hr1.keep (frB hw)) (HWF.out _ (List.getElem_mem hx)) hb hl
      generalize sh n es[k] = t1 at HC hm2
      generalize hrr : restL cl.data.toList (k + 1) ((es.drop (k + 1)).map (sh n)) = rr at hm2
      have HRR : Hid (restL cl.data.toList (k + 1) ((es.drop (k + 1)).map (sh n)) = rr) := hrr
      have hle := congrArg List.length hm2
      simp only [List.length_append] at hle
      have HQ : Hid (m ++ (sepL k ++ (t1 ++ rr)) = T) := hm2
      clear hc1 hv1 hr1 r1 hd hm2 hrr HW HWF
      have A1 : Hid (Bld B b (l ++ m) (wr.alloc (.cells #[v1] 23))) := HM1.out.grew ((Grew.refl _).alloc _)
      have A2 : Hid (Kp B b w (wr.alloc (.cells #[v1] 23))) := HG.out.trans (Kp.grew ((Grew.refl _).alloc _) HM1.out.low)
      have A3 : Hid ((wr.alloc (.cells #[v1] 23)).heap[wr.heap.size]? = some (.cells #[v1] 23 (0, 0))) := heap_new rfl
      have hbne : wr.heap.size ≠ b := by have := HM1.out.lt; omega
      clear HM1 HG
      go_upto_region 4 with fail
      generalize wr.alloc (.cells #[v1] 23) = wA at A1 A2 A3 ⊢
      have HFin : Hid (∀ W : World, Bld B b (l ++ m ++ sepL k ++ t1) W → Kp B b w W → ∃ m', Bld B b (l ++ m') W ∧ m' ++ restL cl.data.toList (k + 1) ((es.drop (k + 1)).map (sh n)) = T) := by
        intro W h _
        refine ⟨m ++ sepL k ++ t1, by simpa using h, ?_⟩
        rw [HRR.out, ← HQ.out]; simp
      rcases Nat.eq_zero_or_pos k with hk0 | hk0
      · have HE : Hid (sepL k = []) := by show _ = _; rw [hk0]; rfl
        subst hk0
        have y0 := block_cell A3.out 0
        have HC1 : Hid (Calls Tryz.prog 31 #[.pointer (some ⟨b, 0, none⟩), v1] wA _) := HC.out wA (l ++ m) A2.out.1 A1.out (by simp; omega)
        clear HC
        go_wp2_with fail
        refine HC1.out.mono ?_
        rintro e w3 ⟨rfl, h1, h2⟩
        have Z1 : Hid (Bld B b (l ++ m ++ sepL 0 ++ t1) w3) := by show Bld _ _ _ _; rw [HE.out, List.append_nil]; exact h1
        have Z2 : Hid (Kp B b w w3) := A2.out.trans h2
        clear h1 h2 HC1
        go_wp2_with fail
        go_roundw
        case rel => exact ⟨0 + 1, by omega, by go_num, HFin.out _ Z1.out Z2.out, Z2⟩
        case measure => simp [intOf]; omega
      · have HE : Hid (sepL k = [44, 32]) := by show _ = _; unfold sepL; rw [if_neg (by omega)]
        have hse : (sepL k).length = 2 := by rw [HE.out]; rfl
        have HO : Hid (Calls Tryz.prog 70 #[.pointer (some ⟨b, 0, none⟩), .string ⟨#[44, 32]⟩] wA _) := ws_any B b (l ++ m) ⟨#[44, 32]⟩ wA A1.out (by simp [ByteArray.size]; omega)
        go_wp2_with fail
        refine HO.out.mono ?_
        rintro e w2 ⟨⟨k1, rfl⟩, h1, h2⟩
        have D1 : Hid (Bld B b (l ++ m ++ sepL k) w2) := by rw [HE.out]; exact h1
        have D2 : Hid (Kp B b w w2) := A2.out.trans h2
        have D3 : Hid (w2.heap[wr.heap.size]? = some (.cells #[v1] 23 (0, 0))) := h2.box A3.out hbne
        have y0 := block_cell D3.out 0
        have HC1 : Hid (Calls Tryz.prog 31 #[.pointer (some ⟨b, 0, none⟩), v1] w2 _) := HC.out w2 (l ++ m ++ sepL k) D2.out.1 D1.out (by simp; omega)
        clear HC h1 h2 A1 A2 A3 HO
        go_wp2_with fail
        refine HC1.out.mono ?_
        rintro e w3 ⟨rfl, h1, h2⟩
        have Z1 : Hid (Bld B b (l ++ m ++ sepL k ++ t1) w3) := h1
        have Z2 : Hid (Kp B b w w3) := D2.out.trans h2
        clear h1 h2 HC1
        go_wp2_with fail
        go_roundw
        case rel => exact ⟨k + 1, by omega, by go_num, HFin.out _ Z1.out Z2.out, Z2⟩
        case measure => simp [intOf]; omega
    · have hq : k = len := by omega
      have hz : es.drop k = [] := List.drop_of_length_le (by rw [← E1.out]; omega)
      rw [hz, List.map_nil, restL_nil] at hm2
      have hle := congrArg List.length hm2
      simp only [List.length_append] at hle
      have HO : Hid (Calls Tryz.prog 70 #[.pointer (some ⟨b, 0, none⟩), .string cl] wr _) := ws_any B b (l ++ m) cl wr HM1.out (by simp; simp at hle; omega)
      have HQ : Hid (l ++ m ++ cl.data.toList = l ++ T) := by show _ = _; rw [← hm2]; simp
      clear r1 hm2 hz
      go_wp2_with fail
      refine HO.out.mono ?_
      rintro e w2 ⟨⟨k1, rfl⟩, h1, h2⟩
      have HZ : Hid (WrotePost B b l T w (.returned (.tuple #[])) w2) := ⟨rfl, by rw [← HQ.out]; exact h1, HG.out.trans h2⟩
      clear h1 h2 HO HQ
      go_wp2_with fail
      go_end0
      exact HZ.out
end Go.Proofs.YtbogejmmkohbkaaGreatDoor.Sx

namespace Go.Proofs.YtbogejmmkohbkaaGreatDoor.Sx
open Go.RowKit Go.Sort

def restP (k : Nat) (ks us : List (List UInt8)) : List UInt8 := if k = 0 then jP ks us else jQ ks us
theorem restP_nil (k : Nat) : restP k [] [] = [93] := by unfold restP; split <;> rfl
theorem restP_cons (k : Nat) (a u : List UInt8) (ks us : List (List UInt8)) : restP k (a :: ks) (u :: us) = sepL k ++ (a ++ ([58, 32] ++ (u ++ restP (k + 1) ks us))) := by
  unfold restP sepL
  split <;> simp [jP, jQ]
set_option maxRecDepth 100000 in
set_option maxHeartbeats 4000000 in
theorem writeFn_seq (n : Nat) (hW : WrOK n) (B b : Nat) (l : List UInt8) (w : World) (fb d : Nat) (ks us : List (AV n)) (h : FnP (· < B) w (RepP (· < B) w n) (numOf n) (wt n) fb d ks us) (hq : counts (numOf n) ks = true) (hwu : ∀ x ∈ us, WF n x) (hB : Bld B b l w) (hlen : l.length + (60 :: 60 :: jL [62, 62] (us.map (sh n))).length ≤ 140737488355328) :
    Calls Tryz.prog 74 #[.pointer (some ⟨b, 0, none⟩), .pointer (some ⟨fb, 0, none⟩)] w (WrotePost B b l (60 :: 60 :: jL [62, 62] (us.map (sh n))) w) := by
  obtain ⟨hP, hs, hl, a, len, cap, h0, hr⟩ := h
  have HC : Hid (Calls Tryz.prog 73 #[.pointer (some ⟨b, 0, none⟩), .string ⟨#[60, 60]⟩, .slice a len cap, .string ⟨#[62, 62]⟩] w (WrotePost B b l (60 :: 60 :: jL [62, 62] (us.map (sh n))) w)) := writeList_any n hW B b l w ⟨#[60, 60]⟩ ⟨#[62, 62]⟩ a len cap us hr hwu hB (by simpa using hlen)
  rw [hq] at h0
  have f1 := block_cell h0 1
  have f3 := block_cell h0 3
  generalize (60 :: 60 :: jL [62, 62] (us.map (sh n))) = T at HC hlen ⊢
  clear hr hs
  go_enter Tryz.func74, Tryz.ntmps74
  go_wp2_with fail
  refine HC.out.mono ?_
  rintro e w1 ⟨rfl, h1⟩
  have HZ : Hid (WrotePost B b l T w (.returned (.tuple #[])) w1) := ⟨rfl, h1⟩
  clear h1 HC
  go_wp2_with fail
  refine bodyPost_ret (results_none rfl _ _ _) rfl ?_
  exact HZ.out

set_option maxRecDepth 100000 in
set_option maxHeartbeats 4000000 in
theorem writeFn_fn (n : Nat) (hW : WrOK n) (B b : Nat) (l : List UInt8) (w : World) (fb d : Nat) (ks us : List (AV n)) (h : FnP (· < B) w (RepP (· < B) w n) (numOf n) (wt n) fb d ks us) (hq : counts (numOf n) ks = false) (hwk : ∀ x ∈ ks, WF n x) (hwu : ∀ x ∈ us, WF n x) (hB : Bld B b l w) (hlen : l.length + (91 :: jP (ks.map (sh n)) (us.map (sh n))).length ≤ 140737488355328) :
    Calls Tryz.prog 74 #[.pointer (some ⟨b, 0, none⟩), .pointer (some ⟨fb, 0, none⟩)] w (WrotePost B b l (91 :: jP (ks.map (sh n)) (us.map (sh n))) w) := by
  obtain ⟨hP, ⟨hPd, ad, lend, capd, hd0, ed, bd, rd⟩, hl, a, len, cap, h0, e1, b1, r1⟩ := h
  obtain ⟨T, hT⟩ : ∃ T, 91 :: jP (ks.map (sh n)) (us.map (sh n)) = T := ⟨_, rfl⟩
  rw [hT] at hlen ⊢
  rw [hq] at h0
  have ll : lend = len := by omega
  subst ll
  have E1 : Hid (lend = us.length) := e1
  have E2 : Hid (lend = ks.length) := ed
  have HT : Hid ([91] ++ restP 0 ((ks.drop 0).map (sh n)) ((us.drop 0).map (sh n)) = T) := hT
  have HWK : Hid (∀ x ∈ ks, WF n x) := hwk
  have HWU : Hid (∀ x ∈ us, WF n x) := hwu
  have HW : Hid (WrOK n) := hW
  have hol : 1 ≤ T.length := by rw [← hT]; simp
  have HO : Hid (Calls Tryz.prog 70 #[.pointer (some ⟨b, 0, none⟩), .string ⟨#[91]⟩] w _) := ws_any B b l ⟨#[91]⟩ w hB (by simp [ByteArray.size]; omega)
  have f1 := block_cell h0 1
  have f3 := block_cell h0 3
  have hfl := block_lt h0
  have hdl := block_lt hd0
  have H0 : Hid (∀ W : World, Below B w W → W.heap[fb]? = _ ∧ W.heap[d]? = _) := fun (W : World) (hW : Below B w W) => ⟨(hW.block fb hP).trans h0, (hW.block d hPd).trans hd0⟩
  clear e1 ed hT hwk hwu hW hB
  go_enter Tryz.func74, Tryz.ntmps74
  go_wp2_with fail
  refine HO.out.mono ?_
  rintro e w1 ⟨⟨k0, rfl⟩, h1, h2⟩
  have HB1 : Hid (Bld B b (l ++ [91]) w1) := h1
  have HL1 : Hid (Kp B b w w1) := h2
  clear f1 f3
  have f1 := block_cell (H0.out w1 h2.1).1 1
  clear h1 h2 HO
  go_wp2_with fail
  go_loopw [23] (fun i wr => ∃ k : Nat, k ≤ lend ∧ i = .int .i64 k ∧ Hid (∃ m, Bld B b (l ++ m) wr ∧ m ++ restP k ((ks.drop k).map (sh n)) ((us.drop k).map (sh n)) = T) ∧ Hid (Kp B b w wr)) (fun i _ => lend - (intOf i).toNat)
  case atStart => exact ⟨0, Nat.zero_le _, rfl, ⟨_, HB1.out, HT.out⟩, HL1.out⟩
  case round =>
    obtain ⟨k, hk, rfl, HM, HG⟩ := hrel
    obtain ⟨m, hm1, hm2⟩ := HM.out
    have HM1 : Hid (Bld B b (l ++ m) wr) := hm1
    clear HB1 HL1 HT HM hm1 f1
    by_cases hlt : k < lend
    · have hx : k < us.length := by rw [← E1.out]; exact hlt
      have hy : k < ks.length := by rw [← E2.out]; exact hlt
      obtain ⟨p1, o1, rfl, hp1, hp2, hc1⟩ := r1.resolve_left (by omega)
      obtain ⟨v1, hv1, hr1⟩ := hc1 k us[k] (List.getElem?_eq_getElem hx)
      obtain ⟨q1, j1, rfl, hq1, hq2, hc2⟩ := rd.resolve_left (by omega)
      obtain ⟨x1, hx1, hs1⟩ := hc2 k ks[k] (List.getElem?_eq_getElem hy)
      have g1 := (HG.out.1.cell (p := ⟨p1, o1 + k, none⟩) hp2).trans hv1
      have s1 : p1 < wr.heap.size := Nat.lt_of_lt_of_le hp1 HG.out.1.size
      have st1 := store_one (hr1.rep _ _ _).one
      have HK : Hid (∀ W : World, Below B w W → W.cell? ⟨q1, j1 + k, none⟩ = some x1 ∧ q1 < W.heap.size) := fun (W : World) hW => ⟨(hW.cell (p := ⟨q1, j1 + k, none⟩) hq2).trans hx1, Nat.lt_of_lt_of_le hq1 hW.size⟩
      rw [List.drop_eq_getElem_cons hx, List.drop_eq_getElem_cons hy, List.map_cons, List.map_cons, restP_cons] at hm2
      have HC : Hid (∀ (W : World) (q : List UInt8), Below B w W → Bld B b q W → q.length + (sh n us[k]).length ≤ 140737488355328 → _) := fun (W : World) (q : List UInt8) hw hb hl => HW.out B b q W us[k] v1 (hr1.keep (frB hw)) (HWU.out _ (List.getElem_mem hx)) hb hl
      have HD : Hid (∀ (W : World) (q : List UInt8), Below B w W → Bld B b q W → q.length + (sh n ks[k]).length ≤ 140737488355328 → _) := fun (W : World) (q : List UInt8) hw hb hl => HW.out B b q W ks[k] x1 (hs1.keep (frB hw)) (HWK.out _ (List.getElem_mem hy)) hb hl
      generalize sh n us[k] = t1 at HC hm2
      generalize sh n ks[k] = t2 at HD hm2
      generalize hrr : restP (k + 1) ((ks.drop (k + 1)).map (sh n)) ((us.drop (k + 1)).map (sh n)) = rr at hm2
      have HRR : Hid (restP (k + 1) ((ks.drop (k + 1)).map (sh n)) ((us.drop (k + 1)).map (sh n)) = rr) := hrr
      have hle := congrArg List.length hm2
      simp only [List.length_append, List.length_cons, List.length_nil] at hle
      have HQ : Hid (m ++ (sepL k ++ (t2 ++ ([58, 32] ++ (t1 ++ rr)))) = T) := hm2
      clear hc1 hv1 hr1 r1 hm2 hrr HW HWU HWK hc2 hx1 hs1 rd
      have A1 : Hid (Bld B b (l ++ m) (wr.alloc (.cells #[v1] 23))) := HM1.out.grew ((Grew.refl _).alloc _)
      have A2 : Hid (Kp B b w (wr.alloc (.cells #[v1] 23))) := HG.out.trans (Kp.grew ((Grew.refl _).alloc _) HM1.out.low)
      have A3 : Hid ((wr.alloc (.cells #[v1] 23)).heap[wr.heap.size]? = some (.cells #[v1] 23 (0, 0))) := heap_new rfl
      have hbne : wr.heap.size ≠ b := by have := HM1.out.lt; omega
      clear HM1 HG
      have HFin : Hid (∀ W : World, Bld B b (l ++ m ++ sepL k ++ t2 ++ [58, 32] ++ t1) W → ∃ m', Bld B b (l ++ m') W ∧ m' ++ restP (k + 1) ((ks.drop (k + 1)).map (sh n)) ((us.drop (k + 1)).map (sh n)) = T) := by
        intro W h
        refine ⟨m ++ sepL k ++ t2 ++ [58, 32] ++ t1, by simpa using h, ?_⟩
        rw [HRR.out, ← HQ.out]; simp
      go_upto_region 6 with fail
      generalize wr.alloc (.cells #[v1] 23) = wA at A1 A2 A3 ⊢
      rcases Nat.eq_zero_or_pos k with hk0 | hk0
      · have HE : Hid (sepL k = []) := by show _ = _; rw [hk0]; rfl
        have D1 : Hid (Bld B b (l ++ m ++ sepL k) wA) := by show Bld _ _ _ _; rw [HE.out, List.append_nil]; exact A1.out
        have D2 : Hid (Kp B b w wA) := A2
        have D3 : Hid (wA.heap[wr.heap.size]? = some (.cells #[v1] 23 (0, 0))) := A3
        have hse : (sepL k).length = 0 := by rw [HE.out]; rfl
        clear A1 A2 A3
        obtain ⟨z1, z2⟩ := H0.out wA D2.out.1
        obtain ⟨z3, z4⟩ := HK.out wA D2.out.1
        have z5 : wA.cell? ⟨q1, j1, none⟩ = some x1 := by simpa [hk0] using z3
        have f0 := block_cell z1 0
        have d0 := block_cell z2 0
        have HD1 : Hid (Calls Tryz.prog 31 #[.pointer (some ⟨b, 0, none⟩), x1] wA _) := HD.out wA (l ++ m ++ sepL k) D2.out.1 D1.out (by simp; omega)
        clear z1 z2
        go_wp2_with fail
        refine HD1.out.mono ?_
        rintro e w3 ⟨rfl, h1, h2⟩
        have G1 : Hid (Bld B b (l ++ m ++ sepL k ++ t2) w3) := h1
        have G2 : Hid (Kp B b w w3) := D2.out.trans h2
        have G3 : Hid (w3.heap[wr.heap.size]? = some (.cells #[v1] 23 (0, 0))) := h2.box D3.out hbne
        clear h1 h2 HD1 f0 d0 z3 z4
        have HO1 : Hid (Calls Tryz.prog 70 #[.pointer (some ⟨b, 0, none⟩), .string ⟨#[58, 32]⟩] w3 _) := ws_any B b (l ++ m ++ sepL k ++ t2) ⟨#[58, 32]⟩ w3 G1.out (by simp [ByteArray.size]; omega)
        go_wp2_with fail
        refine HO1.out.mono ?_
        rintro e w4 ⟨⟨k2, rfl⟩, h1, h2⟩
        have I1 : Hid (Bld B b (l ++ m ++ sepL k ++ t2 ++ [58, 32]) w4) := h1
        have I2 : Hid (Kp B b w w4) := G2.out.trans h2
        have I3 : Hid (w4.heap[wr.heap.size]? = some (.cells #[v1] 23 (0, 0))) := h2.box G3.out hbne
        have y0 := block_cell I3.out 0
        have HC1 : Hid (Calls Tryz.prog 31 #[.pointer (some ⟨b, 0, none⟩), v1] w4 _) := HC.out w4 _ I2.out.1 I1.out (by simp; omega)
        clear h1 h2 HO1 HC HD
        go_wp2_with fail
        refine HC1.out.mono ?_
        rintro e w5 ⟨rfl, h1, h2⟩
        have Z1 : Hid (Bld B b (l ++ m ++ sepL k ++ t2 ++ [58, 32] ++ t1) w5) := h1
        have Z2 : Hid (Kp B b w w5) := I2.out.trans h2
        clear h1 h2 HC1
        go_wp2_with fail
        go_roundw
        case rel => exact ⟨k + 1, by omega, by go_num, HFin.out _ Z1.out, Z2⟩
        case measure => simp [intOf]; omega
      · have HE : Hid (sepL k = [44, 32]) := by show _ = _; unfold sepL; rw [if_neg (by omega)]
        have hse : (sepL k).length = 2 := by rw [HE.out]; rfl
        have HO : Hid (Calls Tryz.prog 70 #[.pointer (some ⟨b, 0, none⟩), .string ⟨#[44, 32]⟩] wA _) := ws_any B b (l ++ m) ⟨#[44, 32]⟩ wA A1.out (by simp [ByteArray.size]; omega)
        go_wp2_with fail
        refine HO.out.mono ?_
        rintro e w2 ⟨⟨k1, rfl⟩, h1, h2⟩
        have D1 : Hid (Bld B b (l ++ m ++ sepL k) w2) := by rw [HE.out]; exact h1
        have D2 : Hid (Kp B b w w2) := A2.out.trans h2
        have D3 : Hid (w2.heap[wr.heap.size]? = some (.cells #[v1] 23 (0, 0))) := h2.box A3.out hbne
        clear h1 h2 A1 A2 A3 HO
        obtain ⟨z1, z2⟩ := H0.out w2 D2.out.1
        obtain ⟨z3, z4⟩ := HK.out w2 D2.out.1
        have f0 := block_cell z1 0
        have d0 := block_cell z2 0
        have HD1 : Hid (Calls Tryz.prog 31 #[.pointer (some ⟨b, 0, none⟩), x1] w2 _) := HD.out w2 (l ++ m ++ sepL k) D2.out.1 D1.out (by simp; omega)
        clear z1 z2
        go_wp2_with fail
        refine HD1.out.mono ?_
        rintro e w3 ⟨rfl, h1, h2⟩
        have G1 : Hid (Bld B b (l ++ m ++ sepL k ++ t2) w3) := h1
        have G2 : Hid (Kp B b w w3) := D2.out.trans h2
        have G3 : Hid (w3.heap[wr.heap.size]? = some (.cells #[v1] 23 (0, 0))) := h2.box D3.out hbne
        clear h1 h2 HD1 f0 d0 z3 z4
        have HO1 : Hid (Calls Tryz.prog 70 #[.pointer (some ⟨b, 0, none⟩), .string ⟨#[58, 32]⟩] w3 _) := ws_any B b (l ++ m ++ sepL k ++ t2) ⟨#[58, 32]⟩ w3 G1.out (by simp [ByteArray.size]; omega)
        go_wp2_with fail
        refine HO1.out.mono ?_
        rintro e w4 ⟨⟨k2, rfl⟩, h1, h2⟩
        have I1 : Hid (Bld B b (l ++ m ++ sepL k ++ t2 ++ [58, 32]) w4) := h1
        have I2 : Hid (Kp B b w w4) := G2.out.trans h2
        have I3 : Hid (w4.heap[wr.heap.size]? = some (.cells #[v1] 23 (0, 0))) := h2.box G3.out hbne
        have y0 := block_cell I3.out 0
        have HC1 : Hid (Calls Tryz.prog 31 #[.pointer (some ⟨b, 0, none⟩), v1] w4 _) := HC.out w4 _ I2.out.1 I1.out (by simp; omega)
        clear h1 h2 HO1 HC HD
        go_wp2_with fail
        refine HC1.out.mono ?_
        rintro e w5 ⟨rfl, h1, h2⟩
        have Z1 : Hid (Bld B b (l ++ m ++ sepL k ++ t2 ++ [58, 32] ++ t1) w5) := h1
        have Z2 : Hid (Kp B b w w5) := I2.out.trans h2
        clear h1 h2 HC1
        go_wp2_with fail
        go_roundw
        case rel => exact ⟨k + 1, by omega, by go_num, HFin.out _ Z1.out, Z2⟩
        case measure => simp [intOf]; omega
    · have hq : k = lend := by omega
      have hz : us.drop k = [] := List.drop_of_length_le (by rw [← E1.out]; omega)
      have hz2 : ks.drop k = [] := List.drop_of_length_le (by rw [← E2.out]; omega)
      rw [hz, hz2, List.map_nil, restP_nil] at hm2
      have hle := congrArg List.length hm2
      simp only [List.length_append, List.length_cons, List.length_nil] at hle
      have HO : Hid (Calls Tryz.prog 70 #[.pointer (some ⟨b, 0, none⟩), .string ⟨#[93]⟩] wr _) := ws_any B b (l ++ m) ⟨#[93]⟩ wr HM1.out (by simp [ByteArray.size]; omega)
      have HQ : Hid (l ++ m ++ [93] = l ++ T) := by show _ = _; rw [← hm2]; simp
      clear r1 hm2 hz rd
      go_wp2_with fail
      refine HO.out.mono ?_
      rintro e w2 ⟨⟨k1, rfl⟩, h1, h2⟩
      have HZ : Hid (WrotePost B b l T w (.returned (.tuple #[])) w2) := ⟨rfl, by rw [← HQ.out]; exact h1, HG.out.trans h2⟩
      clear h1 h2 HO HQ
      go_wp2_with fail
      go_end0
      exact HZ.out
end Go.Proofs.YtbogejmmkohbkaaGreatDoor.Sx

namespace Go.Proofs.YtbogejmmkohbkaaGreatDoor.Sx
open Go.RowKit Go.Sort

attribute [local go_sem] asn_4 asp_4 as_4_4 as_2_4 as_101_4 as_102_4 as_103_4 as_107_4 asn_2 asp_2 as_4_2 as_2_2 as_101_2 as_102_2 as_103_2 as_107_2 asn_101 asp_101 as_4_101 as_2_101 as_101_101 as_102_101 as_103_101 as_107_101 asn_102 asp_102 as_4_102 as_2_102 as_101_102 as_102_102 as_103_102 as_107_102 asn_103 asp_103 as_4_103 as_2_103 as_101_103 as_102_103 as_103_103 as_107_103 asn_107 asp_107 as_4_107 as_2_107 as_101_107 as_102_107 as_103_107 as_107_107
section
variable {α : Type} {W : α → Prop} {c : α → α → Int} {wta : α → Nat}
theorem wf_int {i : Int} (h : wfN W c wta (mkInt i)) : -9223372036854775808 ≤ i ∧ i ≤ 9223372036854775807 := by
  rcases h with h | ⟨_, h⟩ | ⟨j, h, h1⟩ | ⟨_, h, _⟩ | ⟨_, h, _⟩ | ⟨_, h, _⟩ | ⟨_, _, h, _⟩ <;> simp [mkInt, mkNil, mkBool, mkText, mkAtom, mkSet, mkFn] at h
  subst h; exact h1
theorem wf_set {es : List α} (h : wfN W c wta (mkSet es)) : ∀ x ∈ es, W x := by
  rcases h with h | ⟨_, h⟩ | ⟨j, h, h1⟩ | ⟨_, h, _⟩ | ⟨_, h, _⟩ | ⟨_, h, h1, _⟩ | ⟨_, _, h, _⟩ <;> simp [mkInt, mkNil, mkBool, mkText, mkAtom, mkSet, mkFn] at h
  subst h; exact h1
theorem wf_fn {ks us : List α} (h : wfN W c wta (mkFn ks us)) : (∀ x ∈ ks, W x) ∧ ∀ x ∈ us, W x := by
  rcases h with h | ⟨_, h⟩ | ⟨j, h, h1⟩ | ⟨_, h, _⟩ | ⟨_, h, _⟩ | ⟨_, h, h1, _⟩ | ⟨_, _, h, h1, h2, _⟩ <;> simp [mkInt, mkNil, mkBool, mkText, mkAtom, mkSet, mkFn] at h
  obtain ⟨rfl, rfl⟩ := h; exact ⟨h1, h2⟩
end

def quoteT (l : List UInt8) : List UInt8 := 34 :: (l ++ [34])
def qq : ByteArray := ⟨#[34]⟩
def quoteB (s : ByteArray) : ByteArray := qq ++ s ++ qq
theorem q_cat (s : ByteArray) : (quoteB s).data.toList = quoteT s.data.toList := by
  unfold quoteT quoteB
  rw [ByteArray.data_append, ByteArray.data_append]
  simp [qq]

theorem wr_zero : WrOK 0 := fun _ _ _ _ _ _ h => h.elim

set_option maxRecDepth 100000 in
set_option maxHeartbeats 4000000 in
theorem wr_nil (B b : Nat) (l : List UInt8) (w : World) (hB : Bld B b l w) (hlen : l.length + 3 ≤ 140737488355328) :
    Calls Tryz.prog 31 #[.pointer (some ⟨b, 0, none⟩), .nilIface] w (WrotePost B b l nilT w) := by
  have HO : Hid (Calls Tryz.prog 70 #[.pointer (some ⟨b, 0, none⟩), .string ⟨#[110, 105, 108]⟩] w _) := ws_any B b l ⟨#[110, 105, 108]⟩ w hB (by simpa [ByteArray.size] using hlen)
  go_enter Tryz.func31, Tryz.ntmps31
  go_wp2_with fail
  refine HO.out.mono ?_
  rintro e w2 ⟨⟨k1, rfl⟩, h1⟩
  have HZ : Hid (WrotePost B b l nilT w (.returned (.tuple #[])) w2) := ⟨rfl, h1⟩
  clear h1 HO
  go_wp2_with fail
  go_end0
  exact HZ.out

set_option maxRecDepth 100000 in
set_option maxHeartbeats 4000000 in
theorem wr_bool (B b : Nat) (l : List UInt8) (w : World) (bo : Bool) (hB : Bld B b l w) (hlen : l.length + (Lib.formatBool bo).length ≤ 140737488355328) :
    Calls Tryz.prog 31 #[.pointer (some ⟨b, 0, none⟩), .iface 4 (.bool bo)] w (WrotePost B b l (Lib.formatBool bo) w) := by
  have HO : Hid (Calls Tryz.prog 70 #[.pointer (some ⟨b, 0, none⟩), .string ⟨(Lib.formatBool bo).toArray⟩] w _) := ws_any B b l ⟨(Lib.formatBool bo).toArray⟩ w hB (by simpa [ByteArray.size] using hlen)
  have HF : Hid (∀ w, Calls Tryz.prog 71 #[.bool bo] w fun e w' => e = .returned (.string ⟨(Lib.formatBool bo).toArray⟩) ∧ w' = w) := fun w => Tryz.strconv_FormatBool bo w
  generalize Lib.formatBool bo = t at HO HF hlen ⊢
  go_enter Tryz.func31, Tryz.ntmps31
  go_wp2_with fail
  refine (HF.out _).mono ?_
  rintro e w1 ⟨rfl, rfl⟩
  go_wp2_with fail
  refine HO.out.mono ?_
  rintro e w2 ⟨⟨k1, rfl⟩, h1⟩
  have HZ : Hid (WrotePost B b l t w1 (.returned (.tuple #[])) w2) := ⟨rfl, h1⟩
  clear h1 HO
  go_wp2_with fail
  go_end0
  exact HZ.out

set_option maxRecDepth 100000 in
set_option maxHeartbeats 4000000 in
theorem wr_int (B b : Nat) (l : List UInt8) (w : World) (i : Int) (hi : -9223372036854775808 ≤ i ∧ i ≤ 9223372036854775807) (hB : Bld B b l w) (hlen : l.length + (Lib.itoa i).length ≤ 140737488355328) :
    Calls Tryz.prog 31 #[.pointer (some ⟨b, 0, none⟩), .iface 2 (.int .i64 i)] w (WrotePost B b l (Lib.itoa i) w) := by
  have HO : Hid (∀ W : World, Grew w W → Calls Tryz.prog 70 #[.pointer (some ⟨b, 0, none⟩), .string ⟨(Lib.itoa i).toArray⟩] W _) := fun (W : World) hW => ws_any B b l ⟨(Lib.itoa i).toArray⟩ W (hB.grew hW) (by simpa [ByteArray.size] using hlen)
  have HF : Hid (Calls Tryz.prog 72 #[.int .i64 i, .int .i64 10] w _) := Tryz.strconv_FormatInt_10 i hi.1 hi.2 w hB.tab
  have HL : Hid (B ≤ w.heap.size) := hB.low
  generalize Lib.itoa i = t at HO HF hlen ⊢
  clear hi
  go_enter Tryz.func31, Tryz.ntmps31
  go_wp2_with fail
  refine HF.out.mono ?_
  rintro e w1 ⟨rfl, hg⟩
  have HG : Hid (Grew w w1) := hg
  clear hg HF
  go_wp2_with fail
  refine (HO.out w1 HG.out).mono ?_
  rintro e w2 ⟨⟨k1, rfl⟩, h1, h2⟩
  have HZ : Hid (WrotePost B b l t w (.returned (.tuple #[])) w2) := ⟨rfl, h1, (Kp.grew HG.out HL.out).trans h2⟩
  clear h1 h2 HO
  go_wp2_with fail
  go_end0
  exact HZ.out

set_option maxRecDepth 100000 in
set_option maxHeartbeats 4000000 in
theorem wr_atom (B b : Nat) (l : List UInt8) (w : World) (s : ByteArray) (hB : Bld B b l w) (hlen : l.length + s.data.toList.length ≤ 140737488355328) :
    Calls Tryz.prog 31 #[.pointer (some ⟨b, 0, none⟩), .iface 120 (.string s)] w (WrotePost B b l s.data.toList w) := by
  have HO : Hid (Calls Tryz.prog 70 #[.pointer (some ⟨b, 0, none⟩), .string s] w _) := ws_any B b l s w hB (by simpa using hlen)
  generalize s.data.toList = t at HO hlen ⊢
  go_enter Tryz.func31, Tryz.ntmps31
  go_wp2_with fail
  refine HO.out.mono ?_
  rintro e w2 ⟨⟨k1, rfl⟩, h1⟩
  have HZ : Hid (WrotePost B b l t w (.returned (.tuple #[])) w2) := ⟨rfl, h1⟩
  clear h1 HO
  go_wp2_with fail
  go_end0
  exact HZ.out

set_option maxRecDepth 100000 in
set_option maxHeartbeats 4000000 in
theorem wr_text (B b : Nat) (l : List UInt8) (w : World) (s : ByteArray) (hB : Bld B b l w) (hlen : l.length + (quoteT s.data.toList).length ≤ 140737488355328) :
    Calls Tryz.prog 31 #[.pointer (some ⟨b, 0, none⟩), .iface 119 (.string s)] w (WrotePost B b l (quoteT s.data.toList) w) := by
  have c1 : s.size ≤ 140737488355328 := by simp [quoteT] at hlen; omega
  have HE : Hid ((quoteB s).data.toList = quoteT s.data.toList) := q_cat s
  have HO : Hid (Calls Tryz.prog 70 #[.pointer (some ⟨b, 0, none⟩), .string (quoteB s)] w _) := ws_any B b l (quoteB s) w hB (by have e := congrArg List.length (q_cat s); rw [← e] at hlen; simpa using hlen)
  go_enter Tryz.func31, Tryz.ntmps31
  go_wp2_with fail
  refine HO.out.mono ?_
  rintro e w2 ⟨⟨k1, rfl⟩, h1⟩
  have HZ : Hid (WrotePost B b l (quoteT s.data.toList) w (.returned (.tuple #[])) w2) := ⟨rfl, by rw [← HE.out]; exact h1⟩
  clear h1 HO
  go_wp2_with fail
  go_end0
  exact HZ.out

set_option maxRecDepth 100000 in
set_option maxHeartbeats 4000000 in
theorem wr_set (n : Nat) (hW : WrOK n) (B b : Nat) (l : List UInt8) (w : World) (es : List (AV n)) (fb : Nat) (hs : SetP (· < B) w (RepP (· < B) w n) (wt n) fb es) (hwf : ∀ x ∈ es, WF n x) (hB : Bld B b l w) (hlen : l.length + (123 :: jL [125] (es.map (sh n))).length ≤ 140737488355328) :
    Calls Tryz.prog 31 #[.pointer (some ⟨b, 0, none⟩), .iface 121 (.pointer (some ⟨fb, 0, none⟩))] w (WrotePost B b l (123 :: jL [125] (es.map (sh n))) w) := by
  obtain ⟨hP, a, len, cap, h0, hr⟩ := hs
  have HO : Hid (Calls Tryz.prog 73 #[.pointer (some ⟨b, 0, none⟩), .string ⟨#[123]⟩, .slice a len cap, .string ⟨#[125]⟩] w (WrotePost B b l (123 :: jL [125] (es.map (sh n))) w)) := writeList_any n hW B b l w ⟨#[123]⟩ ⟨#[125]⟩ a len cap es hr hwf hB (by simpa using hlen)
  have f0 := block_cell h0 0
  generalize (123 :: jL [125] (es.map (sh n))) = T at HO hlen ⊢
  clear hr hwf
  go_enter Tryz.func31, Tryz.ntmps31
  go_wp2_with fail
  refine HO.out.mono ?_
  rintro e w2 ⟨rfl, h1⟩
  have HZ : Hid (WrotePost B b l T w (.returned (.tuple #[])) w2) := ⟨rfl, h1⟩
  clear h1 HO
  go_wp2_with fail
  go_end0
  exact HZ.out

set_option maxRecDepth 100000 in
set_option maxHeartbeats 4000000 in
theorem wr_fun (B b : Nat) (l T : List UInt8) (w : World) (fb : Nat) (hC : Calls Tryz.prog 74 #[.pointer (some ⟨b, 0, none⟩), .pointer (some ⟨fb, 0, none⟩)] w (WrotePost B b l T w)) :
    Calls Tryz.prog 31 #[.pointer (some ⟨b, 0, none⟩), .iface 125 (.pointer (some ⟨fb, 0, none⟩))] w (WrotePost B b l T w) := by
  have HO : Hid (Calls Tryz.prog 74 #[.pointer (some ⟨b, 0, none⟩), .pointer (some ⟨fb, 0, none⟩)] w (WrotePost B b l T w)) := hC
  clear hC
  go_enter Tryz.func31, Tryz.ntmps31
  go_wp2_with fail
  refine HO.out.mono ?_
  rintro e w2 ⟨rfl, h1⟩
  have HZ : Hid (WrotePost B b l T w (.returned (.tuple #[])) w2) := ⟨rfl, h1⟩
  clear h1 HO
  go_wp2_with fail
  go_end0
  exact HZ.out

theorem wr_succ (n : Nat) (hW : WrOK n) : WrOK (n + 1) := by
  intro B b l w a v h hwf hB hlen
  change l.length + (shN (sh n) (numOf n) a).length ≤ _ at hlen
  change Calls Tryz.prog 31 #[.pointer (some ⟨b, 0, none⟩), v] w (WrotePost B b l (shN (sh n) (numOf n) a) w)
  rcases h with ⟨rfl, rfl⟩ | ⟨bo, rfl, rfl⟩ | ⟨i, rfl, rfl⟩ | ⟨s, rfl, rfl⟩ | ⟨s, rfl, rfl⟩ | ⟨es, fb, rfl, rfl, hs⟩ | ⟨ks, us, fb, d, rfl, rfl, hf⟩
  · exact wr_nil B b l w hB hlen
  · have e : shN (sh n) (numOf n) (mkBool bo) = Lib.formatBool bo := by rw [sh_bool]; cases bo <;> rfl
    rw [e] at hlen ⊢
    exact wr_bool B b l w bo hB hlen
  · exact wr_int B b l w i (wf_int hwf) hB hlen
  · exact wr_text B b l w s hB hlen
  · exact wr_atom B b l w s hB hlen
  · exact wr_set n hW B b l w es fb hs (wf_set hwf) hB hlen
  · obtain ⟨h1, h2⟩ := wf_fn hwf
    cases hq : counts (numOf n) ks with
    | true =>
      rw [sh_seq _ _ ks us hq] at hlen ⊢
      exact wr_fun B b l _ w fb (writeFn_seq n hW B b l w fb d ks us hf hq h2 hB hlen)
    | false =>
      rw [sh_fn _ _ ks us (by simp [hq])] at hlen ⊢
      exact wr_fun B b l _ w fb (writeFn_fn n hW B b l w fb d ks us hf hq h1 h2 hB hlen)

theorem wrOK : ∀ n, WrOK n
  | 0 => wr_zero
  | n + 1 => wr_succ n (wrOK n)
end Go.Proofs.YtbogejmmkohbkaaGreatDoor.Sx

namespace Go.Proofs.YtbogejmmkohbkaaGreatDoor.Sx
open Go.RowKit Go.Sort

theorem RepP.low {P : Nat → Prop} {w : World} {n : Nat} {a : AV n} {v : Value} (h : RepP P w n a v) : RepP (· < w.heap.size) w n a v := h.fr (Fr.refl P w) (fun _ hk _ => hk) n a v

set_option maxRecDepth 100000 in
set_option maxHeartbeats 4000000 in
theorem show_any {P : Nat → Prop} (w : World) (n : Nat) (a : AV n) (v : Value) (h : RepP P w n a v) (hwf : WF n a) (htab : Lib.TabIs Tryz.prog w "internal/strconv.uint64pow10" .u64 Lib.pow10Tab) (hg : 2 < w.heap.size) (hlen : (sh n a).length ≤ 140737488355328) :
    Calls Tryz.prog 12 #[.agg #[v]] w fun e w' => e = .returned (.string ⟨(sh n a).toArray⟩) ∧ Below w.heap.size w w' := by
  have st := store_one (h.rep _ _ _).one
  have HW : Hid (∀ (W : World) (b : Nat), Below w.heap.size w W → Bld w.heap.size b [] W → _) := fun (W : World) (b : Nat) hW hB => wrOK n w.heap.size b [] W a v (h.low.keep (frB hW)) hwf hB (by simpa using hlen)
  have HT : Hid (Lib.TabIs Tryz.prog w "internal/strconv.uint64pow10" .u64 Lib.pow10Tab) := htab
  clear hwf h htab
  generalize sh n a = t at HW hlen ⊢
  go_enter Tryz.func12, Tryz.ntmps12
  go_wp2_with fail
  have G : Grew w ((w.alloc (.cells #[v] 23)).alloc (.cells #[.pointer none, .slice none 0 0] 76)) := ((Grew.refl w).alloc _).alloc _
  have hn : ((w.alloc (.cells #[v] 23)).alloc (.cells #[.pointer none, .slice none 0 0] 76)).heap[w.heap.size + 1]? = some (.cells #[.pointer none, .slice none 0 0] 76 (0, 0)) := heap_new (by simp)
  have B0 : Bld w.heap.size (w.heap.size + 1) [] ((w.alloc (.cells #[v] 23)).alloc (.cells #[.pointer none, .slice none 0 0] 76)) :=
    ⟨.inl ⟨by omega, .slice none 0 0, hn, ⟨rfl, .inl ⟨rfl, rfl⟩⟩, by simp [Value.ownBlock]⟩, G.below.size, tab_below G.below hg HT.out, hg⟩
  generalize (w.alloc (.cells #[v] 23)).alloc (.cells #[.pointer none, .slice none 0 0] 76) = wA at G B0 ⊢
  refine (HW.out wA _ G.below B0).mono ?_
  rintro e w1 ⟨rfl, h1, h2⟩
  have HS : Hid (Calls Tryz.prog 32 #[.pointer (some ⟨w.heap.size + 1, 0, none⟩)] w1 _) := Tryz.Builder_String_any w.heap.size (w.heap.size + 1) t w1 h1.is h1.low
  have HB : Hid (Below w.heap.size w w1) := G.below.trans h2.1
  clear h1 h2 HW HT B0 G
  go_wp2_with fail
  refine HS.out.mono ?_
  rintro e w2 ⟨rfl, h1⟩
  have HZ : Hid (Below w.heap.size w w2) := HB.out.trans h1
  clear h1 HS HB
  go_wp2_with fail
  go_ret
  exact ⟨rfl, HZ.out⟩
end Go.Proofs.YtbogejmmkohbkaaGreatDoor.Sx
