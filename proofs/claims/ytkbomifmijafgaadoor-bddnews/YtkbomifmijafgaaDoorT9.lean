/- One function or another, as a third says. -/
import Derived.Test.YtkbomifmijafgaaDoorT8
namespace Go.Proofs.YtkbomifmijafgaaDoor.Sx
open Go.RowKit Go.Sort Go.Maps Go.WideMaps

/-- where it is plain what comes of it -/
def iteT (f g h : Nat) : Option Nat := if f = 1 then some g else if f = 0 then some h else if g = h then some g else if g = 1 ∧ h = 0 then some f else none

set_option maxRecDepth 100000 in
set_option maxHeartbeats 1000000 in
theorem ite_triv (w : World) (p : Value) (f g h x : Nat) (hx : iteT f g h = some x) :
    Calls Tryd.prog 30 #[p, .int .i64 (f : Int), .int .i64 (g : Int), .int .i64 (h : Int)] w fun e w' => e = .returned (.int .i64 (x : Int)) ∧ w' = w := by
  have mo := follows
  unfold iteT at hx
  by_cases h1 : f = 1
  · subst h1
    obtain rfl : g = x := by simpa using hx
    go_enter Tryd.func30, Tryd.ntmps30
    go_wp2_with fail
    go_ret
    exact ⟨rfl, rfl⟩
  have n1 : ((f : Int) == 1) = false := by simp; omega
  by_cases h2 : f = 0
  · subst h2
    obtain rfl : h = x := by simpa using hx
    go_enter Tryd.func30, Tryd.ntmps30
    go_wp2_with fail
    go_ret
    exact ⟨rfl, rfl⟩
  have n2 : ((f : Int) == 0) = false := by simp; omega
  by_cases h3 : g = h
  · subst h3
    obtain rfl : g = x := by simpa [h1, h2] using hx
    go_enter Tryd.func30, Tryd.ntmps30
    go_wp2_with fail
    go_ret
    exact ⟨rfl, rfl⟩
  have n3 : ((g : Int) == (h : Int)) = false := by simp; omega
  by_cases h4 : g = 1 ∧ h = 0
  · obtain ⟨rfl, rfl⟩ := h4
    obtain rfl : f = x := by simpa [h1, h2] using hx
    go_enter Tryd.func30, Tryd.ntmps30
    go_wp2_with fail
    go_ret
    exact ⟨rfl, rfl⟩
  · simp [h1, h2, h3, h4] at hx

def mix3 (x0 x1 x2 y0 y1 y2 : Nat) : Nat → Array Value
  | 0 => #[.int .i64 (x0 : Int), .int .i64 (x1 : Int), .int .i64 (x2 : Int)]
  | 1 => #[.int .i64 (y0 : Int), .int .i64 (x1 : Int), .int .i64 (x2 : Int)]
  | 2 => #[.int .i64 (y0 : Int), .int .i64 (y1 : Int), .int .i64 (x2 : Int)]
  | _ => #[.int .i64 (y0 : Int), .int .i64 (y1 : Int), .int .i64 (y2 : Int)]

/-- a block of another type is none of a table's -/
theorem TabG.other {T : TL} {w : World} {g cap : Nat} {fresh : Value} {R : List Rw} {M Fo : List (Value × Value)} {fr : List Nat} (h : TabG T w g cap fresh R M Fo fr) {k : Nat} {vs : Array Value} {z : Nat × Nat} (hk : w.heap[k]? = some (.cells vs 62 z)) (hlb : k ≠ T.lb) (p : Nat) (u : Value) : TabG T (w.setCell ⟨k, p, none⟩ u) g cap fresh R M Fo fr := by
  refine h.of ((Fr.refl (· ≠ k) w).set (by simp) u) ?_ (Ne.symm hlb) ?_ ?_ ?_ ?_
  · rintro rfl
    have := h.blk
    unfold TBlk at this
    rw [hk] at this; cases this
  · rintro rfl
    obtain ⟨es, c, q, _⟩ := h.made
    rw [hk] at q; cases q
  · rintro rfl
    obtain ⟨es, c, q, _⟩ := h.found
    rw [hk] at q; cases q
  · rintro rfl
    obtain ⟨cur, q⟩ := h.rows.ty
    rw [hk] at q; cases q
  · rintro k2 e rfl
    rcases h.frs.2 with ⟨e2, _⟩ | ⟨gg, cc, cur, e2, _, e3, _⟩
    · rw [e2] at e; simp [Value.ownBlock] at e
    · rw [e2] at e
      obtain rfl : gg = k2 := by simpa [Value.ownBlock] using e
      rw [hk] at e3; cases e3

set_option maxRecDepth 100000 in
set_option maxHeartbeats 8000000 in
theorem ite_main (T : TL) (w : World) (R : List Rw) (M : List (Value × Value)) (h : Tab T w R M [] []) (f0 f1 f2 a0 a1 a2 t : Nat) (r0 r1 r2 : Rw) (hr0 : R[f0]? = some r0) (hr1 : R[f1]? = some r1) (hr2 : R[f2]? = some r2) (e0 : r0.about = (a0 : Int)) (e1 : r1.about = (a1 : Int)) (e2 : r2.about = (a2 : Int)) (l0 : a0 ≤ T.n) (l1 : a1 ≤ T.n) (l2 : a2 ≤ T.n)
    (hn : iteT f0 f1 f2 = none) (h5 : f1 ≠ 1) (ht : min (min a0 a1) a2 = t) (b0 b1 b2 : Bool) (q0 : (a0 == t) = b0) (q1 : (a1 == t) = b1) (q2 : (a2 == t) = b2) (lo hh : Nat)
    (hlo : iteT (if b0 then r0.low else f0) (if b1 then r1.low else f1) (if b2 then r2.low else f2) = some lo) (hhi : iteT (if b0 then r0.high else f0) (if b1 then r1.high else f1) (if b2 then r2.high else f2) = some hh)
    (hf0 : f0 ≤ 1000) (hf1 : f1 ≤ 1000) (hf2 : f2 ≤ 1000) (R' : List Rw) (M' : List (Value × Value)) (fr' : List Nat) (x : Nat)
    (HN : ∀ W : World, Tab T W R M [] [] → Calls Tryd.prog 17 #[.pointer (some ⟨T.b, 0, none⟩), .int .i64 (t : Int), .int .i64 (lo : Int), .int .i64 (hh : Int)] W fun e w' => e = .returned (.int .i64 (x : Int)) ∧ Tab T w' R' M' [] fr' ∧ Fr (· < T.lo) W w' ∧ Kept W w') :
    Calls Tryd.prog 30 #[.pointer (some ⟨T.b, 0, none⟩), .int .i64 (f0 : Int), .int .i64 (f1 : Int), .int .i64 (f2 : Int)] w fun e w' => e = .returned (.int .i64 (x : Int)) ∧ (∃ Fo, Fo.length ≤ 1000 ∧ Tab T w' R' M' Fo fr') ∧ Fr (· < T.lo) w w' := by
  obtain ⟨u0, hu0⟩ : ∃ u, (if b0 then r0.low else f0) = u := ⟨_, rfl⟩
  obtain ⟨u1, hu1⟩ : ∃ u, (if b1 then r1.low else f1) = u := ⟨_, rfl⟩
  obtain ⟨u2, hu2⟩ : ∃ u, (if b2 then r2.low else f2) = u := ⟨_, rfl⟩
  obtain ⟨v0, hv0⟩ : ∃ u, (if b0 then r0.high else f0) = u := ⟨_, rfl⟩
  obtain ⟨v1, hv1⟩ : ∃ u, (if b1 then r1.high else f1) = u := ⟨_, rfl⟩
  obtain ⟨v2, hv2⟩ : ∃ u, (if b2 then r2.high else f2) = u := ⟨_, rfl⟩
  rw [hu0, hu1, hu2] at hlo
  rw [hv0, hv1, hv2] at hhi
  have mo := follows
  unfold iteT at hn
  by_cases h1 : f0 = 1
  · simp [h1] at hn
  by_cases h2 : f0 = 0
  · simp [h2] at hn
  by_cases h3 : f1 = f2
  · simp [h1, h2, h3] at hn
  by_cases h4 : f1 = 1 ∧ f2 = 0
  · simp [h1, h2, h4] at hn
  clear hn
  have n1 : ((f0 : Int) == 1) = false := by simp; omega
  have n2 : ((f0 : Int) == 0) = false := by simp; omega
  have n3 : ((f1 : Int) == (f2 : Int)) = false := by simp; omega
  have HX : Hid (Tab T w R M [] []) := h
  have HNN : Hid (∀ W : World, _ → _) := HN
  clear HN h
  have n4 : ((f1 : Int) == 1) = false := by simp; omega
  obtain ⟨g, cap, fresh, hG⟩ := HX.out
  have hk := key62 (a := (f0 : Int)) (b := (f1 : Int)) (c := (f2 : Int)) ⟨by omega, by omega⟩ ⟨by omega, by omega⟩ ⟨by omega, by omega⟩
  have HG : Hid (TabG T (w.alloc (.cells #[.int .i64 (f0 : Int), .int .i64 (f1 : Int), .int .i64 (f2 : Int)] 62)) g cap fresh R M [] []) := hG.grew ((Fr.refl _ w).alloc _)
  have HF : Hid (Fr (fun _ => True) w (w.alloc (.cells #[.int .i64 (f0 : Int), .int .i64 (f1 : Int), .int .i64 (f2 : Int)] 62))) := (Fr.refl _ w).alloc _
  have HB : Hid ((w.alloc (.cells #[.int .i64 (f0 : Int), .int .i64 (f1 : Int), .int .i64 (f2 : Int)] 62)).heap[w.heap.size]? = some (.cells #[.int .i64 (f0 : Int), .int .i64 (f1 : Int), .int .i64 (f2 : Int)] 62 (0, 0))) := heap_new rfl
  have HLB : T.lb < w.heap.size := Nat.lt_of_lt_of_le hG.ok.lb hG.ok.hi
  clear hG HX
  go_enter Tryd.func30, Tryd.ntmps30
  go_wp2_with fail
  generalize (w.alloc (.cells #[.int .i64 (f0 : Int), .int .i64 (f1 : Int), .int .i64 (f2 : Int)] 62)) = W at HG HF HB ⊢
  obtain ⟨ba, hba⟩ : ∃ ba, w.heap.size = ba := ⟨_, rfl⟩
  rw [hba] at HB HLB ⊢
  have HGd : Hid (TabG T W.drew g cap fresh R M [] []) := HG.out.grew (Fr.refl _ W).drew
  have HBd : Hid (W.drew.heap[ba]? = _) := HB.out
  have HFd : Hid (Fr (fun _ => True) w W.drew) := HF.out.drew
  have m1 := HG.out.found.miss law62 Tryd.underlying51 (zero29 W) hk (by simp)
  have m1d := HGd.out.found.miss law62 Tryd.underlying51 (zero29 W.drew) hk (by simp)
  have b5 := block_cell HG.out.blk 5
  have b5d := block_cell HGd.out.blk 5
  have c0 := block_cell HB.out 0
  have c1 := block_cell HB.out 1
  have c2 := block_cell HB.out 2
  have c0d := block_cell HBd.out 0
  have c1d := block_cell HBd.out 1
  have c2d := block_cell HBd.out 2
  go_big_region_o
  clear c0 c1 c2 c0d c1d c2d b5 b5d m1 m1d HG HF HB
  generalize W.drew = W1 at HGd HBd HFd ⊢
  have c0 := block_cell HBd.out 0
  have c1 := block_cell HBd.out 1
  have c2 := block_cell HBd.out 2
  have HT : Hid (Calls _ _ _ _ _) := top_any T W1 R M [] [] ⟨_, _, _, HGd.out⟩ f0 f1 f2 a0 a1 a2 r0 r1 r2 hr0 hr1 hr2 e0 e1 e2 l0 l1 l2
  rw [ht] at HT
  go_wp2_with fail
  refine HT.out.mono ?_
  rintro e W2 ⟨rfl, hf2⟩
  have X2 : Hid (TabG T W2 g cap fresh R M [] []) := HGd.out.grew hf2
  have F2 : Hid (Fr (fun _ => True) w W2) := HFd.out.trans hf2
  have B2 : Hid (W2.heap[ba]? = some (.cells #[.int .i64 (f0 : Int), .int .i64 (f1 : Int), .int .i64 (f2 : Int)] 62 (0, 0))) := (hf2.block ba (block_lt HBd.out) trivial).trans HBd.out
  clear hf2 HT c0 c1 c2 HGd HFd HBd
  have c0 := block_cell B2.out 0
  have c1 := block_cell B2.out 1
  have c2 := block_cell B2.out 2
  go_wp2_with fail
  have B2d : W2.drew.heap[ba]? = _ := B2.out
  have c0d := block_cell B2d 0
  have c1d := block_cell B2d 1
  have c2d := block_cell B2d 2
  have hbl : ba < W2.heap.size := block_lt B2.out
  have hb1 : ba ≠ W2.heap.size := by omega
  have hb2 : ba ≠ W2.heap.size + 1 := by omega
  clear B2d
  go_big_region_o
  · skip
    have X3 : Hid (TabG T ((W2.alloc (.cells #[.int .i64 (f0 : Int), .int .i64 (f1 : Int), .int .i64 (f2 : Int)] 62)).alloc (.cells #[.int .i64 (f0 : Int), .int .i64 (f1 : Int), .int .i64 (f2 : Int)] 62)).drew g cap fresh R M [] []) := X2.out.grew (((Fr.refl _ W2).alloc _).alloc _).drew
    have F3 : Hid (Fr (fun _ => True) w ((W2.alloc (.cells #[.int .i64 (f0 : Int), .int .i64 (f1 : Int), .int .i64 (f2 : Int)] 62)).alloc (.cells #[.int .i64 (f0 : Int), .int .i64 (f1 : Int), .int .i64 (f2 : Int)] 62)).drew) := F2.out.trans (((Fr.refl _ W2).alloc _).alloc _).drew
    have B3 : Hid (((W2.alloc (.cells #[.int .i64 (f0 : Int), .int .i64 (f1 : Int), .int .i64 (f2 : Int)] 62)).alloc (.cells #[.int .i64 (f0 : Int), .int .i64 (f1 : Int), .int .i64 (f2 : Int)] 62)).drew.heap[ba]? = some (.cells #[.int .i64 (f0 : Int), .int .i64 (f1 : Int), .int .i64 (f2 : Int)] 62 (0, 0))) := ((((Fr.refl (fun _ => True) W2).alloc (.cells #[.int .i64 (f0 : Int), .int .i64 (f1 : Int), .int .i64 (f2 : Int)] 62)).alloc (.cells #[.int .i64 (f0 : Int), .int .i64 (f1 : Int), .int .i64 (f2 : Int)] 62)).drew.block ba hbl trivial).trans B2.out
    have S1 : Hid (((W2.alloc (.cells #[.int .i64 (f0 : Int), .int .i64 (f1 : Int), .int .i64 (f2 : Int)] 62)).alloc (.cells #[.int .i64 (f0 : Int), .int .i64 (f1 : Int), .int .i64 (f2 : Int)] 62)).drew.heap[W2.heap.size]? = some (.cells #[.int .i64 (f0 : Int), .int .i64 (f1 : Int), .int .i64 (f2 : Int)] 62 (0, 0))) := (((Fr.refl (fun _ => True) (W2.alloc (.cells #[.int .i64 (f0 : Int), .int .i64 (f1 : Int), .int .i64 (f2 : Int)] 62))).alloc (.cells #[.int .i64 (f0 : Int), .int .i64 (f1 : Int), .int .i64 (f2 : Int)] 62)).drew.block W2.heap.size (by simp) trivial).trans (heap_new rfl)
    have S2 : Hid (((W2.alloc (.cells #[.int .i64 (f0 : Int), .int .i64 (f1 : Int), .int .i64 (f2 : Int)] 62)).alloc (.cells #[.int .i64 (f0 : Int), .int .i64 (f1 : Int), .int .i64 (f2 : Int)] 62)).drew.heap[W2.heap.size + 1]? = some (.cells #[.int .i64 (f0 : Int), .int .i64 (f1 : Int), .int .i64 (f2 : Int)] 62 (0, 0))) := heap_new (W := W2.alloc (.cells #[.int .i64 (f0 : Int), .int .i64 (f1 : Int), .int .i64 (f2 : Int)] 62)) (by simp)
    clear c0 c1 c2 c0d c1d c2d X2 F2 B2
    generalize ((W2.alloc (.cells #[.int .i64 (f0 : Int), .int .i64 (f1 : Int), .int .i64 (f2 : Int)] 62)).alloc (.cells #[.int .i64 (f0 : Int), .int .i64 (f1 : Int), .int .i64 (f2 : Int)] 62)).drew = W3 at X3 F3 B3 S1 S2 ⊢
    obtain ⟨sb, hsb⟩ : ∃ sb, W2.heap.size + 1 = sb := ⟨_, rfl⟩
    rw [hsb] at S2 hb2 ⊢
    obtain ⟨sa, hsa⟩ : ∃ sa, W2.heap.size = sa := ⟨_, rfl⟩
    rw [hsa] at S1 hb1 hbl hsb ⊢
    have hab : sa ≠ sb := by omega
    clear hsa
    have c0 := block_cell B3.out 0
    have c1 := block_cell B3.out 1
    have c2 := block_cell B3.out 2
    go_wp2_with fail
    have hlL : sa ≠ T.lb := by have := HLB; omega
    have hlH : sb ≠ T.lb := by have := HLB; omega
    clear c0 c1 c2
    go_loopg [60] (3) (fun k s60 wr => ∃ j : Nat, s60 = .int .i64 (j : Int) ∧ j + k = 3 ∧ Hid (TabG T wr g cap fresh R M [] []) ∧ Hid (Fr (fun _ => True) w wr) ∧ Hid (wr.heap[ba]? = some (.cells #[.int .i64 (f0 : Int), .int .i64 (f1 : Int), .int .i64 (f2 : Int)] 62 (0, 0))) ∧ Hid (wr.heap[sa]? = some (.cells (mix3 f0 f1 f2 u0 u1 u2 j) 62 (0, 0))) ∧ Hid (wr.heap[sb]? = some (.cells (mix3 f0 f1 f2 v0 v1 v2 j) 62 (0, 0))))
    case atStart => exact ⟨0, rfl, rfl, X3, F3, B3, S1, S2⟩
    case round =>
      clear X3 F3 B3 S1 S2
      obtain ⟨j, rfl, hjk, X, F, B, L, H⟩ := hrel
      rcases (by omega : j = 0 ∨ j = 1 ∨ j = 2 ∨ j = 3) with rfl | rfl | rfl | rfl
      · obtain ⟨k, rfl⟩ : ∃ k, gk = k + 1 := ⟨gk - 1, by omega⟩
        have qi : (Instr.index 62 (.agg #[.int .i64 (f0 : Int), .int .i64 (f1 : Int), .int .i64 (f2 : Int)]) (.int .i64 0)).run Tryd.prog wr = .ok (.int .i64 (f0 : Int)) wr := idx62_0 (.int .i64 (f0 : Int)) (.int .i64 (f1 : Int)) (.int .i64 (f2 : Int)) wr
        have HP : Hid (Calls _ _ _ _ _) := parts_own T wr R M [] [] ⟨_, _, _, X.out⟩ f0 r0 hr0 (t : Int) b0 (by rw [e0, ← q0]; rw [Bool.eq_iff_iff]; simp only [beq_iff_eq]; omega)
        rw [hu0, hv0] at HP
        go_wp2_with (go_at_call 40; refine HP.out.mono ?_; rintro e W4 ⟨rfl, hf4⟩; have X4 : Hid (TabG T W4 g cap fresh R M [] []) := X.out.grew hf4; have F4 : Hid (Fr (fun _ => True) w W4) := F.out.trans hf4; have B4 : Hid (W4.heap[ba]? = _) := (hf4.block ba (block_lt B.out) trivial).trans B.out; have L4 : Hid (W4.heap[sa]? = _) := (hf4.block sa (block_lt L.out) trivial).trans L.out; have H4 : Hid (W4.heap[sb]? = _) := (hf4.block sb (block_lt H.out) trivial).trans H.out; have y0 := block_cell L4.out 0; have y1 := frozen_block L4.out 0; have y2 := block_cell H4.out 0; have y3 := frozen_block H4.out 0; clear hf4 HP X F B L H qi)
        have fL : Fr (· ≠ sa) W4 (W4.setCell ⟨sa, 0, none⟩ (.int .i64 (u0 : Int))) := (Fr.refl _ W4).set (by simp) _
        have fH : Fr (· ≠ sb) (W4.setCell ⟨sa, 0, none⟩ (.int .i64 (u0 : Int))) ((W4.setCell ⟨sa, 0, none⟩ (.int .i64 (u0 : Int))).setCell ⟨sb, 0, none⟩ (.int .i64 (v0 : Int))) := (Fr.refl _ _).set (by simp) _
        have X5 : Hid (TabG T ((W4.setCell ⟨sa, 0, none⟩ (.int .i64 (u0 : Int))).setCell ⟨sb, 0, none⟩ (.int .i64 (v0 : Int))) g cap fresh R M [] []) := (X4.out.other L4.out hlL _ _).other ((fL.block sb (block_lt H4.out) (by omega)).trans H4.out) hlH _ _
        have F5 : Hid (Fr (fun _ => True) w ((W4.setCell ⟨sa, 0, none⟩ (.int .i64 (u0 : Int))).setCell ⟨sb, 0, none⟩ (.int .i64 (v0 : Int)))) := (F4.out.setB (by simp; omega) _).setB (by simp; omega) _
        have B5 : Hid (((W4.setCell ⟨sa, 0, none⟩ (.int .i64 (u0 : Int))).setCell ⟨sb, 0, none⟩ (.int .i64 (v0 : Int))).heap[ba]? = _) := (fH.block ba (by simp; exact block_lt B4.out) (by omega)).trans ((fL.block ba (block_lt B4.out) (by omega)).trans B4.out)
        have L5 : Hid (((W4.setCell ⟨sa, 0, none⟩ (.int .i64 (u0 : Int))).setCell ⟨sb, 0, none⟩ (.int .i64 (v0 : Int))).heap[sa]? = some (.cells (mix3 f0 f1 f2 u0 u1 u2 (0 + 1)) 62 (0, 0))) := (fH.block sa (by simp; exact block_lt L4.out) (by omega)).trans (set_block L4.out 0 _)
        have H5 : Hid (((W4.setCell ⟨sa, 0, none⟩ (.int .i64 (u0 : Int))).setCell ⟨sb, 0, none⟩ (.int .i64 (v0 : Int))).heap[sb]? = some (.cells (mix3 f0 f1 f2 v0 v1 v2 (0 + 1)) 62 (0, 0))) := set_block ((fL.block sb (block_lt H4.out) (by omega)).trans H4.out) 0 _
        go_roundg k
        case measure => omega
        case rel => exact ⟨0 + 1, by simp, by omega, X5, F5, B5, L5, H5⟩
      · obtain ⟨k, rfl⟩ : ∃ k, gk = k + 1 := ⟨gk - 1, by omega⟩
        have qi : (Instr.index 62 (.agg #[.int .i64 (f0 : Int), .int .i64 (f1 : Int), .int .i64 (f2 : Int)]) (.int .i64 1)).run Tryd.prog wr = .ok (.int .i64 (f1 : Int)) wr := idx62_1 (.int .i64 (f0 : Int)) (.int .i64 (f1 : Int)) (.int .i64 (f2 : Int)) wr
        have HP : Hid (Calls _ _ _ _ _) := parts_own T wr R M [] [] ⟨_, _, _, X.out⟩ f1 r1 hr1 (t : Int) b1 (by rw [e1, ← q1]; rw [Bool.eq_iff_iff]; simp only [beq_iff_eq]; omega)
        rw [hu1, hv1] at HP
        go_wp2_with (go_at_call 40; refine HP.out.mono ?_; rintro e W4 ⟨rfl, hf4⟩; have X4 : Hid (TabG T W4 g cap fresh R M [] []) := X.out.grew hf4; have F4 : Hid (Fr (fun _ => True) w W4) := F.out.trans hf4; have B4 : Hid (W4.heap[ba]? = _) := (hf4.block ba (block_lt B.out) trivial).trans B.out; have L4 : Hid (W4.heap[sa]? = _) := (hf4.block sa (block_lt L.out) trivial).trans L.out; have H4 : Hid (W4.heap[sb]? = _) := (hf4.block sb (block_lt H.out) trivial).trans H.out; have y0 := block_cell L4.out 1; have y1 := frozen_block L4.out 1; have y2 := block_cell H4.out 1; have y3 := frozen_block H4.out 1; clear hf4 HP X F B L H qi)
        have fL : Fr (· ≠ sa) W4 (W4.setCell ⟨sa, 1, none⟩ (.int .i64 (u1 : Int))) := (Fr.refl _ W4).set (by simp) _
        have fH : Fr (· ≠ sb) (W4.setCell ⟨sa, 1, none⟩ (.int .i64 (u1 : Int))) ((W4.setCell ⟨sa, 1, none⟩ (.int .i64 (u1 : Int))).setCell ⟨sb, 1, none⟩ (.int .i64 (v1 : Int))) := (Fr.refl _ _).set (by simp) _
        have X5 : Hid (TabG T ((W4.setCell ⟨sa, 1, none⟩ (.int .i64 (u1 : Int))).setCell ⟨sb, 1, none⟩ (.int .i64 (v1 : Int))) g cap fresh R M [] []) := (X4.out.other L4.out hlL _ _).other ((fL.block sb (block_lt H4.out) (by omega)).trans H4.out) hlH _ _
        have F5 : Hid (Fr (fun _ => True) w ((W4.setCell ⟨sa, 1, none⟩ (.int .i64 (u1 : Int))).setCell ⟨sb, 1, none⟩ (.int .i64 (v1 : Int)))) := (F4.out.setB (by simp; omega) _).setB (by simp; omega) _
        have B5 : Hid (((W4.setCell ⟨sa, 1, none⟩ (.int .i64 (u1 : Int))).setCell ⟨sb, 1, none⟩ (.int .i64 (v1 : Int))).heap[ba]? = _) := (fH.block ba (by simp; exact block_lt B4.out) (by omega)).trans ((fL.block ba (block_lt B4.out) (by omega)).trans B4.out)
        have L5 : Hid (((W4.setCell ⟨sa, 1, none⟩ (.int .i64 (u1 : Int))).setCell ⟨sb, 1, none⟩ (.int .i64 (v1 : Int))).heap[sa]? = some (.cells (mix3 f0 f1 f2 u0 u1 u2 (1 + 1)) 62 (0, 0))) := (fH.block sa (by simp; exact block_lt L4.out) (by omega)).trans (set_block L4.out 1 _)
        have H5 : Hid (((W4.setCell ⟨sa, 1, none⟩ (.int .i64 (u1 : Int))).setCell ⟨sb, 1, none⟩ (.int .i64 (v1 : Int))).heap[sb]? = some (.cells (mix3 f0 f1 f2 v0 v1 v2 (1 + 1)) 62 (0, 0))) := set_block ((fL.block sb (block_lt H4.out) (by omega)).trans H4.out) 1 _
        go_roundg k
        case measure => omega
        case rel => exact ⟨1 + 1, by simp, by omega, X5, F5, B5, L5, H5⟩
      · obtain ⟨k, rfl⟩ : ∃ k, gk = k + 1 := ⟨gk - 1, by omega⟩
        have qi : (Instr.index 62 (.agg #[.int .i64 (f0 : Int), .int .i64 (f1 : Int), .int .i64 (f2 : Int)]) (.int .i64 2)).run Tryd.prog wr = .ok (.int .i64 (f2 : Int)) wr := idx62_2 (.int .i64 (f0 : Int)) (.int .i64 (f1 : Int)) (.int .i64 (f2 : Int)) wr
        have HP : Hid (Calls _ _ _ _ _) := parts_own T wr R M [] [] ⟨_, _, _, X.out⟩ f2 r2 hr2 (t : Int) b2 (by rw [e2, ← q2]; rw [Bool.eq_iff_iff]; simp only [beq_iff_eq]; omega)
        rw [hu2, hv2] at HP
        go_wp2_with (go_at_call 40; refine HP.out.mono ?_; rintro e W4 ⟨rfl, hf4⟩; have X4 : Hid (TabG T W4 g cap fresh R M [] []) := X.out.grew hf4; have F4 : Hid (Fr (fun _ => True) w W4) := F.out.trans hf4; have B4 : Hid (W4.heap[ba]? = _) := (hf4.block ba (block_lt B.out) trivial).trans B.out; have L4 : Hid (W4.heap[sa]? = _) := (hf4.block sa (block_lt L.out) trivial).trans L.out; have H4 : Hid (W4.heap[sb]? = _) := (hf4.block sb (block_lt H.out) trivial).trans H.out; have y0 := block_cell L4.out 2; have y1 := frozen_block L4.out 2; have y2 := block_cell H4.out 2; have y3 := frozen_block H4.out 2; clear hf4 HP X F B L H qi)
        have fL : Fr (· ≠ sa) W4 (W4.setCell ⟨sa, 2, none⟩ (.int .i64 (u2 : Int))) := (Fr.refl _ W4).set (by simp) _
        have fH : Fr (· ≠ sb) (W4.setCell ⟨sa, 2, none⟩ (.int .i64 (u2 : Int))) ((W4.setCell ⟨sa, 2, none⟩ (.int .i64 (u2 : Int))).setCell ⟨sb, 2, none⟩ (.int .i64 (v2 : Int))) := (Fr.refl _ _).set (by simp) _
        have X5 : Hid (TabG T ((W4.setCell ⟨sa, 2, none⟩ (.int .i64 (u2 : Int))).setCell ⟨sb, 2, none⟩ (.int .i64 (v2 : Int))) g cap fresh R M [] []) := (X4.out.other L4.out hlL _ _).other ((fL.block sb (block_lt H4.out) (by omega)).trans H4.out) hlH _ _
        have F5 : Hid (Fr (fun _ => True) w ((W4.setCell ⟨sa, 2, none⟩ (.int .i64 (u2 : Int))).setCell ⟨sb, 2, none⟩ (.int .i64 (v2 : Int)))) := (F4.out.setB (by simp; omega) _).setB (by simp; omega) _
        have B5 : Hid (((W4.setCell ⟨sa, 2, none⟩ (.int .i64 (u2 : Int))).setCell ⟨sb, 2, none⟩ (.int .i64 (v2 : Int))).heap[ba]? = _) := (fH.block ba (by simp; exact block_lt B4.out) (by omega)).trans ((fL.block ba (block_lt B4.out) (by omega)).trans B4.out)
        have L5 : Hid (((W4.setCell ⟨sa, 2, none⟩ (.int .i64 (u2 : Int))).setCell ⟨sb, 2, none⟩ (.int .i64 (v2 : Int))).heap[sa]? = some (.cells (mix3 f0 f1 f2 u0 u1 u2 (2 + 1)) 62 (0, 0))) := (fH.block sa (by simp; exact block_lt L4.out) (by omega)).trans (set_block L4.out 2 _)
        have H5 : Hid (((W4.setCell ⟨sa, 2, none⟩ (.int .i64 (u2 : Int))).setCell ⟨sb, 2, none⟩ (.int .i64 (v2 : Int))).heap[sb]? = some (.cells (mix3 f0 f1 f2 v0 v1 v2 (2 + 1)) 62 (0, 0))) := set_block ((fL.block sb (block_lt H4.out) (by omega)).trans H4.out) 2 _
        go_roundg k
        case measure => omega
        case rel => exact ⟨2 + 1, by simp, by omega, X5, F5, B5, L5, H5⟩
      · have HGd : Hid (TabG T wr.drew g cap fresh R M [] []) := X.out.grew (Fr.refl _ wr).drew
        have HBd : Hid (wr.drew.heap[ba]? = some (.cells #[.int .i64 (f0 : Int), .int .i64 (f1 : Int), .int .i64 (f2 : Int)] 62 (0, 0))) := B.out
        have HFd : Hid (Fr (fun _ => True) w wr.drew) := F.out.drew
        have HLd : Hid (wr.drew.heap[sa]? = some (.cells #[.int .i64 (u0 : Int), .int .i64 (u1 : Int), .int .i64 (u2 : Int)] 62 (0, 0))) := L.out
        have HHd : Hid (wr.drew.heap[sb]? = some (.cells #[.int .i64 (v0 : Int), .int .i64 (v1 : Int), .int .i64 (v2 : Int)] 62 (0, 0))) := H.out
        have x0 := block_cell L.out 0
        have x1 := block_cell L.out 1
        have x2 := block_cell L.out 2
        have x3 := block_cell H.out 0
        have x4 := block_cell H.out 1
        have x5 := block_cell H.out 2
        have y0 := block_cell HLd.out 0
        have y1 := block_cell HLd.out 1
        have y2 := block_cell HLd.out 2
        have y3 := block_cell HHd.out 0
        have y4 := block_cell HHd.out 1
        have y5 := block_cell HHd.out 2
        clear X F B L H hr0 hr1 hr2 e0 e1 e2 l0 l1 l2 h5 ht q0 q1 q2 hf0 hf1 hf2 h1 h2 h3 h4 n1 n2 n3 n4 hu0 hu1 hu2 hv0 hv1 hv2 hba hsb hab hlL hlH hb1 hb2 hbl HLB
        go_wp2_with fail
        go_region_held3 (fun w' => w'.cell? ⟨sa, 0, none⟩ = some (.int .i64 (u0 : Int)) ∧ w'.cell? ⟨sa, 1, none⟩ = some (.int .i64 (u1 : Int)) ∧ w'.cell? ⟨sa, 2, none⟩ = some (.int .i64 (u2 : Int)) ∧ w'.cell? ⟨sb, 0, none⟩ = some (.int .i64 (v0 : Int)) ∧ w'.cell? ⟨sb, 1, none⟩ = some (.int .i64 (v1 : Int)) ∧ w'.cell? ⟨sb, 2, none⟩ = some (.int .i64 (v2 : Int))) (first | (refine ⟨?_, ?_, ?_, ?_, ?_, ?_⟩ <;> assumption) | go_keep)
          ((first | (go_at_call 30; refine (ite_triv _ _ _ _ _ _ (by assumption)).mono ?_; rintro e _ ⟨rfl, rfl⟩) | (go_at_call 17; refine (HNN.out _ ⟨_, _, _, HGd.out⟩).mono ?_; rintro e W5 ⟨rfl, hX5, hF5, hK5⟩; have L5 := hK5 _ _ _ _ HLd.out (by decide) (by decide) (by decide); have H5 := hK5 _ _ _ _ HHd.out (by decide) (by decide) (by decide); have z0 := block_cell L5 0; have z1 := block_cell L5 1; have z2 := block_cell L5 2; have z3 := block_cell H5 0; have z4 := block_cell H5 1; have z5 := block_cell H5 2; have X5 : Hid (Tab T W5 R' M' [] fr') := hX5; have F5 : Hid (Fr (· < T.lo) w W5) := (HFd.out.mono fun _ _ => trivial).trans hF5; have B5 : Hid (W5.heap[ba]? = _) := hK5 _ _ _ _ HBd.out (by decide) (by decide) (by decide); clear hX5 hF5 hK5 L5 H5)))
        clear x0 x1 x2 x3 x4 x5 y0 y1 y2 y3 y4 y5 z0 z1 z2 z3 z4 z5 HGd HBd HFd HLd HHd HNN hlo hhi
        obtain ⟨g5, cap5, fresh5, hG5⟩ := X5.out
        have X5d : Hid (TabG T W5.drew g5 cap5 fresh5 R' M' [] fr') := hG5.grew (Fr.refl _ W5).drew
        have B5d : Hid (W5.drew.heap[ba]? = some (.cells #[.int .i64 (f0 : Int), .int .i64 (f1 : Int), .int .i64 (f2 : Int)] 62 (0, 0))) := B5.out
        obtain ⟨W6, hput, hm6, hf6⟩ := X5d.out.found.put law62 Tryd.underlying51 (x := .agg #[.int .i64 (f0 : Int), .int .i64 (f1 : Int), .int .i64 (f2 : Int)]) hk (by simp) (.int .i64 (x : Int))
        have X6 : Hid (TabG T W6 g5 cap5 fresh5 R' M' _ fr') := X5d.out.finds hf6 hm6
        have kl := X5d.out.ok.lofb
        have F6 : Hid (Fr (· < T.lo) w W6) := F5.out.drew.trans (hf6.mono fun k hk => by omega)
        have b5 := block_cell hG5.blk 5
        have b5d := block_cell X5d.out.blk 5
        have c0 := block_cell B5.out 0
        have c1 := block_cell B5.out 1
        have c2 := block_cell B5.out 2
        have c0d := block_cell B5d.out 0
        have c1d := block_cell B5d.out 1
        have c2d := block_cell B5d.out 2
        clear hG5 hm6 hf6 X5 B5 X5d B5d F5 hk
        go_wp2_with fail
        go_big_region_o
        all_goals
          clear c0 c1 c2 c0d c1d c2d b5 b5d hput
          go_wp2_with fail
          go_ret
          exact ⟨rfl, ⟨_, by simp, ⟨_, _, _, X6.out⟩⟩, F6.out⟩
  · skip
    have X3 : Hid (TabG T ((W2.alloc (.cells #[.int .i64 (f0 : Int), .int .i64 (f1 : Int), .int .i64 (f2 : Int)] 62)).alloc (.cells #[.int .i64 (f0 : Int), .int .i64 (f1 : Int), .int .i64 (f2 : Int)] 62)).drew g cap fresh R M [] []) := X2.out.grew (((Fr.refl _ W2).alloc _).alloc _).drew
    have F3 : Hid (Fr (fun _ => True) w ((W2.alloc (.cells #[.int .i64 (f0 : Int), .int .i64 (f1 : Int), .int .i64 (f2 : Int)] 62)).alloc (.cells #[.int .i64 (f0 : Int), .int .i64 (f1 : Int), .int .i64 (f2 : Int)] 62)).drew) := F2.out.trans (((Fr.refl _ W2).alloc _).alloc _).drew
    have B3 : Hid (((W2.alloc (.cells #[.int .i64 (f0 : Int), .int .i64 (f1 : Int), .int .i64 (f2 : Int)] 62)).alloc (.cells #[.int .i64 (f0 : Int), .int .i64 (f1 : Int), .int .i64 (f2 : Int)] 62)).drew.heap[ba]? = some (.cells #[.int .i64 (f0 : Int), .int .i64 (f1 : Int), .int .i64 (f2 : Int)] 62 (0, 0))) := ((((Fr.refl (fun _ => True) W2).alloc (.cells #[.int .i64 (f0 : Int), .int .i64 (f1 : Int), .int .i64 (f2 : Int)] 62)).alloc (.cells #[.int .i64 (f0 : Int), .int .i64 (f1 : Int), .int .i64 (f2 : Int)] 62)).drew.block ba hbl trivial).trans B2.out
    have S1 : Hid (((W2.alloc (.cells #[.int .i64 (f0 : Int), .int .i64 (f1 : Int), .int .i64 (f2 : Int)] 62)).alloc (.cells #[.int .i64 (f0 : Int), .int .i64 (f1 : Int), .int .i64 (f2 : Int)] 62)).drew.heap[W2.heap.size]? = some (.cells #[.int .i64 (f0 : Int), .int .i64 (f1 : Int), .int .i64 (f2 : Int)] 62 (0, 0))) := (((Fr.refl (fun _ => True) (W2.alloc (.cells #[.int .i64 (f0 : Int), .int .i64 (f1 : Int), .int .i64 (f2 : Int)] 62))).alloc (.cells #[.int .i64 (f0 : Int), .int .i64 (f1 : Int), .int .i64 (f2 : Int)] 62)).drew.block W2.heap.size (by simp) trivial).trans (heap_new rfl)
    have S2 : Hid (((W2.alloc (.cells #[.int .i64 (f0 : Int), .int .i64 (f1 : Int), .int .i64 (f2 : Int)] 62)).alloc (.cells #[.int .i64 (f0 : Int), .int .i64 (f1 : Int), .int .i64 (f2 : Int)] 62)).drew.heap[W2.heap.size + 1]? = some (.cells #[.int .i64 (f0 : Int), .int .i64 (f1 : Int), .int .i64 (f2 : Int)] 62 (0, 0))) := heap_new (W := W2.alloc (.cells #[.int .i64 (f0 : Int), .int .i64 (f1 : Int), .int .i64 (f2 : Int)] 62)) (by simp)
    clear c0 c1 c2 c0d c1d c2d X2 F2 B2
    generalize ((W2.alloc (.cells #[.int .i64 (f0 : Int), .int .i64 (f1 : Int), .int .i64 (f2 : Int)] 62)).alloc (.cells #[.int .i64 (f0 : Int), .int .i64 (f1 : Int), .int .i64 (f2 : Int)] 62)).drew = W3 at X3 F3 B3 S1 S2 ⊢
    obtain ⟨sb, hsb⟩ : ∃ sb, W2.heap.size + 1 = sb := ⟨_, rfl⟩
    rw [hsb] at S2 hb2 ⊢
    obtain ⟨sa, hsa⟩ : ∃ sa, W2.heap.size = sa := ⟨_, rfl⟩
    rw [hsa] at S1 hb1 hbl hsb ⊢
    have hab : sa ≠ sb := by omega
    clear hsa
    have c0 := block_cell B3.out 0
    have c1 := block_cell B3.out 1
    have c2 := block_cell B3.out 2
    go_wp2_with fail
    have hlL : sb ≠ T.lb := by have := HLB; omega
    have hlH : sa ≠ T.lb := by have := HLB; omega
    clear c0 c1 c2
    go_loopg [60] (3) (fun k s60 wr => ∃ j : Nat, s60 = .int .i64 (j : Int) ∧ j + k = 3 ∧ Hid (TabG T wr g cap fresh R M [] []) ∧ Hid (Fr (fun _ => True) w wr) ∧ Hid (wr.heap[ba]? = some (.cells #[.int .i64 (f0 : Int), .int .i64 (f1 : Int), .int .i64 (f2 : Int)] 62 (0, 0))) ∧ Hid (wr.heap[sb]? = some (.cells (mix3 f0 f1 f2 u0 u1 u2 j) 62 (0, 0))) ∧ Hid (wr.heap[sa]? = some (.cells (mix3 f0 f1 f2 v0 v1 v2 j) 62 (0, 0))))
    case atStart => exact ⟨0, rfl, rfl, X3, F3, B3, S2, S1⟩
    case round =>
      clear X3 F3 B3 S1 S2
      obtain ⟨j, rfl, hjk, X, F, B, L, H⟩ := hrel
      rcases (by omega : j = 0 ∨ j = 1 ∨ j = 2 ∨ j = 3) with rfl | rfl | rfl | rfl
      · obtain ⟨k, rfl⟩ : ∃ k, gk = k + 1 := ⟨gk - 1, by omega⟩
        have qi : (Instr.index 62 (.agg #[.int .i64 (f0 : Int), .int .i64 (f1 : Int), .int .i64 (f2 : Int)]) (.int .i64 0)).run Tryd.prog wr = .ok (.int .i64 (f0 : Int)) wr := idx62_0 (.int .i64 (f0 : Int)) (.int .i64 (f1 : Int)) (.int .i64 (f2 : Int)) wr
        have HP : Hid (Calls _ _ _ _ _) := parts_own T wr R M [] [] ⟨_, _, _, X.out⟩ f0 r0 hr0 (t : Int) b0 (by rw [e0, ← q0]; rw [Bool.eq_iff_iff]; simp only [beq_iff_eq]; omega)
        rw [hu0, hv0] at HP
        go_wp2_with (go_at_call 40; refine HP.out.mono ?_; rintro e W4 ⟨rfl, hf4⟩; have X4 : Hid (TabG T W4 g cap fresh R M [] []) := X.out.grew hf4; have F4 : Hid (Fr (fun _ => True) w W4) := F.out.trans hf4; have B4 : Hid (W4.heap[ba]? = _) := (hf4.block ba (block_lt B.out) trivial).trans B.out; have L4 : Hid (W4.heap[sb]? = _) := (hf4.block sb (block_lt L.out) trivial).trans L.out; have H4 : Hid (W4.heap[sa]? = _) := (hf4.block sa (block_lt H.out) trivial).trans H.out; have y0 := block_cell L4.out 0; have y1 := frozen_block L4.out 0; have y2 := block_cell H4.out 0; have y3 := frozen_block H4.out 0; clear hf4 HP X F B L H qi)
        have fL : Fr (· ≠ sb) W4 (W4.setCell ⟨sb, 0, none⟩ (.int .i64 (u0 : Int))) := (Fr.refl _ W4).set (by simp) _
        have fH : Fr (· ≠ sa) (W4.setCell ⟨sb, 0, none⟩ (.int .i64 (u0 : Int))) ((W4.setCell ⟨sb, 0, none⟩ (.int .i64 (u0 : Int))).setCell ⟨sa, 0, none⟩ (.int .i64 (v0 : Int))) := (Fr.refl _ _).set (by simp) _
        have X5 : Hid (TabG T ((W4.setCell ⟨sb, 0, none⟩ (.int .i64 (u0 : Int))).setCell ⟨sa, 0, none⟩ (.int .i64 (v0 : Int))) g cap fresh R M [] []) := (X4.out.other L4.out hlL _ _).other ((fL.block sa (block_lt H4.out) (by omega)).trans H4.out) hlH _ _
        have F5 : Hid (Fr (fun _ => True) w ((W4.setCell ⟨sb, 0, none⟩ (.int .i64 (u0 : Int))).setCell ⟨sa, 0, none⟩ (.int .i64 (v0 : Int)))) := (F4.out.setB (by simp; omega) _).setB (by simp; omega) _
        have B5 : Hid (((W4.setCell ⟨sb, 0, none⟩ (.int .i64 (u0 : Int))).setCell ⟨sa, 0, none⟩ (.int .i64 (v0 : Int))).heap[ba]? = _) := (fH.block ba (by simp; exact block_lt B4.out) (by omega)).trans ((fL.block ba (block_lt B4.out) (by omega)).trans B4.out)
        have L5 : Hid (((W4.setCell ⟨sb, 0, none⟩ (.int .i64 (u0 : Int))).setCell ⟨sa, 0, none⟩ (.int .i64 (v0 : Int))).heap[sb]? = some (.cells (mix3 f0 f1 f2 u0 u1 u2 (0 + 1)) 62 (0, 0))) := (fH.block sb (by simp; exact block_lt L4.out) (by omega)).trans (set_block L4.out 0 _)
        have H5 : Hid (((W4.setCell ⟨sb, 0, none⟩ (.int .i64 (u0 : Int))).setCell ⟨sa, 0, none⟩ (.int .i64 (v0 : Int))).heap[sa]? = some (.cells (mix3 f0 f1 f2 v0 v1 v2 (0 + 1)) 62 (0, 0))) := set_block ((fL.block sa (block_lt H4.out) (by omega)).trans H4.out) 0 _
        go_roundg k
        case measure => omega
        case rel => exact ⟨0 + 1, by simp, by omega, X5, F5, B5, L5, H5⟩
      · obtain ⟨k, rfl⟩ : ∃ k, gk = k + 1 := ⟨gk - 1, by omega⟩
        have qi : (Instr.index 62 (.agg #[.int .i64 (f0 : Int), .int .i64 (f1 : Int), .int .i64 (f2 : Int)]) (.int .i64 1)).run Tryd.prog wr = .ok (.int .i64 (f1 : Int)) wr := idx62_1 (.int .i64 (f0 : Int)) (.int .i64 (f1 : Int)) (.int .i64 (f2 : Int)) wr
        have HP : Hid (Calls _ _ _ _ _) := parts_own T wr R M [] [] ⟨_, _, _, X.out⟩ f1 r1 hr1 (t : Int) b1 (by rw [e1, ← q1]; rw [Bool.eq_iff_iff]; simp only [beq_iff_eq]; omega)
        rw [hu1, hv1] at HP
        go_wp2_with (go_at_call 40; refine HP.out.mono ?_; rintro e W4 ⟨rfl, hf4⟩; have X4 : Hid (TabG T W4 g cap fresh R M [] []) := X.out.grew hf4; have F4 : Hid (Fr (fun _ => True) w W4) := F.out.trans hf4; have B4 : Hid (W4.heap[ba]? = _) := (hf4.block ba (block_lt B.out) trivial).trans B.out; have L4 : Hid (W4.heap[sb]? = _) := (hf4.block sb (block_lt L.out) trivial).trans L.out; have H4 : Hid (W4.heap[sa]? = _) := (hf4.block sa (block_lt H.out) trivial).trans H.out; have y0 := block_cell L4.out 1; have y1 := frozen_block L4.out 1; have y2 := block_cell H4.out 1; have y3 := frozen_block H4.out 1; clear hf4 HP X F B L H qi)
        have fL : Fr (· ≠ sb) W4 (W4.setCell ⟨sb, 1, none⟩ (.int .i64 (u1 : Int))) := (Fr.refl _ W4).set (by simp) _
        have fH : Fr (· ≠ sa) (W4.setCell ⟨sb, 1, none⟩ (.int .i64 (u1 : Int))) ((W4.setCell ⟨sb, 1, none⟩ (.int .i64 (u1 : Int))).setCell ⟨sa, 1, none⟩ (.int .i64 (v1 : Int))) := (Fr.refl _ _).set (by simp) _
        have X5 : Hid (TabG T ((W4.setCell ⟨sb, 1, none⟩ (.int .i64 (u1 : Int))).setCell ⟨sa, 1, none⟩ (.int .i64 (v1 : Int))) g cap fresh R M [] []) := (X4.out.other L4.out hlL _ _).other ((fL.block sa (block_lt H4.out) (by omega)).trans H4.out) hlH _ _
        have F5 : Hid (Fr (fun _ => True) w ((W4.setCell ⟨sb, 1, none⟩ (.int .i64 (u1 : Int))).setCell ⟨sa, 1, none⟩ (.int .i64 (v1 : Int)))) := (F4.out.setB (by simp; omega) _).setB (by simp; omega) _
        have B5 : Hid (((W4.setCell ⟨sb, 1, none⟩ (.int .i64 (u1 : Int))).setCell ⟨sa, 1, none⟩ (.int .i64 (v1 : Int))).heap[ba]? = _) := (fH.block ba (by simp; exact block_lt B4.out) (by omega)).trans ((fL.block ba (block_lt B4.out) (by omega)).trans B4.out)
        have L5 : Hid (((W4.setCell ⟨sb, 1, none⟩ (.int .i64 (u1 : Int))).setCell ⟨sa, 1, none⟩ (.int .i64 (v1 : Int))).heap[sb]? = some (.cells (mix3 f0 f1 f2 u0 u1 u2 (1 + 1)) 62 (0, 0))) := (fH.block sb (by simp; exact block_lt L4.out) (by omega)).trans (set_block L4.out 1 _)
        have H5 : Hid (((W4.setCell ⟨sb, 1, none⟩ (.int .i64 (u1 : Int))).setCell ⟨sa, 1, none⟩ (.int .i64 (v1 : Int))).heap[sa]? = some (.cells (mix3 f0 f1 f2 v0 v1 v2 (1 + 1)) 62 (0, 0))) := set_block ((fL.block sa (block_lt H4.out) (by omega)).trans H4.out) 1 _
        go_roundg k
        case measure => omega
        case rel => exact ⟨1 + 1, by simp, by omega, X5, F5, B5, L5, H5⟩
      · obtain ⟨k, rfl⟩ : ∃ k, gk = k + 1 := ⟨gk - 1, by omega⟩
        have qi : (Instr.index 62 (.agg #[.int .i64 (f0 : Int), .int .i64 (f1 : Int), .int .i64 (f2 : Int)]) (.int .i64 2)).run Tryd.prog wr = .ok (.int .i64 (f2 : Int)) wr := idx62_2 (.int .i64 (f0 : Int)) (.int .i64 (f1 : Int)) (.int .i64 (f2 : Int)) wr
        have HP : Hid (Calls _ _ _ _ _) := parts_own T wr R M [] [] ⟨_, _, _, X.out⟩ f2 r2 hr2 (t : Int) b2 (by rw [e2, ← q2]; rw [Bool.eq_iff_iff]; simp only [beq_iff_eq]; omega)
        rw [hu2, hv2] at HP
        go_wp2_with (go_at_call 40; refine HP.out.mono ?_; rintro e W4 ⟨rfl, hf4⟩; have X4 : Hid (TabG T W4 g cap fresh R M [] []) := X.out.grew hf4; have F4 : Hid (Fr (fun _ => True) w W4) := F.out.trans hf4; have B4 : Hid (W4.heap[ba]? = _) := (hf4.block ba (block_lt B.out) trivial).trans B.out; have L4 : Hid (W4.heap[sb]? = _) := (hf4.block sb (block_lt L.out) trivial).trans L.out; have H4 : Hid (W4.heap[sa]? = _) := (hf4.block sa (block_lt H.out) trivial).trans H.out; have y0 := block_cell L4.out 2; have y1 := frozen_block L4.out 2; have y2 := block_cell H4.out 2; have y3 := frozen_block H4.out 2; clear hf4 HP X F B L H qi)
        have fL : Fr (· ≠ sb) W4 (W4.setCell ⟨sb, 2, none⟩ (.int .i64 (u2 : Int))) := (Fr.refl _ W4).set (by simp) _
        have fH : Fr (· ≠ sa) (W4.setCell ⟨sb, 2, none⟩ (.int .i64 (u2 : Int))) ((W4.setCell ⟨sb, 2, none⟩ (.int .i64 (u2 : Int))).setCell ⟨sa, 2, none⟩ (.int .i64 (v2 : Int))) := (Fr.refl _ _).set (by simp) _
        have X5 : Hid (TabG T ((W4.setCell ⟨sb, 2, none⟩ (.int .i64 (u2 : Int))).setCell ⟨sa, 2, none⟩ (.int .i64 (v2 : Int))) g cap fresh R M [] []) := (X4.out.other L4.out hlL _ _).other ((fL.block sa (block_lt H4.out) (by omega)).trans H4.out) hlH _ _
        have F5 : Hid (Fr (fun _ => True) w ((W4.setCell ⟨sb, 2, none⟩ (.int .i64 (u2 : Int))).setCell ⟨sa, 2, none⟩ (.int .i64 (v2 : Int)))) := (F4.out.setB (by simp; omega) _).setB (by simp; omega) _
        have B5 : Hid (((W4.setCell ⟨sb, 2, none⟩ (.int .i64 (u2 : Int))).setCell ⟨sa, 2, none⟩ (.int .i64 (v2 : Int))).heap[ba]? = _) := (fH.block ba (by simp; exact block_lt B4.out) (by omega)).trans ((fL.block ba (block_lt B4.out) (by omega)).trans B4.out)
        have L5 : Hid (((W4.setCell ⟨sb, 2, none⟩ (.int .i64 (u2 : Int))).setCell ⟨sa, 2, none⟩ (.int .i64 (v2 : Int))).heap[sb]? = some (.cells (mix3 f0 f1 f2 u0 u1 u2 (2 + 1)) 62 (0, 0))) := (fH.block sb (by simp; exact block_lt L4.out) (by omega)).trans (set_block L4.out 2 _)
        have H5 : Hid (((W4.setCell ⟨sb, 2, none⟩ (.int .i64 (u2 : Int))).setCell ⟨sa, 2, none⟩ (.int .i64 (v2 : Int))).heap[sa]? = some (.cells (mix3 f0 f1 f2 v0 v1 v2 (2 + 1)) 62 (0, 0))) := set_block ((fL.block sa (block_lt H4.out) (by omega)).trans H4.out) 2 _
        go_roundg k
        case measure => omega
        case rel => exact ⟨2 + 1, by simp, by omega, X5, F5, B5, L5, H5⟩
      · have HGd : Hid (TabG T wr.drew g cap fresh R M [] []) := X.out.grew (Fr.refl _ wr).drew
        have HBd : Hid (wr.drew.heap[ba]? = some (.cells #[.int .i64 (f0 : Int), .int .i64 (f1 : Int), .int .i64 (f2 : Int)] 62 (0, 0))) := B.out
        have HFd : Hid (Fr (fun _ => True) w wr.drew) := F.out.drew
        have HLd : Hid (wr.drew.heap[sb]? = some (.cells #[.int .i64 (u0 : Int), .int .i64 (u1 : Int), .int .i64 (u2 : Int)] 62 (0, 0))) := L.out
        have HHd : Hid (wr.drew.heap[sa]? = some (.cells #[.int .i64 (v0 : Int), .int .i64 (v1 : Int), .int .i64 (v2 : Int)] 62 (0, 0))) := H.out
        have x0 := block_cell L.out 0
        have x1 := block_cell L.out 1
        have x2 := block_cell L.out 2
        have x3 := block_cell H.out 0
        have x4 := block_cell H.out 1
        have x5 := block_cell H.out 2
        have y0 := block_cell HLd.out 0
        have y1 := block_cell HLd.out 1
        have y2 := block_cell HLd.out 2
        have y3 := block_cell HHd.out 0
        have y4 := block_cell HHd.out 1
        have y5 := block_cell HHd.out 2
        clear X F B L H hr0 hr1 hr2 e0 e1 e2 l0 l1 l2 h5 ht q0 q1 q2 hf0 hf1 hf2 h1 h2 h3 h4 n1 n2 n3 n4 hu0 hu1 hu2 hv0 hv1 hv2 hba hsb hab hlL hlH hb1 hb2 hbl HLB
        go_wp2_with fail
        go_region_held3 (fun w' => w'.cell? ⟨sb, 0, none⟩ = some (.int .i64 (u0 : Int)) ∧ w'.cell? ⟨sb, 1, none⟩ = some (.int .i64 (u1 : Int)) ∧ w'.cell? ⟨sb, 2, none⟩ = some (.int .i64 (u2 : Int)) ∧ w'.cell? ⟨sa, 0, none⟩ = some (.int .i64 (v0 : Int)) ∧ w'.cell? ⟨sa, 1, none⟩ = some (.int .i64 (v1 : Int)) ∧ w'.cell? ⟨sa, 2, none⟩ = some (.int .i64 (v2 : Int))) (first | (refine ⟨?_, ?_, ?_, ?_, ?_, ?_⟩ <;> assumption) | go_keep)
          ((first | (go_at_call 30; refine (ite_triv _ _ _ _ _ _ (by assumption)).mono ?_; rintro e _ ⟨rfl, rfl⟩) | (go_at_call 17; refine (HNN.out _ ⟨_, _, _, HGd.out⟩).mono ?_; rintro e W5 ⟨rfl, hX5, hF5, hK5⟩; have L5 := hK5 _ _ _ _ HLd.out (by decide) (by decide) (by decide); have H5 := hK5 _ _ _ _ HHd.out (by decide) (by decide) (by decide); have z0 := block_cell L5 0; have z1 := block_cell L5 1; have z2 := block_cell L5 2; have z3 := block_cell H5 0; have z4 := block_cell H5 1; have z5 := block_cell H5 2; have X5 : Hid (Tab T W5 R' M' [] fr') := hX5; have F5 : Hid (Fr (· < T.lo) w W5) := (HFd.out.mono fun _ _ => trivial).trans hF5; have B5 : Hid (W5.heap[ba]? = _) := hK5 _ _ _ _ HBd.out (by decide) (by decide) (by decide); clear hX5 hF5 hK5 L5 H5)))
        clear x0 x1 x2 x3 x4 x5 y0 y1 y2 y3 y4 y5 z0 z1 z2 z3 z4 z5 HGd HBd HFd HLd HHd HNN hlo hhi
        obtain ⟨g5, cap5, fresh5, hG5⟩ := X5.out
        have X5d : Hid (TabG T W5.drew g5 cap5 fresh5 R' M' [] fr') := hG5.grew (Fr.refl _ W5).drew
        have B5d : Hid (W5.drew.heap[ba]? = some (.cells #[.int .i64 (f0 : Int), .int .i64 (f1 : Int), .int .i64 (f2 : Int)] 62 (0, 0))) := B5.out
        obtain ⟨W6, hput, hm6, hf6⟩ := X5d.out.found.put law62 Tryd.underlying51 (x := .agg #[.int .i64 (f0 : Int), .int .i64 (f1 : Int), .int .i64 (f2 : Int)]) hk (by simp) (.int .i64 (x : Int))
        have X6 : Hid (TabG T W6 g5 cap5 fresh5 R' M' _ fr') := X5d.out.finds hf6 hm6
        have kl := X5d.out.ok.lofb
        have F6 : Hid (Fr (· < T.lo) w W6) := F5.out.drew.trans (hf6.mono fun k hk => by omega)
        have b5 := block_cell hG5.blk 5
        have b5d := block_cell X5d.out.blk 5
        have c0 := block_cell B5.out 0
        have c1 := block_cell B5.out 1
        have c2 := block_cell B5.out 2
        have c0d := block_cell B5d.out 0
        have c1d := block_cell B5d.out 1
        have c2d := block_cell B5d.out 2
        clear hG5 hm6 hf6 X5 B5 X5d B5d F5 hk
        go_wp2_with fail
        go_big_region_o
        all_goals
          clear c0 c1 c2 c0d c1d c2d b5 b5d hput
          go_wp2_with fail
          go_ret
          exact ⟨rfl, ⟨_, by simp, ⟨_, _, _, X6.out⟩⟩, F6.out⟩

end Go.Proofs.YtkbomifmijafgaaDoor.Sx
