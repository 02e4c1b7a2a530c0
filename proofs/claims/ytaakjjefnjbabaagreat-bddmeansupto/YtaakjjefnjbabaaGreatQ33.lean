/- The reference: lists that are filled. -/
import Derived.Test.YtaakjjefnjbabaaGreatQ32
set_option maxRecDepth 100000
namespace Go.Proofs.YtaakjjefnjbabaaGreat.Sx
open Go.RowKit Go.Sort Go.Maps Go.WideMaps
def varB (n : Nat) (i : Int) (k : Nat) : Bool := decide (0 ≤ i ∧ i < (n : Int)) && k.testBit i.toNat
def varL (n : Nat) (i : Int) : List Bool := (List.range (2 ^ n)).map (varB n i)
theorem varB_no {n : Nat} {i : Int} (k : Nat) (h : ¬ (0 ≤ i ∧ i < (n : Int))) : varB n i k = false := by unfold varB; rw [decide_eq_false h]; rfl
theorem shr_bit (j a : Nat) (hj : j < 65536) : (bits .and .i64 ((j : Int) / 2 ^ a) 1 == 1) = j.testBit a := by
 have e : (j : Int) / 2 ^ a = ((j / 2 ^ a : Nat) : Int) := by rw [Int.natCast_ediv, Int.natCast_pow]; rfl
 have hb := (bits_i64 (j / 2 ^ a) 1 (by have := Nat.div_le_self j (2 ^ a); omega) (by omega)).1
 have hb : bits .and .i64 ((j / 2 ^ a : Nat) : Int) 1 = ((j / 2 ^ a &&& 1 : Nat) : Int) := hb
 rw [e, hb, Nat.and_one_is_mod, Nat.testBit_eq_decide_div_mod_eq]
 have : j / 2 ^ a % 2 = 0 ∨ j / 2 ^ a % 2 = 1 := by omega
 rcases this with h | h <;> rw [h] <;> rfl
set_option maxHeartbeats 4000000 in
theorem rVar_any (w : World) (n : Nat) (hn : n ≤ 9) (i : Int) :
 Calls Tryz.prog 28 #[.int .i64 (n : Int), .int .i64 i] w fun e w' => ∃ r, e = .returned r ∧ (BV w' r (varL n i) ∧ New w r) ∧ Fr (fun _ => True) w w' := by
 have hp := wrap_pow n (by omega)
 obtain ⟨N, hN⟩ : ∃ N, 2 ^ n = N := ⟨_, rfl⟩
 have hN2 := pow9 hn
 rw [hN] at hN2
 have m1 := make_bools w N (by omega)
 have hpi : (2 : Int) ^ n = ((2 ^ n : Nat) : Int) := by rw [Int.natCast_pow]; rfl
 unfold varL
 rw [hN] at hp ⊢
 have mo := follows
 go_enter Tryz.func28, Tryz.ntmps28
 go_wp2_with fail
 clear m1
 have W1 : Hid (BBlk (w.alloc (.cells (Array.replicate N (.bool false)) 4)) w.heap.size (fillL (varB n i) N 0)) := by rw [fillL_zero]; exact BBlk.zero w N
 have F1 : Hid (Fr (fun b => b < w.heap.size) w (w.alloc (.cells (Array.replicate N (.bool false)) 4))) := (Fr.refl _ w).alloc _
 generalize w.alloc (.cells (Array.replicate N (.bool false)) 4) = Wa at W1 F1 ⊢
 go_loopg [6] (N) (fun k s6 wr => ∃ j : Nat, s6 = .int .i64 (j : Int) ∧ j + k = N ∧ Hid (BBlk wr w.heap.size (fillL (varB n i) N j)) ∧ Hid (Fr (fun b => b < w.heap.size) w wr))
 case atStart => exact ⟨0, rfl, by omega, W1, F1⟩
 case round =>
  clear W1 F1
  obtain ⟨j, rfl, hjk, B, F⟩ := hrel
  by_cases hj : j < N
  · obtain ⟨k, rfl⟩ : ∃ k, gk = k + 1 := ⟨gk - 1, by omega⟩
    have hjl : (j : Int) < (N : Int) := by omega
    have hj0 : (0 : Int) ≤ (j : Int) := by omega
    have c0 := B.out.cell (fillL_at hj)
    have z0 := B.out.frz j
    have B2 : Hid (∀ vv, vv = (varB n i) j → BBlk (wr.setCell ⟨w.heap.size, j, none⟩ (.bool vv)) w.heap.size (fillL (varB n i) N (j + 1))) := fun vv hv => by
     have := B.out.set j vv
     rw [hv, show (fillL (varB n i) N j).set j ((varB n i) j) = _ from fillL_set (φ := (varB n i)) hj] at this
     rw [hv]
     exact this
    have F2 : Hid (∀ v, Fr (fun b => b < w.heap.size) w (wr.setCell ⟨w.heap.size, j, none⟩ v)) := fun v => F.out.set (by simp) _
    clear B F
    by_cases h0 : 0 ≤ i
    · by_cases h1 : i < (n : Int)
      · obtain ⟨a, rfl⟩ : ∃ a : Nat, i = (a : Int) := ⟨i.toNat, by omega⟩
        have ha : a < 64 := by omega
        have hsb := shr_bit j a (by omega)
        have HSB : Hid (varB n (a : Int) j = j.testBit a) := by
         unfold varB
         rw [decide_eq_true ⟨h0, h1⟩]; rfl
        go_wp2_with fail
        go_roundg k
        case measure => omega
        case rel => exact ⟨j + 1, by simp, by omega, B2.out _ HSB.out.symm, F2.out _⟩
      · have HSB : Hid (varB n i j = false) := varB_no j (by omega)
        go_wp2_with fail
        go_roundg k
        case measure => omega
        case rel => exact ⟨j + 1, by simp, by omega, B2.out _ HSB.out.symm, F2.out _⟩
    · have HSB : Hid (varB n i j = false) := varB_no j (by omega)
      go_wp2_with fail
      go_roundg k
      case measure => omega
      case rel => exact ⟨j + 1, by simp, by omega, B2.out _ HSB.out.symm, F2.out _⟩
  · have hjl : ¬ (j : Int) < (N : Int) := by omega
    obtain rfl : j = N := by omega
    go_wp2_with fail
    go_ret
    have h1 := B.out.bv j
    rw [fillL_end, List.length_map, List.length_range] at h1
    exact ⟨_, rfl, ⟨h1, _, _, _, rfl, Nat.le_refl _⟩, ⟨F.out.os, F.out.tape, F.out.output, F.out.size, fun b hb _ => F.out.block b hb hb⟩⟩
def iteB (f g h : List Bool) (k : Nat) : Bool := f.getD k false && g.getD k false || !f.getD k false && h.getD k false
def iteL (f g h : List Bool) : List Bool := (List.range f.length).map (iteB f g h)
set_option maxHeartbeats 4000000 in
theorem rIte_any (w : World) (vf vg vh : Value) (f g h : List Bool) (N : Nat) (hN : N ≤ 65536) (hf : BV w vf f) (hg : BV w vg g) (hh : BV w vh h) (lf : f.length = N) (lg : g.length = N) (lh : h.length = N) :
 Calls Tryz.prog 30 #[vf, vg, vh] w fun e w' => ∃ r, e = .returned r ∧ (BV w' r (iteL f g h) ∧ New w r) ∧ Fr (fun _ => True) w w' := by
 obtain ⟨fa, fc, rfl, cf⟩ := hf.old
 obtain ⟨ga, gc, rfl, cg⟩ := hg.old
 obtain ⟨ha, hc, rfl, ch⟩ := hh.old
 have Hf : Hid (∀ (i : Nat) (x : Bool), f[i]? = some x → ∃ q, fa = some q ∧ w.cell? (q.add i) = some (.bool x)) := cf
 have Hg : Hid (∀ (i : Nat) (x : Bool), g[i]? = some x → ∃ q, ga = some q ∧ w.cell? (q.add i) = some (.bool x)) := cg
 have Hh : Hid (∀ (i : Nat) (x : Bool), h[i]? = some x → ∃ q, ha = some q ∧ w.cell? (q.add i) = some (.bool x)) := ch
 have m1 := make_bools w N hN
 unfold iteL
 rw [lf, lg, lh]
 have mo := follows
 clear cf cg ch
 go_enter Tryz.func30, Tryz.ntmps30
 go_wp2_with fail
 clear m1
 have W1 : Hid (BBlk (w.alloc (.cells (Array.replicate N (.bool false)) 4)) w.heap.size (fillL (iteB f g h) N 0)) := by rw [fillL_zero]; exact BBlk.zero w N
 have F1 : Hid (Fr (fun b => b < w.heap.size) w (w.alloc (.cells (Array.replicate N (.bool false)) 4))) := (Fr.refl _ w).alloc _
 generalize w.alloc (.cells (Array.replicate N (.bool false)) 4) = Wa at W1 F1 ⊢
 go_loopg [8] (N) (fun k s8 wr => ∃ j : Nat, s8 = .int .i64 (j : Int) ∧ j + k = N ∧ Hid (BBlk wr w.heap.size (fillL (iteB f g h) N j)) ∧ Hid (Fr (fun b => b < w.heap.size) w wr))
 case atStart => exact ⟨0, rfl, by omega, W1, F1⟩
 case round =>
  clear W1 F1
  obtain ⟨j, rfl, hjk, B, F⟩ := hrel
  by_cases hj : j < N
  · obtain ⟨k, rfl⟩ : ∃ k, gk = k + 1 := ⟨gk - 1, by omega⟩
    have hjl : (j : Int) < (N : Int) := by omega
    have hj0 : (0 : Int) ≤ (j : Int) := by omega
    have c0 := B.out.cell (fillL_at hj)
    have z0 := B.out.frz j
    have B2 : Hid (∀ vv, vv = (iteB f g h) j → BBlk (wr.setCell ⟨w.heap.size, j, none⟩ (.bool vv)) w.heap.size (fillL (iteB f g h) N (j + 1))) := fun vv hv => by
     have := B.out.set j vv
     rw [hv, show (fillL (iteB f g h) N j).set j ((iteB f g h) j) = _ from fillL_set (φ := (iteB f g h)) hj] at this
     rw [hv]
     exact this
    have F2 : Hid (∀ v, Fr (fun b => b < w.heap.size) w (wr.setCell ⟨w.heap.size, j, none⟩ v)) := fun v => F.out.set (by simp) _
    obtain ⟨x, hx⟩ : ∃ x, f[j]? = some x := ⟨_, List.getElem?_eq_getElem (by omega)⟩
    obtain ⟨qf, rfl, cx⟩ := Hf.out j x hx
    have cx : wr.cell? (qf.add j) = some (.bool x) := (World.cell?_of_block (w := w) (F.out.block _ (World.block_lt_of_cell? w _ cx) (World.block_lt_of_cell? w _ cx))).trans cx
    have gx : f.getD j false = x := by rw [List.getD_eq_getElem?_getD, hx]; rfl
    obtain ⟨y, hy⟩ : ∃ y, g[j]? = some y := ⟨_, List.getElem?_eq_getElem (by omega)⟩
    obtain ⟨qg, rfl, cy⟩ := Hg.out j y hy
    have cy : wr.cell? (qg.add j) = some (.bool y) := (World.cell?_of_block (w := w) (F.out.block _ (World.block_lt_of_cell? w _ cy) (World.block_lt_of_cell? w _ cy))).trans cy
    have gy : g.getD j false = y := by rw [List.getD_eq_getElem?_getD, hy]; rfl
    obtain ⟨z, hz⟩ : ∃ z, h[j]? = some z := ⟨_, List.getElem?_eq_getElem (by omega)⟩
    obtain ⟨qh, rfl, cz⟩ := Hh.out j z hz
    have cz : wr.cell? (qh.add j) = some (.bool z) := (World.cell?_of_block (w := w) (F.out.block _ (World.block_lt_of_cell? w _ cz) (World.block_lt_of_cell? w _ cz))).trans cz
    have gz : h.getD j false = z := by rw [List.getD_eq_getElem?_getD, hz]; rfl
    have HSB : Hid (iteB f g h j = (x && y || !x && z)) := (by unfold iteB; rw [gx, gy, gz] : iteB f g h j = (x && y || !x && z))
    clear B F hx hy hz gx gy gz
    cases x <;> cases y <;> cases z
    all_goals
     go_wp2_with fail
     go_roundg k
     case measure => omega
     case rel => exact ⟨j + 1, by simp, by omega, B2.out _ (by rw [HSB.out]; rfl), F2.out _⟩
  · have hjl : ¬ (j : Int) < (N : Int) := by omega
    obtain rfl : j = N := by omega
    go_wp2_with fail
    go_ret
    have h1 := B.out.bv j
    rw [fillL_end, List.length_map, List.length_range] at h1
    exact ⟨_, rfl, ⟨h1, _, _, _, rfl, Nat.le_refl _⟩, ⟨F.out.os, F.out.tape, F.out.output, F.out.size, fun b hb _ => F.out.block b hb hb⟩⟩
def withB (f : List Bool) (i : Nat) (v : Bool) (k : Nat) : Bool := f.getD (if v then k ||| 2 ^ i else (k ||| 2 ^ i) - 2 ^ i) false
def withL (f : List Bool) (i : Nat) (v : Bool) : List Bool := (List.range f.length).map (withB f i v)
theorem or_lt {j i n : Nat} (hj : j < 2 ^ n) (hi : i < n) : j ||| 2 ^ i < 2 ^ n := Nat.or_lt_two_pow hj (Nat.pow_lt_pow_right (by omega) hi)
theorem or_ge (j q : Nat) : q ≤ j ||| q := Nat.right_le_or
set_option maxHeartbeats 4000000 in
theorem rWith_new (w : World) (vf : Value) (f : List Bool) (n i : Nat) (hn : n ≤ 9) (hi : i < n) (hf : BV w vf f) (lf : f.length = 2 ^ n) (v : Bool) :
 Calls Tryz.prog 70 #[vf, .int .i64 (i : Int), .bool v] w fun e w' => ∃ r, e = .returned r ∧ (BV w' r (withL f i v) ∧ ∃ k c, r = .slice (some ⟨w.heap.size, 0, none⟩) k c) ∧ Fr (fun _ => True) w w' := by
 obtain ⟨fa, fc, rfl, cf⟩ := hf.old
 have Hf : Hid (∀ (i : Nat) (x : Bool), f[i]? = some x → ∃ q, fa = some q ∧ w.cell? (q.add i) = some (.bool x)) := cf
 have hN2 := pow9 hn
 have hp := wrap_pow i (by omega)
 have HOL : Hid (∀ j, j < 2 ^ n → j ||| 2 ^ i < 2 ^ n) := fun j hj => or_lt hj hi
 obtain ⟨N, hN⟩ : ∃ N, 2 ^ n = N := ⟨_, rfl⟩
 obtain ⟨Q, hQ⟩ : ∃ Q, 2 ^ i = Q := ⟨_, rfl⟩
 have hQ2 : Q ≤ 512 := by rw [← hQ]; exact pow9 (by omega)
 have HWB : Hid (∀ v j, withB f i v j = f.getD (if v then j ||| Q else (j ||| Q) - Q) false) := fun v j => by unfold withB; rw [hQ]
 rw [hN] at hN2 lf HOL
 rw [hQ] at hp HOL
 have m1 := make_bools w N (by omega)
 unfold withL
 rw [lf]
 have mo := follows
 clear cf hN hQ
 go_enter Tryz.func70, Tryz.ntmps70
 go_wp2_with fail
 clear m1
 have W1 : Hid (BBlk (w.alloc (.cells (Array.replicate N (.bool false)) 4)) w.heap.size (fillL (withB f i v) N 0)) := by rw [fillL_zero]; exact BBlk.zero w N
 have F1 : Hid (Fr (fun b => b < w.heap.size) w (w.alloc (.cells (Array.replicate N (.bool false)) 4))) := (Fr.refl _ w).alloc _
 generalize w.alloc (.cells (Array.replicate N (.bool false)) 4) = Wa at W1 F1 ⊢
 go_loopg [8] (N) (fun k s8 wr => ∃ j : Nat, s8 = .int .i64 (j : Int) ∧ j + k = N ∧ Hid (BBlk wr w.heap.size (fillL (withB f i v) N j)) ∧ Hid (Fr (fun b => b < w.heap.size) w wr))
 case atStart => exact ⟨0, rfl, by omega, W1, F1⟩
 case round =>
  clear W1 F1
  obtain ⟨j, rfl, hjk, B, F⟩ := hrel
  by_cases hj : j < N
  · obtain ⟨k, rfl⟩ : ∃ k, gk = k + 1 := ⟨gk - 1, by omega⟩
    have hjl : (j : Int) < (N : Int) := by omega
    have hj0 : (0 : Int) ≤ (j : Int) := by omega
    have c0 := B.out.cell (fillL_at hj)
    have z0 := B.out.frz j
    have B2 : Hid (∀ vv, vv = (withB f i v) j → BBlk (wr.setCell ⟨w.heap.size, j, none⟩ (.bool vv)) w.heap.size (fillL (withB f i v) N (j + 1))) := fun vv hv => by
     have := B.out.set j vv
     rw [hv, show (fillL (withB f i v) N j).set j ((withB f i v) j) = _ from fillL_set (φ := (withB f i v)) hj] at this
     rw [hv]
     exact this
    have F2 : Hid (∀ v, Fr (fun b => b < w.heap.size) w (wr.setCell ⟨w.heap.size, j, none⟩ v)) := fun v => F.out.set (by simp) _
    obtain ⟨a, ha⟩ : ∃ a, j ||| Q = a := ⟨_, rfl⟩
    have hor := (bits_i64 j Q (by omega) (by omega)).2
    have haN := HOL.out j hj
    have hQa := or_ge j Q
    rw [ha] at hor haN hQa
    have h1 : (a : Int) < (N : Int) := by omega
    have h2 : (0 : Int) ≤ (a : Int) := by omega
    have h3 : (a : Int) - (Q : Int) = ((a - Q : Nat) : Int) := by omega
    have h4 : ((a - Q : Nat) : Int) < (N : Int) := by omega
    have h5 : (0 : Int) ≤ ((a - Q : Nat) : Int) := by omega
    cases v with
    | true =>
      obtain ⟨x, hx⟩ : ∃ x, f[a]? = some x := ⟨_, List.getElem?_eq_getElem (by omega)⟩
      obtain ⟨qf, rfl, cx⟩ := Hf.out a x hx
      have cx : wr.cell? (qf.add a) = some (.bool x) := (World.cell?_of_block (w := w) (F.out.block _ (World.block_lt_of_cell? w _ cx) (World.block_lt_of_cell? w _ cx))).trans cx
      have HSB : Hid (withB f i true j = x) := by rw [HWB.out, if_pos rfl, ha, List.getD_eq_getElem?_getD, hx]; rfl
      clear B F hx ha hQa h3 h4 h5
      go_wp2_with fail
      go_roundg k
      case measure => omega
      case rel => exact ⟨j + 1, by simp, by omega, B2.out _ HSB.out.symm, F2.out _⟩
    | false =>
      obtain ⟨b, hb⟩ : ∃ b, a - Q = b := ⟨_, rfl⟩
      rw [hb] at h3 h4 h5
      obtain ⟨x, hx⟩ : ∃ x, f[b]? = some x := ⟨_, List.getElem?_eq_getElem (by omega)⟩
      obtain ⟨qf, rfl, cx⟩ := Hf.out b x hx
      have cx : wr.cell? (qf.add b) = some (.bool x) := (World.cell?_of_block (w := w) (F.out.block _ (World.block_lt_of_cell? w _ cx) (World.block_lt_of_cell? w _ cx))).trans cx
      have HSB : Hid (withB f i false j = x) := by rw [HWB.out, if_neg (by simp), ha, hb, List.getD_eq_getElem?_getD, hx]; rfl
      clear B F hx ha hb hQa
      go_wp2_with fail
      go_roundg k
      case measure => omega
      case rel => exact ⟨j + 1, by simp, by omega, B2.out _ HSB.out.symm, F2.out _⟩
  · have hjl : ¬ (j : Int) < (N : Int) := by omega
    obtain rfl : j = N := by omega
    go_wp2_with fail
    go_ret
    have h1 := B.out.bv j
    rw [fillL_end, List.length_map, List.length_range] at h1
    exact ⟨_, rfl, ⟨h1, _, _, rfl⟩, ⟨F.out.os, F.out.tape, F.out.output, F.out.size, fun b hb _ => F.out.block b hb hb⟩⟩
theorem rWith_any (w : World) (vf : Value) (f : List Bool) (n i : Nat) (hn : n ≤ 9) (hi : i < n) (hf : BV w vf f) (lf : f.length = 2 ^ n) (v : Bool) :
 Calls Tryz.prog 70 #[vf, .int .i64 (i : Int), .bool v] w fun e w' => ∃ r, e = .returned r ∧ BV w' r (withL f i v) ∧ Fr (fun _ => True) w w' := by
 refine (rWith_new w vf f n i hn hi hf lf v).mono ?_
 rintro e w' ⟨r, rfl, ⟨h1, _⟩, h2⟩
 exact ⟨r, rfl, h1, h2⟩
end Go.Proofs.YtaakjjefnjbabaaGreat.Sx
namespace Go.Proofs.YtaakjjefnjbabaaGreat.Sx
open Go.RowKit Go.Sort Go.Maps Go.WideMaps
theorem drewN2 (w : World) (m k : Nat) : (w.drewN m).drewN k = w.drewN (m + k) := by simp
theorem withL_len (f : List Bool) (i : Nat) (v : Bool) : (withL f i v).length = f.length := by unfold withL; simp
theorem iteL_len (f g h : List Bool) : (iteL f g h).length = f.length := by unfold iteL; simp
def overB (f : List Bool) (i : Nat) (some : Bool) (k : Nat) : Bool := (withL f i false).getD k false && (withL f i true).getD k false || some && ((withL f i false).getD k false || (withL f i true).getD k false)
def overL (n : Nat) (f : List Bool) (i : Int) (some : Bool) : List Bool := if 0 ≤ i ∧ i < (n : Int) then (List.range f.length).map (overB f i.toNat some) else f
def letL (n : Nat) (f : List Bool) (i : Int) (g : List Bool) : List Bool := if 0 ≤ i ∧ i < (n : Int) then iteL g (withL f i.toNat true) (withL f i.toNat false) else f
theorem overL_len (n : Nat) (f : List Bool) (i : Int) (s : Bool) : (overL n f i s).length = f.length := by unfold overL; split <;> simp
theorem letL_len {n : Nat} {f g : List Bool} (i : Int) (h : g.length = f.length) : (letL n f i g).length = f.length := by unfold letL; split <;> simp [iteL_len, h]
set_option maxHeartbeats 4000000 in
theorem rOver_any (w : World) (vf : Value) (f : List Bool) (n : Nat) (i : Int) (hn : n ≤ 9) (hf : BV w vf f) (lf : f.length = 2 ^ n) (some : Bool) :
 Calls Tryz.prog 37 #[.int .i64 (n : Int), vf, .int .i64 i, .bool some] w fun e w' => ∃ r, e = .returned r ∧ (BV w' r (overL n f i some) ∧ (r = vf ∨ New w r)) ∧ Fr (fun _ => True) w w' := by
 by_cases hr : 0 ≤ i ∧ i < (n : Int)
 case neg =>
  unfold overL
  rw [if_neg hr]
  have HF : Hid (BV w vf f) := hf
  have mo := follows
  clear hf
  by_cases h0 : i < 0
  · go_enter Tryz.func37, Tryz.ntmps37
    go_wp2_with fail
    go_ret
    exact ⟨_, rfl, ⟨HF.out, .inl rfl⟩, Fr.refl _ _⟩
  · have h1 : i ≥ (n : Int) := by omega
    go_enter Tryz.func37, Tryz.ntmps37
    go_wp2_with fail
    go_ret
    exact ⟨_, rfl, ⟨HF.out, .inl rfl⟩, Fr.refl _ _⟩
 obtain ⟨a, rfl⟩ : ∃ a : Nat, i = (a : Int) := ⟨i.toNat, by omega⟩
 have han : a < n := by omega
 have hg1 : ¬ (a : Int) < 0 := by omega
 have hg2 : ¬ (a : Int) ≥ (n : Int) := by omega
 unfold overL
 rw [if_pos hr, Int.toNat_natCast]
 have HC1 : Hid (Calls _ _ _ _ _) := rWith_any w vf f n a hn han hf lf false
 have HC2 : Hid (∀ w1, Fr (fun _ => True) w w1 → Calls Tryz.prog 70 #[vf, .int .i64 (a : Int), .bool true] w1 fun e w' => ∃ r, e = .returned r ∧ BV w' r (withL f a true) ∧ Fr (fun _ => True) w1 w') := fun w1 F => rWith_any w1 vf f n a hn han (hf.fr F) lf true
 have hN2 := pow9 hn
 obtain ⟨N, hN⟩ : ∃ N, 2 ^ n = N := ⟨_, rfl⟩
 rw [hN] at hN2 lf
 obtain ⟨fa, fc, rfl, -⟩ := hf
 have la : (withL f a false).length = N := by rw [withL_len, lf]
 have lb : (withL f a true).length = N := by rw [withL_len, lf]
 have HSB : Hid (∀ j x y, (withL f a false).getD j false = x → (withL f a true).getD j false = y → overB f a some j = (x && y || some && (x || y))) := fun j x y hx hy => by unfold overB; rw [hx, hy]
 rw [lf] at HC1 HC2 ⊢
 have HMK : Hid (∀ w, (Instr.makeSlice 28 (.int .i64 (N : Int)) (.int .i64 (N : Int))).run Tryz.prog w = .ok (.slice (.some ⟨w.heap.size, 0, none⟩) N N) (w.alloc (.cells (Array.replicate N (.bool false)) 4))) := fun w => make_bools w N (by omega)
 generalize overB f a some = PHI at HSB ⊢
 have mo := follows
 clear hN
 go_enter Tryz.func37, Tryz.ntmps37
 go_wp2_with fail
 refine HC1.out.mono ?_
 rintro e w1 ⟨r1, rfl, hb1, hf1⟩
 have HC3 : Hid (Calls _ _ _ _ _) := HC2.out w1 hf1
 have F01 : Hid (Fr (fun _ => True) w w1) := hf1
 have B01 : Hid (BV w1 r1 (withL f a false)) := hb1
 clear hf1 hb1 HC1 HC2
 go_wp2_with fail
 refine HC3.out.mono ?_
 rintro e w2 ⟨r2, rfl, hb2, hf2⟩
 have F02 : Hid (Fr (fun _ => True) w w2) := F01.out.trans hf2
 have hb1 := B01.out.fr hf2
 generalize withL f a false = g at *
 generalize withL f a true = h at *
 obtain ⟨ga, gc, rfl, cg⟩ := hb1.old
 obtain ⟨ha, hc, rfl, ch⟩ := hb2.old
 have Hg : Hid (∀ (i : Nat) (x : Bool), g[i]? = .some x → ∃ q, ga = .some q ∧ w2.cell? (q.add i) = .some (.bool x)) := cg
 have Hh : Hid (∀ (i : Nat) (x : Bool), h[i]? = .some x → ∃ q, ha = .some q ∧ w2.cell? (q.add i) = .some (.bool x)) := ch
 clear hf2 cg ch F01 B01 HC3
 have m1 := HMK.out w2
 clear HMK
 rw [la, lb]
 go_wp2_with fail
 clear m1
 have W1 : Hid (BBlk (w2.alloc (.cells (Array.replicate N (.bool false)) 4)) w2.heap.size (fillL (PHI) N 0)) := by rw [fillL_zero]; exact BBlk.zero w2 N
 have F1 : Hid (Fr (fun b => b < w2.heap.size) w2 (w2.alloc (.cells (Array.replicate N (.bool false)) 4))) := (Fr.refl _ w2).alloc _
 generalize w2.alloc (.cells (Array.replicate N (.bool false)) 4) = Wa at W1 F1 ⊢
 go_loopg [12] (N) (fun k s12 wr => ∃ j : Nat, s12 = .int .i64 (j : Int) ∧ j + k = N ∧ Hid (BBlk wr w2.heap.size (fillL (PHI) N j)) ∧ Hid (Fr (fun b => b < w2.heap.size) w2 wr))
 case atStart => exact ⟨0, rfl, by omega, W1, F1⟩
 case round =>
  clear W1 F1
  obtain ⟨j, rfl, hjk, B, F⟩ := hrel
  by_cases hj : j < N
  · obtain ⟨k, rfl⟩ : ∃ k, gk = k + 1 := ⟨gk - 1, by omega⟩
    have hjl : (j : Int) < (N : Int) := by omega
    have hj0 : (0 : Int) ≤ (j : Int) := by omega
    have c0 := B.out.cell (fillL_at hj)
    have z0 := B.out.frz j
    have B2 : Hid (∀ vv, vv = (PHI) j → BBlk (wr.setCell ⟨w2.heap.size, j, none⟩ (.bool vv)) w2.heap.size (fillL (PHI) N (j + 1))) := fun vv hv => by
     have := B.out.set j vv
     rw [hv, show (fillL (PHI) N j).set j ((PHI) j) = _ from fillL_set (φ := (PHI)) hj] at this
     rw [hv]
     exact this
    have F2 : Hid (∀ v, Fr (fun b => b < w2.heap.size) w2 (wr.setCell ⟨w2.heap.size, j, none⟩ v)) := fun v => F.out.set (by simp) _
    obtain ⟨x, hx⟩ : ∃ x, g[j]? = .some x := ⟨_, List.getElem?_eq_getElem (by omega)⟩
    obtain ⟨qg, rfl, cx⟩ := Hg.out j x hx
    have cx : wr.cell? (qg.add j) = .some (.bool x) := (World.cell?_of_block (w := w2) (F.out.block _ (World.block_lt_of_cell? w2 _ cx) (World.block_lt_of_cell? w2 _ cx))).trans cx
    have gx : g.getD j false = x := by rw [List.getD_eq_getElem?_getD, hx]; rfl
    obtain ⟨y, hy⟩ : ∃ y, h[j]? = .some y := ⟨_, List.getElem?_eq_getElem (by omega)⟩
    obtain ⟨qh, rfl, cy⟩ := Hh.out j y hy
    have cy : wr.cell? (qh.add j) = .some (.bool y) := (World.cell?_of_block (w := w2) (F.out.block _ (World.block_lt_of_cell? w2 _ cy) (World.block_lt_of_cell? w2 _ cy))).trans cy
    have gy : h.getD j false = y := by rw [List.getD_eq_getElem?_getD, hy]; rfl
    have HSB : Hid (PHI j = (x && y || some && (x || y))) := HSB.out j x y gx gy
    clear B F hx hy gx gy
    cases x <;> cases y <;> cases some
    all_goals
     go_wp2_with fail
     go_roundg k
     case measure => omega
     case rel => exact ⟨j + 1, by simp, by omega, B2.out _ (by rw [HSB.out]; rfl), F2.out _⟩
  · have hjl : ¬ (j : Int) < (N : Int) := by omega
    obtain rfl : j = N := by omega
    go_wp2_with fail
    go_ret
    have h1 := B.out.bv j
    rw [fillL_end, List.length_map, List.length_range] at h1
    exact ⟨_, rfl, ⟨h1, .inr ⟨_, _, _, rfl, F02.out.size⟩⟩, F02.out.trans ⟨F.out.os, F.out.tape, F.out.output, F.out.size, fun b hb _ => F.out.block b hb hb⟩⟩
set_option maxHeartbeats 4000000 in
theorem rLet_any (w : World) (vf vg : Value) (f g : List Bool) (n : Nat) (i : Int) (hn : n ≤ 9) (hf : BV w vf f) (lf : f.length = 2 ^ n) (hg : BV w vg g) (lg : g.length = 2 ^ n) :
 Calls Tryz.prog 39 #[.int .i64 (n : Int), vf, .int .i64 i, vg] w fun e w' => ∃ r, e = .returned r ∧ (BV w' r (letL n f i g) ∧ (r = vf ∨ New w r)) ∧ Fr (fun _ => True) w w' := by
 by_cases hr : 0 ≤ i ∧ i < (n : Int)
 case neg =>
  unfold letL
  rw [if_neg hr]
  have HF : Hid (BV w vf f) := hf
  have mo := follows
  clear hf hg
  by_cases h0 : i < 0
  · go_enter Tryz.func39, Tryz.ntmps39
    go_wp2_with fail
    go_ret
    exact ⟨_, rfl, ⟨HF.out, .inl rfl⟩, Fr.refl _ _⟩
  · have h1 : i ≥ (n : Int) := by omega
    go_enter Tryz.func39, Tryz.ntmps39
    go_wp2_with fail
    go_ret
    exact ⟨_, rfl, ⟨HF.out, .inl rfl⟩, Fr.refl _ _⟩
 obtain ⟨a, rfl⟩ : ∃ a : Nat, i = (a : Int) := ⟨i.toNat, by omega⟩
 have han : a < n := by omega
 have hg1 : ¬ (a : Int) < 0 := by omega
 have hg2 : ¬ (a : Int) ≥ (n : Int) := by omega
 unfold letL
 rw [if_pos hr, Int.toNat_natCast]
 have HC1 : Hid (Calls _ _ _ _ _) := rWith_any w vf f n a hn han hf lf true
 have HC2 : Hid (∀ w1, Fr (fun _ => True) w w1 → Calls Tryz.prog 70 #[vf, .int .i64 (a : Int), .bool false] w1 fun e w' => ∃ r, e = .returned r ∧ BV w' r (withL f a false) ∧ Fr (fun _ => True) w1 w') := fun w1 F => rWith_any w1 vf f n a hn han (hf.fr F) lf false
 have hN2 := pow9 hn
 have HC3 : Hid (∀ w1 v1 v2, Fr (fun _ => True) w w1 → BV w1 v1 (withL f a true) → BV w1 v2 (withL f a false) → Calls Tryz.prog 30 #[vg, v1, v2] w1 fun e w' => ∃ r, e = .returned r ∧ (BV w' r (iteL g (withL f a true) (withL f a false)) ∧ New w1 r) ∧ Fr (fun _ => True) w1 w') := fun w1 v1 v2 F h1 h2 => rIte_any w1 vg v1 v2 g _ _ (2 ^ n) (by omega) (hg.fr F) h1 h2 lg (by rw [withL_len, lf]) (by rw [withL_len, lf])
 have mo := follows
 clear hf hg hN2 lf lg
 go_enter Tryz.func39, Tryz.ntmps39
 go_wp2_with fail
 refine HC1.out.mono ?_
 rintro e w1 ⟨r1, rfl, hb1, hf1⟩
 have HC4 : Hid (Calls _ _ _ _ _) := HC2.out w1 hf1
 have F01 : Hid (Fr (fun _ => True) w w1) := hf1
 have B01 : Hid (BV w1 r1 (withL f a true)) := hb1
 clear hf1 hb1 HC1 HC2
 go_wp2_with fail
 refine HC4.out.mono ?_
 rintro e w2 ⟨r2, rfl, hb2, hf2⟩
 have F02 : Hid (Fr (fun _ => True) w w2) := F01.out.trans hf2
 have HC5 : Hid (Calls _ _ _ _ _) := HC3.out w2 r1 r2 F02.out (B01.out.fr hf2) hb2
 clear hf2 hb2 F01 B01 HC3 HC4
 go_wp2_with fail
 refine HC5.out.mono ?_
 rintro e w3 ⟨r3, rfl, ⟨hb3, hn3⟩, hf3⟩
 have N03 : Hid (New w r3) := hn3.mono F02.out.size
 have F03 : Hid (Fr (fun _ => True) w w3) := F02.out.trans hf3
 have B03 : Hid (BV w3 r3 (iteL g (withL f a true) (withL f a false))) := hb3
 clear hf3 hb3 hn3
 go_wp2_with fail
 go_ret
 exact ⟨_, rfl, ⟨B03.out, .inr N03.out⟩, F03.out⟩
set_option maxHeartbeats 4000000 in
theorem rSame_any (w : World) (vf vg : Value) (f g : List Bool) (hl : f.length ≤ 65536) (hf : BV w vf f) (hg : BV w vg g) :
 Calls Tryz.prog 41 #[vf, vg] w fun e w' => e = .returned (.bool (decide (f = g))) ∧ ∃ m, w' = w.drewN m := by
 obtain ⟨fa, fc, rfl, cf⟩ := hf.old
 obtain ⟨ga, gc, rfl, cg⟩ := hg.old
 have Hf : Hid (∀ (i : Nat) (x : Bool), f[i]? = some x → ∃ q, fa = some q ∧ w.cell? (q.add i) = some (.bool x)) := cf
 have Hg : Hid (∀ (i : Nat) (x : Bool), g[i]? = some x → ∃ q, ga = some q ∧ w.cell? (q.add i) = some (.bool x)) := cg
 obtain ⟨N, hN⟩ : ∃ N, f.length = N := ⟨_, rfl⟩
 obtain ⟨K, hK⟩ : ∃ K, g.length = K := ⟨_, rfl⟩
 by_cases hne : f.length = g.length
 case neg =>
  have HE : Hid (decide (f = g) = false) := decide_eq_false fun e => hne (by rw [e])
  rw [hN, hK] at hne
  have hne' : (N : Int) ≠ (K : Int) := by omega
  rw [hN, hK]
  have mo := follows
  clear cf cg Hf Hg hne hN hK
  go_enter Tryz.func41, Tryz.ntmps41
  go_wp2_with fail
  go_ret
  exact ⟨congrArg (fun b => Ending.returned (Value.bool b)) HE.out.symm, 0, rfl⟩
 have hfg : g.length = N := by omega
 rw [hN] at hl
 rw [hN, hfg]
 have HPE : Hid (∀ j : Nat, (∀ i, i < j → f.getD i false = g.getD i false) → j = N → f = g) := fun j h e => by
  refine List.ext_getElem (by omega) fun i h1 h2 => ?_
  have := h i (by omega)
  rw [List.getD_eq_getElem?_getD, List.getD_eq_getElem?_getD, List.getElem?_eq_getElem h1, List.getElem?_eq_getElem h2] at this
  simpa using this
 clear cf cg hne hK
 have mo := follows
 go_enter Tryz.func41, Tryz.ntmps41
 go_wp2_with fail
 go_loopg [5] (N) (fun k s5 wr => ∃ j : Nat, s5 = .int .i64 (j : Int) ∧ j + k = N ∧ Hid (∀ i, i < j → f.getD i false = g.getD i false) ∧ ∃ m, wr = w.drewN m)
 case atStart => exact ⟨0, rfl, by omega, fun i h => by omega, 0, rfl⟩
 case round =>
  obtain ⟨j, rfl, hjk, E, m, rfl⟩ := hrel
  by_cases hj : j < N
  · obtain ⟨k, rfl⟩ : ∃ k, gk = k + 1 := ⟨gk - 1, by omega⟩
    have hjl : (j : Int) < (N : Int) := by omega
    have hj0 : (0 : Int) ≤ (j : Int) := by omega
    obtain ⟨x, hx⟩ : ∃ x, f[j]? = some x := ⟨_, List.getElem?_eq_getElem (by omega)⟩
    obtain ⟨q, rfl, cx⟩ := Hf.out j x hx
    have cx : (w.drewN m).cell? (q.add j) = some (.bool x) := cx
    obtain ⟨y, hy⟩ : ∃ y, g[j]? = some y := ⟨_, List.getElem?_eq_getElem (by omega)⟩
    obtain ⟨p, rfl, cy⟩ := Hg.out j y hy
    have cy : (w.drewN m).cell? (p.add j) = some (.bool y) := cy
    have gx : f.getD j false = x := by rw [List.getD_eq_getElem?_getD, hx]; rfl
    have gy : g.getD j false = y := by rw [List.getD_eq_getElem?_getD, hy]; rfl
    by_cases hxy : x = y
    · have E2 : Hid (∀ i, i < j + 1 → f.getD i false = g.getD i false) := fun i hi => by
       by_cases h : i < j
       · exact E.out i h
       · obtain rfl : i = j := by omega
         rw [gx, gy, hxy]
      subst hxy
      clear E hx hy gx gy hN hfg
      go_wp2_with fail
      go_quiet (fail)
      go_wp2_with fail
      go_roundg k
      case measure => omega
      case rel => exact ⟨j + 1, by simp, by omega, E2, _, rfl⟩
    · have HE : Hid (decide (f = g) = false) := decide_eq_false fun e => hxy (by rw [← gx, ← gy, e])
      clear E hx hy gx gy hN hfg
      cases x <;> cases y <;> (try exact absurd rfl hxy)
      all_goals
       clear hxy
       go_wp2_with fail
       go_quiet (fail)
       go_wp2_with fail
       go_ret
       exact ⟨congrArg (fun b => Ending.returned (Value.bool b)) HE.out.symm, _, drewN2 _ _ _⟩
  · have hjl : ¬ (j : Int) < (N : Int) := by omega
    have HE : Hid (decide (f = g) = true) := decide_eq_true (HPE.out j E.out (by omega))
    go_wp2_with fail
    go_ret
    exact ⟨congrArg (fun b => Ending.returned (Value.bool b)) HE.out.symm, m, rfl⟩
def hangB (f : List Bool) (i : Nat) (k : Nat) : Bool := f.getD k false != f.getD (k ^^^ 2 ^ i) false
def hangL (f : List Bool) (i : Nat) : Bool := (List.range f.length).any (hangB f i)
theorem xor_lt {j i n : Nat} (hj : j < 2 ^ n) (hi : i < n) : j ^^^ 2 ^ i < 2 ^ n := Nat.xor_lt_two_pow hj (Nat.pow_lt_pow_right (by omega) hi)
theorem bits_xor (a b : Nat) (ha : a < 2 ^ 40) (hb : b < 2 ^ 40) : bits .xor .i64 (a : Int) (b : Int) = ((a ^^^ b : Nat) : Int) := by
 have ha' : a % 2 ^ IntKind.i64.bits = a := Nat.mod_eq_of_lt (by show a < 2 ^ 64; omega)
 have hb' : b % 2 ^ IntKind.i64.bits = b := Nat.mod_eq_of_lt (by show b < 2 ^ 64; omega)
 have hx := Nat.xor_lt_two_pow ha hb
 simp only [bits, BitVec.ofInt_natCast, BitVec.toNat_xor, BitVec.toNat_ofNat, ha', hb']
 rw [IntKind.wrap_i64]; omega
theorem any_none {φ : Nat → Bool} {N j : Nat} (h : ∀ i, i < j → φ i = false) (e : j = N) : (List.range N).any φ = false := by
 rw [List.any_eq_false]
 intro i hi
 rw [h i (by have := List.mem_range.1 hi; omega)]
 simp
set_option maxHeartbeats 4000000 in
theorem rHangs_any (w : World) (vf : Value) (f : List Bool) (n i : Nat) (hn : n ≤ 9) (hi : i < n) (hf : BV w vf f) (lf : f.length = 2 ^ n) :
 Calls Tryz.prog 85 #[vf, .int .i64 (i : Int)] w fun e w' => e = .returned (.bool (hangL f i)) ∧ ∃ m, w' = w.drewN m := by
 obtain ⟨fa, fc, rfl, cf⟩ := hf.old
 have Hf : Hid (∀ (i : Nat) (x : Bool), f[i]? = some x → ∃ q, fa = some q ∧ w.cell? (q.add i) = some (.bool x)) := cf
 have hN2 := pow9 hn
 have hp := wrap_pow i (by omega)
 have HXL : Hid (∀ j, j < 2 ^ n → j ^^^ 2 ^ i < 2 ^ n) := fun j hj => xor_lt hj hi
 obtain ⟨N, hN⟩ : ∃ N, 2 ^ n = N := ⟨_, rfl⟩
 obtain ⟨Q, hQ⟩ : ∃ Q, 2 ^ i = Q := ⟨_, rfl⟩
 have hQ2 : Q ≤ 512 := by rw [← hQ]; exact pow9 (by omega)
 have HWB : Hid (∀ j, hangB f i j = (f.getD j false != f.getD (j ^^^ Q) false)) := fun j => by unfold hangB; rw [hQ]
 rw [hN] at hN2 lf HXL
 rw [hQ] at hp HXL
 unfold hangL
 rw [lf]
 have mo := follows
 clear cf hN hQ
 go_enter Tryz.func85, Tryz.ntmps85
 go_wp2_with fail
 go_loopg [5] (N) (fun k s5 wr => ∃ j : Nat, s5 = .int .i64 (j : Int) ∧ j + k = N ∧ Hid (∀ i', i' < j → hangB f i i' = false) ∧ ∃ m, wr = w.drewN m)
 case atStart => exact ⟨0, rfl, by omega, fun i h => by omega, 0, rfl⟩
 case round =>
  obtain ⟨j, rfl, hjk, E, m, rfl⟩ := hrel
  by_cases hj : j < N
  · obtain ⟨k, rfl⟩ : ∃ k, gk = k + 1 := ⟨gk - 1, by omega⟩
    have hjl : (j : Int) < (N : Int) := by omega
    have hj0 : (0 : Int) ≤ (j : Int) := by omega
    have haN := HXL.out j hj
    obtain ⟨a, ha⟩ : ∃ a, j ^^^ Q = a := ⟨_, rfl⟩
    rw [ha] at haN
    have hxor := bits_xor j Q (by omega) (by omega)
    rw [ha] at hxor
    have h1 : (a : Int) < (N : Int) := by omega
    have h2 : (0 : Int) ≤ (a : Int) := by omega
    obtain ⟨x, hx⟩ : ∃ x, f[j]? = some x := ⟨_, List.getElem?_eq_getElem (by omega)⟩
    obtain ⟨q, rfl, cx⟩ := Hf.out j x hx
    have cx : (w.drewN m).cell? (q.add j) = some (.bool x) := cx
    obtain ⟨y, hy⟩ : ∃ y, f[a]? = some y := ⟨_, List.getElem?_eq_getElem (by omega)⟩
    obtain ⟨p, hp2, cy⟩ := Hf.out a y hy
    cases hp2
    have cy : (w.drewN m).cell? (q.add a) = some (.bool y) := cy
    have gxy : hangB f i j = (x != y) := by rw [HWB.out, ha, List.getD_eq_getElem?_getD, List.getD_eq_getElem?_getD, hx, hy]; rfl
    by_cases hxy : x = y
    · have E2 : Hid (∀ i', i' < j + 1 → hangB f i i' = false) := fun i' hi' => by
       by_cases h : i' < j
       · exact E.out i' h
       · obtain rfl : i' = j := by omega
         rw [gxy, hxy]; simp
      subst hxy
      clear E hx hy gxy ha haN
      go_wp2_with fail
      go_quiet (fail)
      go_wp2_with fail
      go_roundg k
      case measure => omega
      case rel => exact ⟨j + 1, by simp, by omega, E2, _, rfl⟩
    · have HE : Hid ((List.range N).any (hangB f i) = true) := List.any_eq_true.2 ⟨j, List.mem_range.2 hj, by rw [gxy]; simp [hxy]⟩
      clear E hx hy gxy ha haN
      cases x <;> cases y <;> (try exact absurd rfl hxy)
      all_goals
       clear hxy
       go_wp2_with fail
       go_quiet (fail)
       go_wp2_with fail
       go_ret
       exact ⟨congrArg (fun b => Ending.returned (Value.bool b)) HE.out.symm, _, drewN2 _ _ _⟩
  · have hjl : ¬ (j : Int) < (N : Int) := by omega
    have HE : Hid ((List.range N).any (hangB f i) = false) := any_none E.out (by omega)
    go_wp2_with fail
    go_ret
    exact ⟨congrArg (fun b => Ending.returned (Value.bool b)) HE.out.symm, m, rfl⟩
def cntL (f : List Bool) : Nat := f.countP id
theorem cntL_step {f : List Bool} {j : Nat} {x : Bool} (h : f[j]? = some x) : cntL (f.take (j + 1)) = cntL (f.take j) + (if x then 1 else 0) := by
 unfold cntL
 rw [List.take_add_one, h, List.countP_append]
 cases x <;> simp
theorem cntL_le (f : List Bool) : cntL f ≤ f.length := List.countP_le_length
set_option maxHeartbeats 4000000 in
theorem rCount_any (w : World) (vf : Value) (f : List Bool) (hl : f.length ≤ 65536) (hf : BV w vf f) :
 Calls Tryz.prog 43 #[vf] w fun e w' => e = .returned (.int .i64 (cntL f : Int)) ∧ w' = w := by
 obtain ⟨fa, fc, rfl, cf⟩ := hf.old
 have Hf : Hid (∀ (i : Nat) (x : Bool), f[i]? = some x → ∃ q, fa = some q ∧ w.cell? (q.add i) = some (.bool x)) := cf
 obtain ⟨N, hN⟩ : ∃ N, f.length = N := ⟨_, rfl⟩
 have HLN : Hid (f.length = N) := hN
 rw [hN] at hl ⊢
 have mo := follows
 clear cf hN
 go_enter Tryz.func43, Tryz.ntmps43
 go_wp2_with fail
 go_loopg [3, 4] (N) (fun k s3 s4 wr => ∃ j : Nat, s4 = .int .i64 (j : Int) ∧ s3 = .int .i64 (cntL (f.take j) : Int) ∧ j + k = N ∧ wr = w)
 case atStart => exact ⟨0, rfl, rfl, by omega, rfl⟩
 case round =>
  obtain ⟨j, rfl, rfl, hjk, rfl⟩ := hrel
  by_cases hj : j < N
  · obtain ⟨k, rfl⟩ : ∃ k, gk = k + 1 := ⟨gk - 1, by omega⟩
    have hjl : (j : Int) < (N : Int) := by omega
    have hj0 : (0 : Int) ≤ (j : Int) := by omega
    obtain ⟨x, hx⟩ : ∃ x, f[j]? = some x := ⟨_, List.getElem?_eq_getElem (by have := HLN.out; omega)⟩
    obtain ⟨q, rfl, cx⟩ := Hf.out j x hx
    have HS : Hid (cntL (f.take (j + 1)) = cntL (f.take j) + (if x then 1 else 0)) := cntL_step hx
    have hc := cntL_le (f.take j)
    rw [List.length_take] at hc
    have hc2 : cntL (f.take j) ≤ 65536 := by omega
    obtain ⟨c, hcc⟩ : ∃ c, cntL (f.take j) = c := ⟨_, rfl⟩
    rw [hcc] at hc2 HS ⊢
    clear hc hx hcc
    cases x
    all_goals
     go_wp2_with fail
     go_roundg k
     case measure => omega
     case rel => exact ⟨j + 1, by simp, by rw [HS.out]; simp, by omega, rfl⟩
  · have hjl : ¬ (j : Int) < (N : Int) := by omega
    have HE : Hid (f.take j = f) := List.take_of_length_le (by have := HLN.out; omega)
    go_wp2_with fail
    go_ret
    exact ⟨congrArg (fun l => Ending.returned (Value.int .i64 (cntL l : Int))) HE.out, rfl⟩
end Go.Proofs.YtaakjjefnjbabaaGreat.Sx
