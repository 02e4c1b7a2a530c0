/- A table: a node asks something. -/
import Derived.Test.YtkbomifmijafgaaDoorT3
import Derived.Shelf.RegionOpenPlain
import Derived.Deep.RegionHeld3
namespace Go.Proofs.YtkbomifmijafgaaDoor.Sx
open Go.RowKit Go.Sort Go.Maps Go.WideMaps

/-- what a node asks, as a key -/
def askV (a : Int) (l h : Nat) : Value := .agg #[.int .i64 a, .int .i64 (l : Int), .int .i64 (h : Int)]

set_option maxRecDepth 100000 in
set_option maxHeartbeats 1000000 in
theorem lay_any (T : TL) (w : World) (R : List Rw) (M Fo : List (Value × Value)) (fr : List Nat) (h : Tab T w R M Fo fr) (f : Nat) (ab : Int) (lo hh : Nat) (r r1 r2 : Rw) (hab : Fits ab) (hlo : lo ≤ 1000) (hhi : hh ≤ 1000)
    (hr : R[f]? = some r) (h1 : (R.set f { r with about := ab, low := lo, high := hh })[lo]? = some r1) (h2 : ((R.set f { r with about := ab, low := lo, high := hh }).set lo { r1 with users := r1.users + 1 })[hh]? = some r2) (hu1 : r1.users ≤ 1000) (hu2 : r2.users ≤ 1000)
    (hk : ∀ p ∈ M, p.1 ≠ askV ab lo hh) :
    Calls Tryd.prog 29 #[.pointer (some ⟨T.b, 0, none⟩), .int .i64 (f : Int), askV ab lo hh] w fun e w' => e = .returned (.tuple #[]) ∧ Tab T w' (((R.set f { r with about := ab, low := lo, high := hh }).set lo { r1 with users := r1.users + 1 }).set hh { r2 with users := r2.users + 1 }) (M ++ [(askV ab lo hh, .int .i64 (f : Int))]) Fo fr ∧ Fr (· < T.lo) w w' ∧ Kept w w' := by
  obtain ⟨g, cap, fresh, hG⟩ := h
  have b2 := block_cell hG.blk 2
  have hfl := hG.rows.lt' hr
  have z0 := hG.rows.frz (f * 5)
  have z1 := hG.rows.frz (f * 5 + 1)
  have z2 := hG.rows.frz (f * 5 + 2)
  have c0 := hG.rows.c0 hr
  have c1 := hG.rows.c1 hr
  have c2 := hG.rows.c2 hr
  have HG : Hid (TabG T w g cap fresh R M Fo fr) := hG
  have mo := follows
  unfold askV
  have hsz := block_lt hG.blk
  clear hG
  go_enter Tryd.func29, Tryd.ntmps29
  go_wp2_with fail
  have A0 := block_cell (heap_new (o := .cells #[.int .i64 ab, .int .i64 (lo : Int), .int .i64 (hh : Int)] 44) (rfl : w.heap.size = w.heap.size))
  have HB : Hid (TabG T (w.alloc (.cells #[.int .i64 ab, .int .i64 (lo : Int), .int .i64 (hh : Int)] 44)) g cap fresh R M Fo fr) := HG.out.grew ((Fr.refl _ w).alloc _)
  have HF : Hid (Fr (fun _ => True) w (w.alloc (.cells #[.int .i64 ab, .int .i64 (lo : Int), .int .i64 (hh : Int)] 44))) := (Fr.refl _ w).alloc _
  have hBk : Hid ((w.alloc (.cells #[.int .i64 ab, .int .i64 (lo : Int), .int .i64 (hh : Int)] 44)).heap[w.heap.size]? = some (.cells #[.int .i64 ab, .int .i64 (lo : Int), .int .i64 (hh : Int)] 44 (0, 0))) := heap_new rfl
  have hga : g < w.heap.size := HG.out.rows.lt
  clear b2 z0 z1 z2 c0 c1 c2 A0 HG
  generalize (w.alloc (.cells #[.int .i64 ab, .int .i64 (lo : Int), .int .i64 (hh : Int)] 44)) = W at HB HF hBk ⊢
  obtain ⟨ba, hba⟩ : ∃ ba, w.heap.size = ba := ⟨_, rfl⟩
  rw [hba] at hBk hga hsz ⊢
  have HD : Hid (TabG T W.drew g cap fresh R M Fo fr) := HB.out.grew (Fr.refl _ W).drew
  have hBd : W.drew.heap[ba]? = some (.cells #[.int .i64 ab, .int .i64 (lo : Int), .int .i64 (hh : Int)] 44 (0, 0)) := hBk.out
  have b2 := block_cell HB.out.blk 2
  have b2d := block_cell HD.out.blk 2
  have a0 := block_cell hBk.out 0
  have a1 := block_cell hBk.out 1
  have a2 := block_cell hBk.out 2
  have a0d := block_cell hBd 0
  have a1d := block_cell hBd 1
  have a2d := block_cell hBd 2
  have z0 := HB.out.rows.frz (f * 5)
  have z1 := HB.out.rows.frz (f * 5 + 1)
  have z2 := HB.out.rows.frz (f * 5 + 2)
  have z0d := HD.out.rows.frz (f * 5)
  have z1d := HD.out.rows.frz (f * 5 + 1)
  have z2d := HD.out.rows.frz (f * 5 + 2)
  have c0 := HB.out.rows.c0 hr
  have c1 := HB.out.rows.c1 hr
  have c2 := HB.out.rows.c2 hr
  have c0d := HD.out.rows.c0 hr
  have c1d := HD.out.rows.c1 hr
  have c2d := HD.out.rows.c2 hr
  have hgb : g ≠ ba := by omega
  have hbb : T.b ≠ ba := by omega
  clear hBd
  go_big_region_o
  have e1 : ((R.set f { r with about := ab }).set f { r with about := ab, low := lo }).set f { r with about := ab, low := lo, high := hh } = R.set f { r with about := ab, low := lo, high := hh } := by simp
  have q1 := HB.out.set { r with about := ab } (j := 0) (v := .int .i64 ab) hr (by omega) rfl
  have q2 := q1.set { r with about := ab, low := lo } (j := 1) (v := .int .i64 (lo : Int)) (List.getElem?_set_self hfl) (by omega) rfl
  have q3 := q2.set { r with about := ab, low := lo, high := hh } (j := 2) (v := .int .i64 (hh : Int)) (List.getElem?_set_self (by simpa using hfl)) (by omega) rfl
  rw [e1] at q3
  have HX : Hid (TabG _ _ _ _ _ _ _ _ _) := q3
  have f3 : Fr (· ≠ g) W (((W.setCell ⟨g, f * 5, none⟩ (.int .i64 ab)).setCell ⟨g, f * 5 + 1, none⟩ (.int .i64 (lo : Int))).setCell ⟨g, f * 5 + 2, none⟩ (.int .i64 (hh : Int))) := (((Fr.refl _ W).set (by simp) _).set (by simp) _).set (by simp) _
  have hge := HB.out.rows.ge
  have klo := HB.out.ok.lob
  have kb := HB.out.ok.b
  have k3 := HB.out.ok.mb
  have klm := HB.out.ok.lomb
  have F3 : Hid (Fr (· < T.lo) w _) := (HF.out.mono fun _ _ => trivial).trans (f3.mono fun k hk => by omega)
  have K3 : Hid (Kept w _) := (Kept.fr HF.out).trans (HB.out.keptG f3)
  have B3 : Hid (_ = _) := (f3.block ba (block_lt hBk.out) (Ne.symm hgb)).trans hBk.out
  clear q1 q2 q3 e1 f3 b2 b2d a0 a1 a2 a0d a1d a2d z0 z1 z2 z0d z1d z2d c0 c1 c2 c0d c1d c2d HB HD HF hBk
  simp only [Nat.add_zero] at HX
  have HX' : Hid (TabG _ _ _ _ _ _ _ _ _) := HX.out.grew (Fr.refl _ _).drew
  have F3' : Hid (Fr (· < T.lo) w _) := F3.out.drew
  have K3' : Hid (Kept w _) := K3.out.trans (Kept.fr (Fr.refl _ _).drew)
  have B3' : Hid ((((W.setCell ⟨g, f * 5, none⟩ (.int .i64 ab)).setCell ⟨g, f * 5 + 1, none⟩ (.int .i64 (lo : Int))).setCell ⟨g, f * 5 + 2, none⟩ (.int .i64 (hh : Int))).drew.heap[ba]? = _) := B3.out
  clear HX F3 B3 K3
  generalize (((W.setCell ⟨g, f * 5, none⟩ (.int .i64 ab)).setCell ⟨g, f * 5 + 1, none⟩ (.int .i64 (lo : Int))).setCell ⟨g, f * 5 + 2, none⟩ (.int .i64 (hh : Int))).drew = W3 at HX' F3' B3' K3' ⊢
  generalize hR1 : R.set f { r with about := ab, low := lo, high := hh } = R1 at HX' h1 h2 ⊢
  have HX : Hid (TabG T W3.drew g cap fresh R1 M Fo fr) := HX'.out.grew (Fr.refl _ _).drew
  have F3 : Hid (Fr (· < T.lo) w W3.drew) := F3'.out.drew
  have B3 : Hid (W3.drew.heap[ba]? = _) := B3'.out
  obtain ⟨W4, hput, hm4, hf4⟩ := HX.out.made.put law44 Tryd.underlying50 (x := .agg #[.int .i64 ab, .int .i64 (lo : Int), .int .i64 (hh : Int)]) (key44 hab ⟨by omega, by omega⟩ ⟨by omega, by omega⟩) hk (.int .i64 (f : Int))
  have X4 : Hid (TabG T W4 g cap fresh R1 (M ++ [(.agg #[.int .i64 ab, .int .i64 (lo : Int), .int .i64 (hh : Int)], .int .i64 (f : Int))]) Fo fr) := HX.out.maps hf4 hm4
  have F4 : Hid (Fr (· < T.lo) w W4) := F3.out.trans (hf4.mono fun k hk => by omega)
  have K4 : Hid (Kept w W4) := (K3'.out.trans (Kept.fr (Fr.refl _ _).drew)).trans (HX.out.keptM hf4)
  have hmk : ba ≠ T.mb := by have := HX.out.ok.hi; have := F3.out.size; omega
  have B4 : Hid (W4.heap[ba]? = some (.cells #[.int .i64 ab, .int .i64 (lo : Int), .int .i64 (hh : Int)] 44 (0, 0))) := (hf4.block ba (block_lt B3.out) hmk).trans B3.out
  have b4 := block_cell HX'.out.blk 4
  have a0 := block_cell B3'.out 0
  have a1 := block_cell B3'.out 1
  have a2 := block_cell B3'.out 2
  have b4d := block_cell HX.out.blk 4
  have a0d := block_cell B3.out 0
  have a1d := block_cell B3.out 1
  have a2d := block_cell B3.out 2
  go_wp2_with fail
  go_big_region_o
  clear b4 a0 a1 a2 b4d a0d a1d a2d hput hm4 hf4 HX F3 B3 HX' F3' B3' K3'
  have hl1 : lo < R1.length := X4.out.rows.lt' h1
  have b2 := block_cell X4.out.blk 2
  have b2d := block_cell (X4.out.grew (Fr.refl _ _).drew).blk 2
  have a1 := block_cell B4.out 1
  have B4d : W4.drew.heap[ba]? = _ := B4.out
  have a1d := block_cell B4d 1
  have c3 := X4.out.rows.c3 h1
  have c3d := (X4.out.grew (Fr.refl _ _).drew).rows.c3 h1
  have z3 := X4.out.rows.frz (lo * 5 + 3)
  have z3d := (X4.out.grew (Fr.refl _ _).drew).rows.frz (lo * 5 + 3)
  have n1 : (0 : Int) ≤ (lo : Int) := by omega
  have hc1 : ((r1.users + 1 : Nat) : Int) = (r1.users : Int) + 1 := by omega
  clear B4d
  go_wp2_with fail
  go_big_region_o
  have q5 := X4.out.set { r1 with users := r1.users + 1 } (j := 3) (v := .int .i64 ((r1.users : Int) + 1)) h1 (by omega) (by simp [rwV])
  have hge5 := X4.out.rows.ge
  have f5 : Fr (· ≠ g) W4 (W4.setCell ⟨g, lo * 5 + 3, none⟩ (.int .i64 ((r1.users : Int) + 1))).drew := ((Fr.refl _ W4).set (by simp) _).drew
  have X5 : Hid (TabG _ _ _ _ _ _ _ _ _) := q5.grew (Fr.refl _ _).drew
  have F5 : Hid (Fr (· < T.lo) w _) := F4.out.trans (f5.mono fun k hk => by omega)
  have K5 : Hid (Kept w _) := K4.out.trans (X4.out.keptG f5)
  have B5 : Hid (_ = _) := (f5.block ba (block_lt B4.out) (Ne.symm hgb)).trans B4.out
  clear q5 f5 b2 b2d a1 a1d c3 c3d z3 z3d n1 X4 F4 B4 hl1 K4
  generalize (W4.setCell ⟨g, lo * 5 + 3, none⟩ (.int .i64 ((r1.users : Int) + 1))).drew = W5 at X5 F5 B5 K5 ⊢
  generalize hR2 : R1.set lo { r1 with users := r1.users + 1 } = R2 at X5 h2 ⊢
  have hl1 : hh < R2.length := X5.out.rows.lt' h2
  have b2 := block_cell X5.out.blk 2
  have b2d := block_cell (X5.out.grew (Fr.refl _ _).drew).blk 2
  have a1 := block_cell B5.out 2
  have B5d : W5.drew.heap[ba]? = _ := B5.out
  have a1d := block_cell B5d 2
  have c3 := X5.out.rows.c3 h2
  have c3d := (X5.out.grew (Fr.refl _ _).drew).rows.c3 h2
  have z3 := X5.out.rows.frz (hh * 5 + 3)
  have z3d := (X5.out.grew (Fr.refl _ _).drew).rows.frz (hh * 5 + 3)
  have n1 : (0 : Int) ≤ (hh : Int) := by omega
  clear B5d
  go_wp2_with fail
  go_big_region_o
  have q6 := X5.out.set { r2 with users := r2.users + 1 } (j := 3) (v := .int .i64 ((r2.users : Int) + 1)) h2 (by omega) (by simp [rwV])
  have f6 : Fr (· ≠ g) W5 (W5.setCell ⟨g, hh * 5 + 3, none⟩ (.int .i64 ((r2.users : Int) + 1))).drew := ((Fr.refl _ W5).set (by simp) _).drew
  have X6 : Hid (TabG _ _ _ _ _ _ _ _ _) := q6.grew (Fr.refl _ _).drew
  have F6 : Hid (Fr (· < T.lo) w _) := F5.out.trans (f6.mono fun k hk => by omega)
  have K6 : Hid (Kept w _) := K5.out.trans (X5.out.keptG f6)
  clear q6 f6 b2 b2d a1 a1d c3 c3d z3 z3d n1 X5 F5 B5 K5
  generalize (W5.setCell ⟨g, hh * 5 + 3, none⟩ (.int .i64 ((r2.users : Int) + 1))).drew = W6 at X6 F6 K6 ⊢
  go_wp2_with fail
  go_end0
  exact ⟨rfl, ⟨_, _, _, by rw [hR1, hR2]; exact X6.out⟩, F6.out, K6.out⟩

end Go.Proofs.YtkbomifmijafgaaDoor.Sx
