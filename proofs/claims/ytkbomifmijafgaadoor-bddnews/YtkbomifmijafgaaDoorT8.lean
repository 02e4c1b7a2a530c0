/- A table: the topmost variable, parts. -/
import Derived.Test.YtkbomifmijafgaaDoorT7
namespace Go.Proofs.YtkbomifmijafgaaDoor.Sx
open Go.RowKit Go.Sort Go.Maps Go.WideMaps

set_option maxRecDepth 100000 in
set_option maxHeartbeats 1000000 in
theorem parts_own (T : TL) (w : World) (R : List Rw) (M Fo : List (Value × Value)) (fr : List Nat) (h : Tab T w R M Fo fr) (f : Nat) (r : Rw) (hr : R[f]? = some r) (ab : Int) (b : Bool) (hb : (r.about == ab) = b) :
    Calls Tryd.prog 40 #[.pointer (some ⟨T.b, 0, none⟩), .int .i64 (f : Int), .int .i64 ab] w fun e w' => e = .returned (.tuple #[.int .i64 ((if b then r.low else f : Nat) : Int), .int .i64 ((if b then r.high else f : Nat) : Int)]) ∧ Fr (fun _ => True) w w' := by
  obtain ⟨g, cap, fresh, hG⟩ := h
  have h2 := block_cell hG.blk 2
  have hf := hG.rows.lt' hr
  have c0 := hG.rows.c0 hr
  have c1 := hG.rows.c1 hr
  have c2 := hG.rows.c2 hr
  clear hG
  have mo := follows
  cases b with
  | true =>
    obtain rfl : r.about = ab := by simpa using hb
    go_enter Tryd.func40, Tryd.ntmps40
    go_wp2_with fail
    have HF : Hid (Fr (fun _ => True) w (w.alloc (.cells #[.int .i64 r.about, .int .i64 (r.low : Int), .int .i64 (r.high : Int)] 44))) := (Fr.refl _ w).alloc _
    have HB : Hid ((w.alloc (.cells #[.int .i64 r.about, .int .i64 (r.low : Int), .int .i64 (r.high : Int)] 44)).heap[w.heap.size]? = some (.cells #[.int .i64 r.about, .int .i64 (r.low : Int), .int .i64 (r.high : Int)] 44 (0, 0))) := heap_new rfl
    clear h2 c0 c1 c2
    generalize (w.alloc (.cells #[.int .i64 r.about, .int .i64 (r.low : Int), .int .i64 (r.high : Int)] 44)) = W at HF HB ⊢
    generalize w.heap.size = ba at HB ⊢
    have HBd : Hid (W.drew.heap[ba]? = _) := HB.out
    have a1 := block_cell HB.out 1
    have a2 := block_cell HB.out 2
    have a1d := block_cell HBd.out 1
    have a2d := block_cell HBd.out 2
    go_big_region_o
    all_goals
      clear a1 a2 a1d a2d
      go_wp2_with fail
      exact bodyPost_ret (v := .tuple #[.int .i64 (r.low : Int), .int .i64 (r.high : Int)]) (by simp [results, Tryd.results40, go_sem]) rfl ⟨rfl, HF.out.drew⟩
  | false =>
    go_enter Tryd.func40, Tryd.ntmps40
    go_wp2_with fail
    exact bodyPost_ret (v := .tuple #[.int .i64 (f : Int), .int .i64 (f : Int)]) (by simp [results, Tryd.results40, go_sem]) rfl ⟨rfl, (Fr.refl _ w).alloc _⟩

theorem idx62_0 (a b c : Value) (w : World) : (Instr.index 62 (.agg #[a, b, c]) (.int .i64 ((0 : Nat) : Int))).run Tryd.prog w = .ok a w := by kernel_rfl
theorem idx62_1 (a b c : Value) (w : World) : (Instr.index 62 (.agg #[a, b, c]) (.int .i64 ((1 : Nat) : Int))).run Tryd.prog w = .ok b w := by kernel_rfl
theorem idx62_2 (a b c : Value) (w : World) : (Instr.index 62 (.agg #[a, b, c]) (.int .i64 ((2 : Nat) : Int))).run Tryd.prog w = .ok c w := by kernel_rfl

def topN (n a0 a1 a2 : Nat) : Nat → Nat
  | 0 => n
  | 1 => min n a0
  | 2 => min (min n a0) a1
  | _ => min (min (min n a0) a1) a2

set_option maxRecDepth 100000 in
set_option maxHeartbeats 1000000 in
theorem top_any (T : TL) (w : World) (R : List Rw) (M Fo : List (Value × Value)) (fr : List Nat) (h : Tab T w R M Fo fr) (f0 f1 f2 a0 a1 a2 : Nat) (r0 r1 r2 : Rw) (hr0 : R[f0]? = some r0) (hr1 : R[f1]? = some r1) (hr2 : R[f2]? = some r2) (e0 : r0.about = (a0 : Int)) (e1 : r1.about = (a1 : Int)) (e2 : r2.about = (a2 : Int)) (l0 : a0 ≤ T.n) (l1 : a1 ≤ T.n) (l2 : a2 ≤ T.n) :
    Calls Tryd.prog 39 #[.pointer (some ⟨T.b, 0, none⟩), .agg #[.int .i64 (f0 : Int), .int .i64 (f1 : Int), .int .i64 (f2 : Int)]] w fun e w' => e = .returned (.int .i64 ((min (min a0 a1) a2 : Nat) : Int)) ∧ Fr (fun _ => True) w w' := by
  obtain ⟨g, cap, fresh, hG⟩ := h
  have HG : Hid (TabG T (w.alloc (.cells #[.int .i64 (f0 : Int), .int .i64 (f1 : Int), .int .i64 (f2 : Int)] 62)) g cap fresh R M Fo fr) := hG.grew ((Fr.refl _ w).alloc _)
  have HF : Hid (Fr (fun _ => True) w (w.alloc (.cells #[.int .i64 (f0 : Int), .int .i64 (f1 : Int), .int .i64 (f2 : Int)] 62))) := (Fr.refl _ w).alloc _
  have h0 := block_cell HG.out.blk 0
  have mo := follows
  clear hG
  go_enter Tryd.func39, Tryd.ntmps39
  go_wp2_with fail
  clear h0
  generalize (w.alloc (.cells #[.int .i64 (f0 : Int), .int .i64 (f1 : Int), .int .i64 (f2 : Int)] 62)) = W at HG HF ⊢
  generalize w.heap.size = ba
  have hn := HG.out.ok.n24
  have HA : Hid (∀ j : Nat, j < 3 → ∃ (f a : Nat) (r : Rw), (∀ W : World, (Instr.index 62 (.agg #[.int .i64 (f0 : Int), .int .i64 (f1 : Int), .int .i64 (f2 : Int)]) (.int .i64 (j : Int))).run Tryd.prog W = .ok (.int .i64 (f : Int)) W) ∧ R[f]? = some r ∧ r.about = (a : Int) ∧ a ≤ T.n ∧ topN T.n a0 a1 a2 (j + 1) = min (topN T.n a0 a1 a2 j) a) := by
    intro j hj
    match j, hj with
    | 0, _ => exact ⟨f0, a0, r0, fun W => idx62_0 _ _ _ W, hr0, e0, l0, rfl⟩
    | 1, _ => exact ⟨f1, a1, r1, fun W => idx62_1 _ _ _ W, hr1, e1, l1, rfl⟩
    | 2, _ => exact ⟨f2, a2, r2, fun W => idx62_2 _ _ _ W, hr2, e2, l2, rfl⟩
  go_loopg [5, 15] (3) (fun k s5 s15 wr => ∃ j : Nat, s15 = .int .i64 (j : Int) ∧ s5 = .int .i64 (topN T.n a0 a1 a2 j : Int) ∧ j + k = 3 ∧ topN T.n a0 a1 a2 j ≤ T.n ∧ Hid (TabG T wr g cap fresh R M Fo fr) ∧ Hid (Fr (fun _ => True) w wr))
  case atStart => exact ⟨0, rfl, rfl, rfl, Nat.le_refl _, HG, HF⟩
  case round =>
    clear HG HF
    obtain ⟨j, rfl, rfl, hjk, htl, X, F⟩ := hrel
    by_cases hj : j < 3
    · obtain ⟨f, a, r, q1, q2, q3, q4, q5⟩ := HA.out j hj
      obtain ⟨k, rfl⟩ : ∃ k, gk = k + 1 := ⟨gk - 1, by omega⟩
      have hjl : (j : Int) < 3 := by omega
      have hj0 : (0 : Int) ≤ (j : Int) := by omega
      have b2 := block_cell X.out.blk 2
      have hf := X.out.rows.lt' q2
      have hf0 : (0 : Int) ≤ (f : Int) := by omega
      have c0 := X.out.rows.c0 q2
      rw [q3] at c0
      have qi := q1 wr
      clear q1
      obtain ⟨t, ht⟩ : ∃ t, topN T.n a0 a1 a2 j = t := ⟨_, rfl⟩
      rw [ht] at htl q5 ⊢
      have XD : Hid (TabG T wr.drew g cap fresh R M Fo fr) := X.out.grew (Fr.refl _ wr).drew
      have FD : Hid (Fr (fun _ => True) w wr.drew) := F.out.drew
      go_wp2_with fail
      have b1 := block_cell X.out.blk 1
      have b1d := block_cell XD.out.blk 1
      have v1 := X.out.ok.lev a q4
      have v1d := XD.out.ok.lev a q4
      have v2 := X.out.ok.lev t htl
      have v2d := XD.out.ok.lev t htl
      have g1 : (a : Int) < ((T.n + 1 : Nat) : Int) := by omega
      have g2 : (t : Int) < ((T.n + 1 : Nat) : Int) := by omega
      have g3 : (0 : Int) ≤ (a : Int) := by omega
      have g4 : (0 : Int) ≤ (t : Int) := by omega
      clear b2 c0 qi
      go_big_region_o
      clear b1 b1d v1 v1d v2 v2d
      by_cases hat : a < t
      · have hat' : (a : Int) < (t : Int) := by omega
        go_wp2_with fail
        go_roundg k
        case measure => omega
        case rel => exact ⟨j + 1, by simp, by rw [q5, Nat.min_eq_right (by omega)], by omega, by rw [q5]; omega, XD, FD⟩
      · have hat' : ¬ (a : Int) < (t : Int) := by omega
        go_wp2_with fail
        go_roundg k
        case measure => omega
        case rel => exact ⟨j + 1, by simp, by rw [q5, Nat.min_eq_left (by omega)], by omega, by rw [q5]; omega, XD, FD⟩
    · have hjl : ¬ (j : Int) < 3 := by omega
      obtain rfl : j = 3 := by omega
      have em : topN T.n a0 a1 a2 3 = min (min a0 a1) a2 := by simp only [topN]; omega
      rw [em]
      go_wp2_with fail
      go_ret
      exact ⟨rfl, F.out⟩

end Go.Proofs.YtkbomifmijafgaaDoor.Sx
