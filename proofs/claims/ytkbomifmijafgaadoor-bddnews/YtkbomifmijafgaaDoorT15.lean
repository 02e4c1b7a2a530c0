/- Counting. -/
import Derived.Test.YtkbomifmijafgaaDoorT14
namespace Go.Proofs.YtkbomifmijafgaaDoor.Sx
open Go.RowKit Go.Sort Go.Maps Go.WideMaps

theorem wrap_pow (n : Nat) (h : n ≤ 24) : IntKind.i64.wrap (2 ^ n) = ((2 ^ n : Nat) : Int) := by
  have k : ∀ m : Fin 25, IntKind.i64.wrap (2 ^ m.val) = ((2 ^ m.val : Nat) : Int) := by decide
  exact k ⟨n, by omega⟩
def ends (lo hh : Nat) : List (Value × Value) := [(.int .i64 0, .int .i64 (lo : Int)), (.int .i64 1, .int .i64 (hh : Int))]

set_option maxRecDepth 100000 in
set_option maxHeartbeats 1000000 in
theorem fold_any (T : TL) (w : World) (R : List Rw) (M Fo : List (Value × Value)) (fr : List Nat) (h : Tab T w R M Fo fr) (f lo hh v : Nat) (L' : List (Value × Value)) (HO : ∀ bm bt bj bo mm g cap fresh, OfC T bm bt bj bo mm g cap fresh R M Fo fr f v (ends lo hh) L') :
    Calls Tryd.prog 21 #[.pointer (some ⟨T.b, 0, none⟩), .int .i64 (f : Int), .int .i64 (lo : Int), .int .i64 (hh : Int), .func (.func 22) #[] #[]] w fun e w' => e = .returned (.int .i64 (v : Int)) ∧ Fr (fun _ => True) w w' := by
  have mo := follows
  obtain ⟨g, cap, fresh, hG⟩ := h
  obtain ⟨W0, hW0⟩ : ∃ W0, ((w.alloc (.cells #[.pointer (some ⟨T.b, 0, none⟩)] 23)).alloc (.cells #[.func (.func 22) #[] #[]] 56)) = W0 := ⟨_, rfl⟩
  have fW : Fr (fun _ => True) w W0 := by rw [← hW0]; exact ((Fr.refl _ w).alloc _).alloc _
  have t0 : W0.heap[w.heap.size]? = some (.cells #[.pointer (some ⟨T.b, 0, none⟩)] 23 (0, 0)) := by
    rw [← hW0]; exact (((Fr.refl (fun _ => True) _).alloc _).block _ (by simp) trivial).trans (heap_new rfl)
  have j0 : W0.heap[w.heap.size + 1]? = some (.cells #[.func (.func 22) #[] #[]] 56 (0, 0)) := by
    rw [← hW0]; exact heap_new (by simp)
  have m1 : (Instr.makeMap 66 none).run Tryd.prog W0 = .ok (.map (some W0.heap.size)) (W0.alloc (.map #[] 0)) := run_makeMap _ _
  have hz : W0.heap.size = w.heap.size + 2 := by rw [← hW0]; simp
  rw [hz] at m1
  have M1 : MapIs 29 (W0.alloc (.map #[] 0)) (w.heap.size + 2) [] := hz ▸ MapIs.new 29 W0
  obtain ⟨W1, p1, M2, f1⟩ := M1.put law29 Tryd.underlying66 (x := .int .i64 0) (key29n (x := 0) (by omega)) (by simp) (.int .i64 (lo : Int))
  obtain ⟨W2, p2, M3, f2⟩ := M2.put law29 Tryd.underlying66 (x := .int .i64 1) (key29n (x := 1) (by omega)) (by simp) (.int .i64 (hh : Int))
  have f02 : Fr (· ≠ w.heap.size + 2) W0 W2 := ((Fr.refl _ W0).alloc _).trans (f1.trans f2)
  have g2 : TabG T W2 g cap fresh R M Fo fr := by
    have hg0 := hG.grew fW
    have hg1 := hg0.grew ((Fr.refl (fun _ => True) W0).alloc (.map #[] 0))
    have k := hG.ok.hi
    have k1 := hG.ok.mb
    have k2 := hG.ok.fb
    have k3 := hG.ok.lb
    exact (hg1.beside M1 (by omega) (by omega) (by omega) f1).beside M2 (by omega) (by omega) (by omega) f2
  have t2 : W2.heap[w.heap.size]? = some (.cells #[.pointer (some ⟨T.b, 0, none⟩)] 23 (0, 0)) := (f02.block _ (block_lt t0) (by omega)).trans t0
  have j2 : W2.heap[w.heap.size + 1]? = some (.cells #[.func (.func 22) #[] #[]] 56 (0, 0)) := (f02.block _ (block_lt j0) (by omega)).trans j0
  have hs2 := f02.size
  have HM3 : Hid (MapIs 29 W2 (w.heap.size + 2) (ends lo hh)) := M3
  have HG2 : Hid (TabG T W2 g cap fresh R M Fo fr) := g2
  have HT2 : Hid (_ = _) := t2
  have HJ2 : Hid (_ = _) := j2
  have HFW : Hid (Fr (fun _ => True) w W0) := fW
  have HF02 : Hid (Fr (· ≠ w.heap.size + 2) W0 W2) := f02
  have hlow : T.mb < w.heap.size ∧ T.fb < w.heap.size ∧ T.lb < w.heap.size := ⟨Nat.lt_of_lt_of_le hG.ok.mb hG.ok.hi, Nat.lt_of_lt_of_le hG.ok.fb hG.ok.hi, Nat.lt_of_lt_of_le hG.ok.lb hG.ok.hi⟩
  have HOO : Hid (∀ bm bt bj bo mm g cap fresh, OfC T bm bt bj bo mm g cap fresh R M Fo fr f v (ends lo hh) L') := HO
  have st := fun (W : World) (m : Mode) => store_one (v := .func (.func 31) #[] #[.pointer (some ⟨W2.heap.size, 0, none⟩), .pointer (some ⟨w.heap.size, 0, none⟩), .pointer (some ⟨w.heap.size + 1, 0, none⟩), .pointer (some ⟨W2.heap.size + 1, 0, none⟩)]) rfl ⟨W2.heap.size + 1, 0, none⟩ m W
  clear M1 M2 M3 f1 f2 g2 t2 j2 fW f02 t0 j0 hG HO
  go_enter Tryd.func21, Tryd.ntmps21
  go_wp2_with fail
  clear m1 p1 p2 st
  obtain ⟨W4, hW4⟩ : ∃ W4, ((W2.alloc (.cells #[.map (some (w.heap.size + 2))] 66)).alloc (.cells #[.func (.func 31) #[] #[.pointer (some ⟨W2.heap.size, 0, none⟩), .pointer (some ⟨w.heap.size, 0, none⟩), .pointer (some ⟨w.heap.size + 1, 0, none⟩), .pointer (some ⟨W2.heap.size + 1, 0, none⟩)]] 33)) = W4 := ⟨_, rfl⟩
  have f24 : Fr (fun _ => True) W2 W4 := by rw [← hW4]; exact ((Fr.refl _ _).alloc _).alloc _
  have m4 : W4.heap[W2.heap.size]? = some (.cells #[.map (some (w.heap.size + 2))] 66 (0, 0)) := by
    rw [← hW4]; exact (((Fr.refl (fun _ => True) _).alloc _).block _ (by simp) trivial).trans (heap_new rfl)
  have o4 : W4.heap[W2.heap.size + 1]? = some (.cells #[.func (.func 31) #[] #[.pointer (some ⟨W2.heap.size, 0, none⟩), .pointer (some ⟨w.heap.size, 0, none⟩), .pointer (some ⟨w.heap.size + 1, 0, none⟩), .pointer (some ⟨W2.heap.size + 1, 0, none⟩)]] 33 (0, 0)) := by
    rw [← hW4]; exact heap_new (by simp)
  have hE : FE T W4 W2.heap.size w.heap.size (w.heap.size + 1) (W2.heap.size + 1) (w.heap.size + 2) g cap fresh R M Fo fr (ends lo hh) :=
    ⟨HG2.out.grew f24, m4, (f24.block _ (block_lt HT2.out) trivial).trans HT2.out, (f24.block _ (block_lt HJ2.out) trivial).trans HJ2.out, o4, HM3.out.of f24 trivial, by omega, by omega, by omega⟩
  have HC : Hid (Calls _ _ _ _ _) := (HOO.out _ _ _ _ _ _ _ _).run W4 hE
  rw [hW4]
  refine HC.out.mono ?_
  rintro e W5 ⟨rfl, -, hf5⟩
  have F5 : Hid (Fr (fun _ => True) w W5) := by
    have q := (HF02.out.trans (f24.mono fun _ _ => trivial)).trans hf5
    have hzz := hz
    refine ⟨q.os.trans HFW.out.os, q.tape.trans HFW.out.tape, q.output.trans HFW.out.output, Nat.le_trans HFW.out.size q.size, fun k hk _ => ?_⟩
    exact (q.block k (by omega) (by omega)).trans (HFW.out.block k hk trivial)
  clear hf5 HC hE m4 o4 f24 hW4 hW0
  go_wp2_with fail
  go_ret
  exact ⟨rfl, F5.out⟩

set_option maxRecDepth 100000 in
set_option maxHeartbeats 1000000 in
theorem Count_any (T : TL) (w : World) (R : List Rw) (M Fo : List (Value × Value)) (fr : List Nat) (h : Tab T w R M Fo fr) (f v : Nat) (r : Rw) (hr : R[f]? = some r) (hn : r.about ≠ -1) (L' : List (Value × Value)) (HO : ∀ bm bt bj bo mm g cap fresh, OfC T bm bt bj bo mm g cap fresh R M Fo fr f v (ends 0 (2 ^ T.n)) L') :
    Calls Tryd.prog 9 #[.pointer (some ⟨T.b, 0, none⟩), .int .i64 (f : Int)] w fun e w' => e = .returned (.int .i64 (v : Int)) ∧ Fr (fun _ => True) w w' := by
  have HK : Hid (Calls _ _ _ _ _) := known_any T w R M Fo fr h f r hr hn
  have HF : Hid (∀ W, Tab T W R M Fo fr → Calls Tryd.prog 21 #[.pointer (some ⟨T.b, 0, none⟩), .int .i64 (f : Int), .int .i64 0, .int .i64 (IntKind.i64.wrap (2 ^ T.n)), .func (.func 22) #[] #[]] W fun e w' => e = .returned (.int .i64 (v : Int)) ∧ Fr (fun _ => True) W w') := fun W hW => by rw [wrap_pow T.n (by obtain ⟨_, _, _, q⟩ := hW; exact q.ok.n24)]; exact fold_any T W R M Fo fr hW f 0 (2 ^ T.n) v L' HO
  obtain ⟨g, cap, fresh, hG⟩ := h
  have h0 := block_cell hG.blk 0
  have n24 := hG.ok.n24
  have HG : Hid (TabG T w g cap fresh R M Fo fr) := hG
  have mo := follows
  clear hG
  go_enter Tryd.func9, Tryd.ntmps9
  go_wp2_with fail
  have h0d := block_cell (HG.out.grew (Fr.refl _ w).drew).blk 0
  have HKd : Hid (Calls _ _ _ _ _) := known_any T w.drew R M Fo fr ⟨_, _, _, HG.out.grew (Fr.refl _ w).drew⟩ f r hr hn
  have HTd : Tab T w.drew R M Fo fr := ⟨_, _, _, HG.out.grew (Fr.refl _ w).drew⟩
  clear HK HO
  go_region_held3 (fun w' => w'.cell? ⟨T.b, 0, none⟩ = some (.slice T.oa T.n T.oc)) (first | assumption | go_keep)
    ((first | (go_at_call 19; refine HKd.out.mono ?_; rintro e w' ⟨rfl, hw⟩; replace hw := hw.symm; subst hw) | (go_at_call 21; refine (HF.out _ HTd).mono ?_; rintro e W5 ⟨rfl, hf5⟩; have F5 : Fr (fun _ => True) w W5 := (Fr.refl _ w).drew.trans hf5; have z0 := block_cell (HG.out.grew F5).blk 0; clear hf5)))
  go_wp2_with fail
  go_ret
  exact ⟨rfl, F5⟩

end Go.Proofs.YtkbomifmijafgaaDoor.Sx
