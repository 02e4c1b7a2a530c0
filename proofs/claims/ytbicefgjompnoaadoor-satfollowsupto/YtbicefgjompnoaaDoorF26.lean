/- The store: a new one, in memory. -/
import Derived.Test.YtbicefgjompnoaaDoorF15
namespace Go.Proofs.YtbicefgjompnoaaDoor.Sx
open Go.RowKit Go.Sort

theorem old1 {w : World} {o : Obj} {k : Nat} (h : k < w.heap.size) : (w.alloc o).heap[k]? = w.heap[k]? := heap_alloc_old w o h
theorem al0 {w : World} {A B C D : Obj} : ((((w.alloc A).alloc B).alloc C).alloc D).heap[w.heap.size]? = some A := by
  rw [old1 (by simp <;> omega), old1 (by simp <;> omega), old1 (by simp), heap_new rfl]
theorem al1 {w : World} {A B C D : Obj} : ((((w.alloc A).alloc B).alloc C).alloc D).heap[w.heap.size + 1]? = some B := by
  rw [old1 (by simp), old1 (by simp), heap_new (by simp)]
theorem al2 {w : World} {A B C D : Obj} : ((((w.alloc A).alloc B).alloc C).alloc D).heap[w.heap.size + 1 + 1]? = some C := by
  rw [old1 (by simp), heap_new (by simp)]
theorem al3 {w : World} {A B C D : Obj} : ((((w.alloc A).alloc B).alloc C).alloc D).heap[w.heap.size + 1 + 1 + 1]? = some D := heap_new (by simp)
theorem NewPost.drew {w w' : World} {n : Nat} {e : Ending} (h : NewPost w n e w') : NewPost w n e w'.drew := by
  obtain ⟨L, e1, h1, h2, h3⟩ := h
  exact ⟨L, e1, h1.drew, h2.drew, h3⟩

set_option maxRecDepth 100000 in
set_option maxHeartbeats 4000000 in
theorem newStore_any (w : World) (n : Nat) (hn : n ≤ 16777216) : Calls Tryd.prog 30 #[.int .i64 (n : Int)] w (NewPost w n) := by
  have mo := follows
  obtain ⟨i1, hi1, hz1, hs1, hb1⟩ := info92
  obtain ⟨i2, hi2, hz2, hs2, hb2⟩ := info84
  obtain ⟨i3, hi3, hz3, hs3, hb3⟩ := info21
  have m1 : ∀ W, (Instr.makeSlice 51 (.int .i64 (2 * (n : Int))) (.int .i64 (2 * (n : Int)))).run Tryd.prog W = .ok (.slice (some ⟨W.heap.size, 0, none⟩) (2 * n) (2 * n)) (W.alloc (.cells (Array.replicate (2 * n) (Value.slice none 0 0)) 86)) := fun W => by
    have := run_make (P := Tryd.prog) W 51 86 i1 _ Tryd.underlying51 hi1 hz1 .i64 .i64 (2 * (n : Int)) (2 * (n : Int)) (by omega) (by omega) (by rw [hb1]; omega) (by omega)
    rw [this, show (2 * (n : Int)).toNat = 2 * n from by omega, hs1, made_one rfl]
  have m2 : ∀ W, (Instr.makeSlice 52 (.int .i64 (2 * (n : Int))) (.int .i64 (2 * (n : Int)))).run Tryd.prog W = .ok (.slice (some ⟨W.heap.size, 0, none⟩) (2 * n) (2 * n)) (W.alloc (.cells (Array.replicate (2 * n) (Value.int .i8 0)) 72)) := fun W => by
    have := run_make (P := Tryd.prog) W 52 72 i2 _ Tryd.underlying52 hi2 hz2 .i64 .i64 (2 * (n : Int)) (2 * (n : Int)) (by omega) (by omega) (by rw [hb2]; omega) (by omega)
    rw [this, show (2 * (n : Int)).toNat = 2 * n from by omega, hs2, made_one rfl]
  have m3 : ∀ W, (Instr.makeSlice 50 (.int .i64 (n : Int)) (.int .i64 (n : Int))).run Tryd.prog W = .ok (.slice (some ⟨W.heap.size, 0, none⟩) n n) (W.alloc (.cells (Array.replicate n (Value.int .i32 0)) 21)) := fun W => by
    have := run_make (P := Tryd.prog) W 50 21 i3 _ Tryd.underlying50 hi3 hz3 .i64 .i64 (n : Int) (n : Int) (by omega) (by omega) (by rw [hb3]; omega) (by omega)
    rw [this, Int.toNat_natCast, hs3, made_32]
  have hwr : IntKind.i64.wrap (2 * (n : Int)) = 2 * (n : Int) := by rw [IntKind.wrap_i64]; omega
  go_enter Tryd.func30, Tryd.ntmps30
  go_wp2_with fail
  go_region_with fail
  all_goals
    go_wp2_with fail
    go_ret
    refine NewPost.drew (new_at w _ n _ _ _ _ hn ?_ ?_ ?_ ?_ ?_ ?_ ?_ ?_ rfl)
  all_goals first | exact al0 | exact al1 | exact al2 | exact al3 | omega | exact ((((Fr.refl _ w).alloc _).alloc _).alloc _).alloc _ | simp

end Go.Proofs.YtbicefgjompnoaaDoor.Sx
