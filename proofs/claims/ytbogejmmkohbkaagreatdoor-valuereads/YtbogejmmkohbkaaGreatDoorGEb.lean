/- The number of an error: Told, and what compares it. -/
import Derived.Test.YtbogejmmkohbkaaGreatDoorGEa
namespace Go.Proofs.YtbogejmmkohbkaaGreatDoor.Sx
open Go.RowKit Go.Sort

/-- what the law of reading starts from -/
structure BaseE (w : World) : Prop where
  base : Base w
  et : w.cell? ⟨0, 0, none⟩ = some (.iface 216 (.agg #[.pointer (some ⟨7, 25, none⟩)]))
theorem cell_at0 {w : World} {v : Value} (h : w.cell? ⟨0, 0, none⟩ = some v) : 0 < w.heap.size := by
  rcases Nat.eq_zero_or_pos w.heap.size with h0 | h1
  · simp [World.cell?, h0] at h
  · exact h1
theorem cell_keep {w w' : World} (hb : Below w.heap.size w w') {v : Value} (h : w.cell? ⟨0, 0, none⟩ = some v) : w'.cell? ⟨0, 0, none⟩ = some v := by
  have := hb.block 0 (cell_at0 h)
  simp only [World.cell?] at h ⊢
  rw [this]; exact h
theorem BaseE.below {w w' : World} (h : BaseE w) (hb : Below w.heap.size w w') : BaseE w' := ⟨h.base.below hb, cell_keep hb h.et⟩

set_option maxRecDepth 100000 in
theorem told_nil (w : World) : Gives 30 #[.nilIface] w (.int .i64 0) := by
  unfold Gives
  go_enter Tryz.func30, Tryz.ntmps30
  go_wp2_with fail
  go_ret
  exact ⟨rfl, Below.refl _ _⟩
set_option maxRecDepth 100000 in
set_option maxHeartbeats 4000000 in
theorem told_errno (c : Int) (w : World) (hE : BaseE w) : Gives 30 #[.iface 61 (.int .i64 c)] w (.int .i64 c) := by
  have G0 : Hid (Grew w (w.alloc (.cells #[.int .i64 0] 61))) := (Grew.refl w).alloc _
  have X0 : Hid ((w.alloc (.cells #[.int .i64 0] 61)).heap[w.heap.size]? = some (.cells #[.int .i64 0] 61 (0, 0))) := heap_new rfl
  have HAS : Hid (Calls Tryz.prog 69 #[.iface 61 (.int .i64 c), .iface 114 (.pointer (some ⟨w.heap.size, 0, none⟩))] (w.alloc (.cells #[.int .i64 0] 61)) _) := as_errno c ⟨w.heap.size, 0, none⟩ (.int .i64 0) _ (hE.below G0.out.below).et (block_cell X0.out 0) (frozen_block X0.out 0)
  clear hE
  unfold Gives
  go_enter Tryz.func30, Tryz.ntmps30
  go_wp2_with fail
  refine HAS.out.mono ?_
  rintro e w1 ⟨rfl, rfl⟩
  generalize hW : World.alloc (World.alloc (World.alloc (World.alloc (World.alloc w _) _) _) _) _ = W
  have HB : Hid (Below w.heap.size w (W.setCell ⟨w.heap.size, 0, none⟩ (.int .i64 c))) := by
    subst hW
    exact ((((((Grew.refl w).alloc _).alloc _).alloc _).alloc _).alloc _ |>.setNew (Nat.le_refl _) _).below
  have XW : W.heap[w.heap.size]? = some (.cells #[.int .i64 0] 61 (0, 0)) := by
    subst hW
    exact Below.blockAt (((((Grew.refl _).alloc _).alloc _).alloc _).alloc _).below X0.out
  have XZ : Hid ((W.setCell ⟨w.heap.size, 0, none⟩ (.int .i64 c)).heap[w.heap.size]? = some (.cells #[.int .i64 c] 61 (0, 0))) := set_block XW 0 _
  clear hW XW HAS G0 X0
  generalize W.setCell ⟨w.heap.size, 0, none⟩ (.int .i64 c) = WZ at HB XZ ⊢
  have b0 := block_cell XZ.out 0
  go_wp2_with fail
  go_ret
  exact ⟨rfl, HB.out⟩
set_option maxRecDepth 100000 in
theorem same_nil (w : World) (k : Nat) : Gives 11 #[.nilIface, .int .i64 (k : Int)] w (.bool (decide (k = 0))) := by
  have HT : Hid (∀ W, Gives 30 #[.nilIface] W (.int .i64 0)) := told_nil
  unfold Gives
  go_enter Tryz.func11, Tryz.ntmps11
  go_wp2_with fail
  refine Calls.mono (HT.out w) ?_
  rintro e w1 ⟨rfl, hb⟩
  have HB : Hid (Below w.heap.size w w1) := hb
  clear hb HT
  go_wp2_with fail
  go_ret
  refine ⟨?_, HB.out⟩
  by_cases h : k = 0
  · subst h; rfl
  · have h2 : ((0 : Int) == (k : Int)) = false := by simp; omega
    simp [h, h2]
set_option maxRecDepth 100000 in
theorem same_errno (w : World) (c k : Nat) (hE : BaseE w) : Gives 11 #[.iface 61 (.int .i64 (c : Int)), .int .i64 (k : Int)] w (.bool (decide (c = k))) := by
  have HT : Hid (Gives 30 #[.iface 61 (.int .i64 (c : Int))] w (.int .i64 (c : Int))) := told_errno c w hE
  clear hE
  unfold Gives
  go_enter Tryz.func11, Tryz.ntmps11
  go_wp2_with fail
  refine Calls.mono HT.out ?_
  rintro e w1 ⟨rfl, hb⟩
  have HB : Hid (Below w.heap.size w w1) := hb
  clear hb HT
  go_wp2_with fail
  go_ret
  refine ⟨?_, HB.out⟩
  by_cases h : c = k
  · subst h; simp
  · have h2 : ((c : Int) == (k : Int)) = false := by simp; omega
    simp [h, h2]
end Go.Proofs.YtbogejmmkohbkaaGreatDoor.Sx
