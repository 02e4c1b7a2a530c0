/- A table: a map is cleared, a number for a new node. -/
import Derived.Test.YtkbomifmijafgaaDoorT2
import Derived.Deep.LoopGhost
namespace Go.Proofs.YtkbomifmijafgaaDoor.Sx
open Go.RowKit Go.Sort Go.Maps Go.WideMaps

set_option maxRecDepth 100000 in
set_option maxHeartbeats 1000000 in
theorem cleared62_any (w : World) (m : Nat) (l : List (Value × Value)) (h : MapIs 62 w m l) (hl : l.length ≤ 1000) :
    Calls Tryd.prog 27 #[.map (some m)] w fun e w' => e = .returned (.map (some m)) ∧ MapIs 62 w' m [] ∧ Fr (· ≠ m) w w' := by
  have h1 := h.len Tryd.underlying51 3
  obtain ⟨w', h2, h3, h4⟩ := h.clear 51 _ Tryd.underlying51 0
  have n1 : ¬ (1000 : Int) < (l.length : Int) := by omega
  clear h hl
  have mo := follows
  go_enter Tryd.func27, Tryd.ntmps27
  go_wp2_with fail
  go_ret
  exact ⟨rfl, h3, h4⟩

set_option maxRecDepth 100000 in
set_option maxHeartbeats 1000000 in
theorem cleared44_any (w : World) (m : Nat) (l : List (Value × Value)) (h : MapIs 44 w m l) (hl : l.length ≤ 1000) :
    Calls Tryd.prog 33 #[.map (some m)] w fun e w' => e = .returned (.map (some m)) ∧ MapIs 44 w' m [] ∧ Fr (· ≠ m) w w' := by
  have h1 := h.len Tryd.underlying50 3
  obtain ⟨w', h2, h3, h4⟩ := h.clear 50 _ Tryd.underlying50 0
  have n1 : ¬ (1000 : Int) < (l.length : Int) := by omega
  clear h hl
  have mo := follows
  go_enter Tryd.func33, Tryd.ntmps33
  go_wp2_with fail
  go_ret
  exact ⟨rfl, h3, h4⟩

theorem info46 : ∃ i0, Tryd.prog.info? 46 = some i0 ∧ i0.zero = some (.agg #[.int .i64 0, .int .i64 0, .int .i64 0, .int .i64 0, .bool false]) ∧ i0.size = 5 ∧ i0.bytes = 40 := by
  have h : ((Tryd.prog.info? 46).map fun i => (i.zero, i.size, i.bytes)) = some (some (.agg #[.int .i64 0, .int .i64 0, .int .i64 0, .int .i64 0, .bool false]), 5, 40) := by kernel_rfl
  cases hq : Tryd.prog.info? 46 with
  | none => rw [hq] at h; simp at h
  | some j => rw [hq] at h; simp at h; exact ⟨j, rfl, h.1, h.2.1, h.2.2⟩
theorem info29 : ∃ i0, Tryd.prog.info? 29 = some i0 ∧ i0.zero = some (.int .i64 0) ∧ i0.size = 1 ∧ i0.bytes = 8 := by
  have h : ((Tryd.prog.info? 29).map fun i => (i.zero, i.size, i.bytes)) = some (some (.int .i64 0), 1, 8) := by kernel_rfl
  cases hq : Tryd.prog.info? 29 with
  | none => rw [hq] at h; simp at h
  | some j => rw [hq] at h; simp at h; exact ⟨j, rfl, h.1, h.2.1, h.2.2⟩
theorem info3 : ∃ i0, Tryd.prog.info? 3 = some i0 ∧ i0.zero = some (.int .i64 0) ∧ i0.size = 1 ∧ i0.bytes = 8 := by
  have h : ((Tryd.prog.info? 3).map fun i => (i.zero, i.size, i.bytes)) = some (some (.int .i64 0), 1, 8) := by kernel_rfl
  cases hq : Tryd.prog.info? 3 with
  | none => rw [hq] at h; simp at h
  | some j => rw [hq] at h; simp at h; exact ⟨j, rfl, h.1, h.2.1, h.2.2⟩

def newRow : Rw := ⟨0, 0, 0, 0, false⟩

set_option maxRecDepth 100000 in
set_option maxHeartbeats 1000000 in
theorem number_any (T : TL) (w : World) (R : List Rw) (M Fo : List (Value × Value)) (fr : List Nat) (g cap : Nat) (fresh : Value) (hG : TabG T w g cap fresh R M Fo fr) (hl : R.length ≤ 1000) :
    Calls Tryd.prog 28 #[.pointer (some ⟨T.b, 0, none⟩)] w fun e w' => e = .returned (.int .i64 (R.length : Int)) ∧ Tab T w' (R ++ [newRow]) M Fo fr ∧ Fr (fun k => k ≠ T.b ∧ k ≠ g) w w' := by
  have HG : Hid (TabG T w g cap fresh R M Fo fr) := hG
  have h2 := block_cell hG.blk 2
  have h3 := block_cell hG.blk 3
  obtain ⟨i0, hi0, hz0, hz1, hz2⟩ := info46
  have hok := hG.ok.hi
  have HOA : Hid ((w.alloc (.cells #[.int .i64 0, .int .i64 0, .int .i64 0, .int .i64 0, .bool false] 46)).ownsRow T.hi 46 5 (.slice (some ⟨g, 0, none⟩) R.length cap) R.length (flatR R)) := hG.rows.own.alloc _
  have mo := follows
  clear hG
  go_enter Tryd.func28, Tryd.ntmps28
  go_wp2_with (at_builtin; refine wpList_append_lies _ rfl _ _ 48 rfl T.hi 46 i0 _ 5 40 Tryd.underlying48 hi0 hz0 hz1 hz2 rfl (by decide) (.slice (some ⟨g, 0, none⟩) R.length cap) _ (flatR R) rfl HOA.out ⟨w.heap.size, 0, none⟩ 1 1 [.int .i64 0, .int .i64 0, .int .i64 0, .int .i64 0, .bool false] rfl rfl ?q1 ?q2 (by decide) ?q3 ?q4 ?q5 (w.heap.size + 1) ?q6 ?_)
  case q1 => exact World.news_of_block (heap_new rfl)
  case q2 =>
    intro u hu
    simp only [List.mem_cons, List.not_mem_nil, or_false] at hu
    rcases hu with rfl | rfl | rfl | rfl | rfl <;> rfl
  case q3 => unfold maxLen; omega
  case q4 => omega
  case q5 => simp; omega
  case q6 => simp
  intro g' cap' w1 ho hg hat hlt
  obtain ⟨p1, p2, p3⟩ := HG.out.push newRow ((Fr.refl _ w).alloc _) ho hg hat (by omega)
  have P2 : Hid (TabG _ _ _ _ _ _ _ _ _) := p2
  have P3 : Hid (Fr _ _ _) := p3
  have c2 := block_cell p1 2
  have f2 := frozen_block p1 2
  have d2 := block_cell p2.blk 2
  clear p1 p2 p3 ho hg hat hlt h2 h3 HG HOA
  go_wp2_with fail
  go_ret
  exact ⟨rfl, ⟨_, _, _, P2.out⟩, P3.out⟩

end Go.Proofs.YtkbomifmijafgaaDoor.Sx
