/- ValueBack: the row. -/
import Derived.Test.YtbogejmmkohbkaaGreatDoorGBackL
namespace Go.Proofs.YtbogejmmkohbkaaGreatDoor
open Go

set_option maxHeartbeats 8000000 in
theorem valueBack_row : Rows.ValueBackSaid :=
  OpenClaim.holds_of_wide 7 Tryz.f7 rfl rfl rfl rfl rfl rfl rfl ⟨rfl, rfl, rfl, rfl, rfl⟩ rfl rfl rfl rfl rfl (by as_aux_lemma => kernel_rfl) Tryz.func7 (by as_aux_lemma => kernel_rfl)
    (of_decide_eq_true (by as_aux_lemma => kernel_rfl)) (by unfold Func.isWrapper; rw [if_neg (of_decide_eq_false (by as_aux_lemma => kernel_rfl))]; exact ⟨rfl, rfl⟩)
    (fun os started H enc _ => Sx.back_lifted os started H enc)

end Go.Proofs.YtbogejmmkohbkaaGreatDoor
