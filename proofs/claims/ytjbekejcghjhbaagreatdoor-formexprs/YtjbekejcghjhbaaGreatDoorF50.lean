/- FormExprs: the row. -/
import Derived.Test.YtjbekejcghjhbaaGreatDoorF49
namespace Go.Proofs.YtjbekejcghjhbaaGreatDoor
open Go

set_option maxHeartbeats 8000000 in
theorem formExprs_row : Rows.FormExprsSaid :=
  OpenClaim.holds_of_wide 8 Tryz.f8 rfl rfl rfl rfl rfl rfl rfl ⟨rfl, rfl, rfl, rfl, rfl⟩ rfl rfl rfl rfl rfl (by as_aux_lemma => kernel_rfl) Tryz.func8 (by as_aux_lemma => kernel_rfl)
    (of_decide_eq_true (by as_aux_lemma => kernel_rfl)) (by unfold Func.isWrapper; rw [if_neg (of_decide_eq_false (by as_aux_lemma => kernel_rfl))]; exact ⟨rfl, rfl⟩)
    (fun os started H enc _ => Sx.forms_lifted os started H enc)

end Go.Proofs.YtjbekejcghjhbaaGreatDoor
