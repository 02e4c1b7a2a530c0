/- FormExprs: the row. -/
import Derived.Test.YtjbfcadeapphbaaGreatDoorE49
namespace Go.Proofs.YtjbfcadeapphbaaGreatDoor
set_option maxHeartbeats 8000000
open Go
theorem formExprs_row:Rows.FormExprsSaid :=
 OpenClaim.holds_of_wide 3 Tryz.f3 rfl rfl rfl rfl rfl rfl rfl ⟨rfl,rfl,rfl,rfl,rfl⟩ rfl rfl rfl rfl rfl (by as_aux_lemma=>kernel_rfl) Tryz.func3 (by as_aux_lemma=>kernel_rfl)
  (of_decide_eq_true (by as_aux_lemma=>kernel_rfl)) (by unfold Func.isWrapper;rw[if_neg (of_decide_eq_false (by as_aux_lemma=>kernel_rfl))];exact⟨rfl,rfl⟩)
  (fun os started H enc _=>Sx.forms_lifted os started H enc)
end Go.Proofs.YtjbfcadeapphbaaGreatDoor
