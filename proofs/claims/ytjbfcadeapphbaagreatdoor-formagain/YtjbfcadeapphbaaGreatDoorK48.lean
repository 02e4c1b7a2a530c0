/- FormAgain: the row. -/
import Derived.Test.YtjbfcadeapphbaaGreatDoorK47
namespace Go.Proofs.YtjbfcadeapphbaaGreatDoor
set_option maxHeartbeats 8000000
open Go
theorem formAgain_row:Rows.FormAgainSaid :=
 OpenClaim.holds_of_wide 5 Tryz.f5 rfl rfl rfl rfl rfl rfl rfl ⟨rfl,rfl,rfl,rfl,rfl⟩ rfl rfl rfl rfl rfl (by as_aux_lemma=>kernel_rfl) Tryz.func5 (by as_aux_lemma=>kernel_rfl)
  (of_decide_eq_true (by as_aux_lemma=>kernel_rfl)) (by unfold Func.isWrapper;rw[if_neg (of_decide_eq_false (by as_aux_lemma=>kernel_rfl))];exact⟨rfl,rfl⟩)
  (fun os started H enc _=>Sx.agains_lifted os started H enc)
end Go.Proofs.YtjbfcadeapphbaaGreatDoor
