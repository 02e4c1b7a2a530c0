/- ValueMakes: the row, second form. -/
import Derived.Test.YtdpeliifdlhhkaaGreatDoorM48
namespace Go.Proofs.YtdpeliifdlhhkaaGreatDoor
open Go.Proofs.Tryz
set_option maxHeartbeats 8000000
open Go
theorem Ac7:joinedFacts Tryz.pinned.checked.prog 6 Tryz.f6 (Rows.OpenSpec.upto Rows.valueMakesSpec).bare Rows.valueMakesUptoRow=true:=by
 unfold joinedFacts;simp only[Bool.and_eq_true]
 repeat' refine And.intro ?_ ?_
 all_goals as_aux_lemma=>kernel_rfl
theorem valueMakes_row:Rows.ValueMakesUptoSaid :=
 OpenClaim.holds_of_cond 6 Tryz.f6 rfl rfl rfl rfl rfl rfl rfl ⟨rfl,rfl,rfl,rfl,rfl⟩ rfl rfl rfl rfl rfl (by as_aux_lemma=>kernel_rfl) func6 Ac7
  (of_decide_eq_true (by as_aux_lemma=>kernel_rfl)) (by unfold Func.isWrapper;rw[if_neg (of_decide_eq_false (by as_aux_lemma=>kernel_rfl))];exact⟨rfl,rfl⟩)
  (fun os started H enc _ F=>by rw[OpenClaim.pre_eq_preRow];exact Ac6 os started H enc F)
end Go.Proofs.YtdpeliifdlhhkaaGreatDoor
