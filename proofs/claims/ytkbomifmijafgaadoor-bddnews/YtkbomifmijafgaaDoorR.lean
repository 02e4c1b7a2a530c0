/- BddNews: the row. -/
import Derived.Test.YtkbomifmijafgaaDoorL
namespace Go.Proofs.YtkbomifmijafgaaDoor
open Go

set_option maxHeartbeats 8000000 in
theorem bddNews_row : Rows.BddNewsSaid :=
  OpenClaim.holds_of_wide 3 Tryd.f3 rfl rfl rfl rfl rfl rfl rfl ⟨rfl, rfl, rfl, rfl, rfl⟩ rfl rfl rfl rfl rfl (by as_aux_lemma => kernel_rfl) Tryd.func3 (by as_aux_lemma => kernel_rfl)
    (of_decide_eq_true (by as_aux_lemma => kernel_rfl)) (by unfold Func.isWrapper; rw [if_neg (of_decide_eq_false (by as_aux_lemma => kernel_rfl))]; exact ⟨rfl, rfl⟩)
    (fun os started H enc _ => Sx.news_lifted os started H enc)

end Go.Proofs.YtkbomifmijafgaaDoor
