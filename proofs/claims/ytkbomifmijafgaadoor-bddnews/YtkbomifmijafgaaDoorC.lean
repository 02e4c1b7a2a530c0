/- Proved: whatever numbers and whatever values it is handed, BddNews answers true, never panics, and leaves what was handed in as it was. Conditions: none beyond the card's own (the package variable on its road holds what the program's text gives it; a slice of a size that a machine can hold). -/
import Derived.Test.YtkbomifmijafgaaDoorR
import Derived.Test.YtkbomifmijafgaaDoorTie
import Derived.Test.YtkbomifmijafgaaDoorCards
import Derived.SevenTiedAt
namespace Go.Proofs.YtkbomifmijafgaaDoor
open Go

set_option maxHeartbeats 8000000 in
theorem bddNews_holds : Rows.BddNewsCardSaid :=
  Claim7.holds_tied_plain_at .later [] [.handle] true (true, "387fa15c1d1c35a278e263544bff361317237874bf231b12dd19beba2c2639b2") true
    bddNews_row (fun _ h => by cases h) (by as_aux_lemma => kernel_rfl) (fun _ h => by cases h) bddNews_row_tie rfl ⟨rfl, rfl⟩ (by as_aux_lemma => kernel_rfl) rfl
    (fun f fn hf hfn => by
      obtain rfl : f = 3 := Option.some.inj ((show Tryd.prog.funcNamed "sextant/sextantlaw7.BddNews" = some 3 by kernel_rfl).symm.trans hf) |>.symm
      obtain rfl : fn = Tryd.f3 := (Option.some.inj (Tryd.func3.symm.trans hfn)).symm
      exact ⟨by kernel_rfl, fun j t ht => by
        rw [Tryd.params3] at ht
        have hm : t ∈ [3, 3, 3, 22] := by simpa using Array.mem_of_getElem? ht
        have hall : ([3, 3, 3, 22].all fun u => !Tryd.prog.wantsStandIn u) = true := by kernel_rfl
        exact (show Tryd.prog.wantsStandIn t = false by simpa using List.all_eq_true.1 hall t hm)⟩)
    (by as_aux_lemma => kernel_rfl)
#print axioms bddNews_holds
end Go.Proofs.YtkbomifmijafgaaDoor
