/- Proved: whatever text it is handed, FormExprs answers true (the text is written once more as the reference writes it, or the same fault is told at the same place), never panics, and leaves what was handed in as it was. Conditions: none beyond the card's own (the package variables on its road hold what the program's text gives them; strings of a size that a machine can hold). -/
import Derived.Test.YtjbekejcghjhbaaGreatDoorF50
import Derived.Test.YtjbekejcghjhbaaGreatDoorTie
import Derived.Test.YtjbekejcghjhbaaGreatDoorCards
import Derived.SevenTiedAt
namespace Go.Proofs.YtjbekejcghjhbaaGreatDoor
open Go

set_option maxHeartbeats 8000000 in
theorem formExprs_holds : Rows.FormExprsCardSaid :=
  Claim7.holds_tied_plain_at .later [] [.data, .data, .data, .handle, .sentinel, .sentinel] true (true, "47ae4051ed58ee33e375dcd4fcf61aa0dde74993bd99351b3ad4af055d7cb28f") true
    formExprs_row (fun _ h => by cases h) (by as_aux_lemma => kernel_rfl) (fun _ h => by cases h) formExprs_row_tie rfl ⟨rfl, rfl⟩ (by as_aux_lemma => kernel_rfl) rfl
    (fun f fn hf hfn => by
      obtain rfl : f = 8 := Option.some.inj ((show Tryz.prog.funcNamed "sextant/sextantlaw2.FormExprs" = some 8 by kernel_rfl).symm.trans hf) |>.symm
      obtain rfl : fn = Tryz.f8 := (Option.some.inj (Tryz.func8.symm.trans hfn)).symm
      exact ⟨by kernel_rfl, fun j t ht => by
        rw [Tryz.params8] at ht
        have hm : t ∈ [9] := by simpa using Array.mem_of_getElem? ht
        have hall : ([9].all fun u => !Tryz.prog.wantsStandIn u) = true := by kernel_rfl
        exact (show Tryz.prog.wantsStandIn t = false by simpa using List.all_eq_true.1 hall t hm)⟩)
    (by as_aux_lemma => kernel_rfl)
#print axioms formExprs_holds
end Go.Proofs.YtjbekejcghjhbaaGreatDoor
