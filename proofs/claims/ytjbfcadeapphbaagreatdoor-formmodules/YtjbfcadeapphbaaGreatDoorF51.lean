/- Proved: whatever text it is handed as a module, FormModules answers true (the module is written once more as the reference writes it, or the same fault is told at the same place), never panics, and leaves what was handed in as it was. Conditions: none beyond the card's own (the package variables on its road hold what the program's text gives them; strings of a size that a machine can hold). -/
import Derived.Test.YtjbfcadeapphbaaGreatDoorF50
import Derived.Test.YtjbfcadeapphbaaGreatDoorTie
import Derived.Test.YtjbfcadeapphbaaGreatDoorCards
import Derived.SevenTiedAt
namespace Go.Proofs.YtjbfcadeapphbaaGreatDoor
set_option maxHeartbeats 8000000
open Go
theorem formModules_holds:Rows.FormModulesCardSaid :=
 Claim7.holds_tied_plain_at .later [] [.data, .data, .data, .handle, .sentinel, .sentinel] true (true, "95656576da5cbed55647d23bccd4119e7f6c0da25f78f952615c18352e3848ed") true
  formModules_row (fun _ h=>by cases h) (by as_aux_lemma=>kernel_rfl) (fun _ h=>by cases h) formModules_row_tie rfl ⟨rfl,rfl⟩ (by as_aux_lemma=>kernel_rfl) rfl
  (fun f fn hf hfn=>by
   obtain rfl : f = 4 := Option.some.inj ((show Tryz.prog.funcNamed "sextant/sextantlaw2.FormModules" = some 4 by kernel_rfl).symm.trans hf) |>.symm;obtain rfl:fn=Tryz.f4:=(Option.some.inj (Tryz.func4.symm.trans hfn)).symm;exact⟨by kernel_rfl,fun j t ht=>by
    rw[Tryz.params4] at ht;have hm:t∈[9]:=by simpa using Array.mem_of_getElem? ht
    have a:([9].all fun u=>!Tryz.prog.wantsStandIn u)=true:=by kernel_rfl
    exact(show Tryz.prog.wantsStandIn t=false by simpa using List.all_eq_true.1 a t hm)⟩)
  (by as_aux_lemma=>kernel_rfl)
#print axioms formModules_holds
end Go.Proofs.YtjbfcadeapphbaaGreatDoor
