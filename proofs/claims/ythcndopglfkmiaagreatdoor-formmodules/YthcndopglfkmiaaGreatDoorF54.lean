/- Proved: whatever text it is handed as a module, FormModules answers true (the module is written once more as the reference writes it, or the same fault is told at the same place), never panics, and leaves what was handed in as it was. Conditions: none beyond the card's own (the package variables on its road hold what the program's text gives them; strings of a size that a machine can hold). -/
import Derived.Test.YthcndopglfkmiaaGreatDoorF53
import Derived.Test.YthcndopglfkmiaaGreatDoorTie
import Derived.Test.YthcndopglfkmiaaGreatDoorCards
import Derived.SevenTiedAt
namespace Go.Proofs.YthcndopglfkmiaaGreatDoor
set_option maxHeartbeats 8000000
open Go
theorem formModules_holds:Rows.FormModulesCardSaid :=
 Claim7.holds_tied_plain_at .later [] [.data, .data, .data, .handle, .sentinel, .sentinel] true (true, "361a6eff8fc48c13c496ca1694f8a3f7ddbfdad6cbd155f7f115069af0660b87") true
  formModules_row (fun _ h=>by cases h) (by as_aux_lemma=>kernel_rfl) (fun _ h=>by cases h) formModules_row_tie rfl ⟨rfl,rfl⟩ (by as_aux_lemma=>kernel_rfl) rfl
  (fun f fn hf hfn=>by
   obtain rfl : f = 3 := Option.some.inj ((show Tryz.prog.funcNamed "sextant/sextantlaw2.FormModules" = some 3 by kernel_rfl).symm.trans hf) |>.symm;obtain rfl:fn=Tryz.f3:=(Option.some.inj (Tryz.func3.symm.trans hfn)).symm;exact⟨by kernel_rfl,fun j t ht=>by
    rw[Tryz.params3] at ht;have hm:t∈[9]:=by simpa using Array.mem_of_getElem? ht
    have a:([9].all fun u=>!Tryz.prog.wantsStandIn u)=true:=by kernel_rfl
    exact(show Tryz.prog.wantsStandIn t=false by simpa using List.all_eq_true.1 a t hm)⟩)
  (by as_aux_lemma=>kernel_rfl)
#print axioms formModules_holds
end Go.Proofs.YthcndopglfkmiaaGreatDoor
