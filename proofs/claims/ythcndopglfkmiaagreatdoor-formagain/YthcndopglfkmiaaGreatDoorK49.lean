/- Proved: whatever text it is handed, FormAgain answers true (what was written once more is written so again, and a remark behind a text makes no difference), never panics, and leaves what was handed in as it was. Conditions: none beyond the card's own (the package variables on its road hold what the program's text gives them; strings of a size that a machine can hold). -/
import Derived.Test.YthcndopglfkmiaaGreatDoorK48
import Derived.Test.YthcndopglfkmiaaGreatDoorTie
import Derived.Test.YthcndopglfkmiaaGreatDoorCards
import Derived.SevenTiedAt
namespace Go.Proofs.YthcndopglfkmiaaGreatDoor
set_option maxHeartbeats 8000000
open Go
theorem formAgain_holds:Rows.FormAgainCardSaid :=
 Claim7.holds_tied_plain_at .later [] [.data, .data, .data, .sentinel, .sentinel] true (true, "361a6eff8fc48c13c496ca1694f8a3f7ddbfdad6cbd155f7f115069af0660b87") true
  formAgain_row (fun _ h=>by cases h) (by as_aux_lemma=>kernel_rfl) (fun _ h=>by cases h) formAgain_row_tie rfl ⟨rfl,rfl⟩ (by as_aux_lemma=>kernel_rfl) rfl
  (fun f fn hf hfn=>by
   obtain rfl : f = 4 := Option.some.inj ((show Tryz.prog.funcNamed "sextant/sextantlaw2.FormAgain" = some 4 by kernel_rfl).symm.trans hf) |>.symm;obtain rfl:fn=Tryz.f4:=(Option.some.inj (Tryz.func4.symm.trans hfn)).symm;exact⟨by kernel_rfl,fun j t ht=>by
    rw[Tryz.params4] at ht;have hm:t∈[9]:=by simpa using Array.mem_of_getElem? ht
    have a:([9].all fun u=>!Tryz.prog.wantsStandIn u)=true:=by kernel_rfl
    exact(show Tryz.prog.wantsStandIn t=false by simpa using List.all_eq_true.1 a t hm)⟩)
  (by as_aux_lemma=>kernel_rfl)
#print axioms formAgain_holds
end Go.Proofs.YthcndopglfkmiaaGreatDoor
