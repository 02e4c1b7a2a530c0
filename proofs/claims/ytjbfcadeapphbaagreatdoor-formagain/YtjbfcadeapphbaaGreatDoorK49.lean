/- Proved: whatever text it is handed, FormAgain answers true (what was written once more is written so again, and a remark behind a text makes no difference), never panics, and leaves what was handed in as it was. Conditions: none beyond the card's own (the package variables on its road hold what the program's text gives them; strings of a size that a machine can hold). -/
import Derived.Test.YtjbfcadeapphbaaGreatDoorK48
import Derived.Test.YtjbfcadeapphbaaGreatDoorTie
import Derived.Test.YtjbfcadeapphbaaGreatDoorCards
import Derived.SevenTiedAt
namespace Go.Proofs.YtjbfcadeapphbaaGreatDoor
set_option maxHeartbeats 8000000
open Go
theorem formAgain_holds:Rows.FormAgainCardSaid :=
 Claim7.holds_tied_plain_at .later [] [.data, .data, .data, .sentinel, .sentinel] true (true, "95656576da5cbed55647d23bccd4119e7f6c0da25f78f952615c18352e3848ed") true
  formAgain_row (fun _ h=>by cases h) (by as_aux_lemma=>kernel_rfl) (fun _ h=>by cases h) formAgain_row_tie rfl ⟨rfl,rfl⟩ (by as_aux_lemma=>kernel_rfl) rfl
  (fun f fn hf hfn=>by
   obtain rfl : f = 5 := Option.some.inj ((show Tryz.prog.funcNamed "sextant/sextantlaw2.FormAgain" = some 5 by kernel_rfl).symm.trans hf) |>.symm;obtain rfl:fn=Tryz.f5:=(Option.some.inj (Tryz.func5.symm.trans hfn)).symm;exact⟨by kernel_rfl,fun j t ht=>by
    rw[Tryz.params5] at ht;have hm:t∈[9]:=by simpa using Array.mem_of_getElem? ht
    have a:([9].all fun u=>!Tryz.prog.wantsStandIn u)=true:=by kernel_rfl
    exact(show Tryz.prog.wantsStandIn t=false by simpa using List.all_eq_true.1 a t hm)⟩)
  (by as_aux_lemma=>kernel_rfl)
#print axioms formAgain_holds
end Go.Proofs.YtjbfcadeapphbaaGreatDoor
