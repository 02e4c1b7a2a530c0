/- Proved: whatever script it is handed whose bulk is at most 1048576, ValueMakes answers true, never panics, and leaves what was handed in as it was. Conditions: none beyond the card's own (the package variables on its road hold what the program's text gives them). -/
import Derived.Test.YtdpeliifdlhhkaaGreatDoorM49
import Derived.Test.YtdpeliifdlhhkaaGreatDoorTie
import Derived.Test.YtdpeliifdlhhkaaGreatDoorCards
import Derived.SevenTiedAt
namespace Go.Proofs.YtdpeliifdlhhkaaGreatDoor
open Go.Proofs.Tryz
set_option maxHeartbeats 8000000
open Go
theorem valueMakes_holds:Rows.ValueMakesUptoCardSaid :=
 Claim7.holds_tied_plain_at .later [] [.data, .data, .data, .sentinel, .sentinel] true (true, "47ae4051ed58ee33e375dcd4fcf61aa0dde74993bd99351b3ad4af055d7cb28f") true
  valueMakes_row (fun _ h=>by cases h) (by as_aux_lemma=>kernel_rfl) (fun _ h=>by cases h) valueMakesUpto_row_tie rfl ⟨rfl,rfl⟩ (by as_aux_lemma=>kernel_rfl) rfl
  (fun f fn hf hfn=>by
   obtain rfl : f = 6 := Option.some.inj ((show prog.funcNamed "sextant/sextantlaw1.ValueMakes" = some 6 by kernel_rfl).symm.trans hf) |>.symm;obtain rfl:fn=Tryz.f6:=(Option.some.inj (func6.symm.trans hfn)).symm;exact⟨by kernel_rfl,fun j t ht=>by
    rw[Tryz.params6] at ht;have hm:t∈[46]:=by simpa using Array.mem_of_getElem? ht
    have a:([46].all fun u=>!prog.wantsStandIn u)=true:=by kernel_rfl
    exact(show prog.wantsStandIn t=false by simpa using List.all_eq_true.1 a t hm)⟩)
  (by as_aux_lemma=>kernel_rfl)
#print axioms valueMakes_holds
end Go.Proofs.YtdpeliifdlhhkaaGreatDoor
