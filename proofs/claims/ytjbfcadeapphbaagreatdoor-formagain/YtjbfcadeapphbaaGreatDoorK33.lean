/- The reference: what an expression begins with: faults, words. -/
import Derived.Test.YtjbfcadeapphbaaGreatDoorK32
namespace Go.Proofs.YtjbfcadeapphbaaGreatDoor.Sx
open Go.RowKit Go.Sort
theorem gU.post {K:Nat->Tk}{N br bl be d:Nat}{w w2 w':World}{r:Except (Nat×Nat) (PX×Nat)}{e:Ending}(F:Fr (·≠br) w w2)(hbe:w.heap.size<=be)(h:gU K N w2 br bl be d r e w'):Zj K N w br bl d r e w':=by
 obtain⟨a,b,c,f⟩:=h;have:=F.size;exact⟨Fr.freshT F a hbe,b,be,c,fun x j q=>(f x j q).fr (Fr.refl _ _) fun k _ q=>by omega⟩
end Go.Proofs.YtjbfcadeapphbaaGreatDoor.Sx
