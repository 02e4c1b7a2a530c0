/- The reference: what an expression begins with: faults, words. -/
import Derived.Test.YthcndopglfkmiaaGreatDoorK32
namespace Go.Proofs.YthcndopglfkmiaaGreatDoor.Sx
open Go.RowKit Go.Sort
def gQ (K:Nat->Tk)(N:Nat)(w:World)(br bl be d:Nat)(r:Except (Nat×Nat) (PX×Nat))(e:Ending)(w':World):Prop :=
 Fr (fun k=>k≠br/\k≠be) w w'/\RSd K N w' br bl (stX r) d/\e=.returned (.pointer (some ⟨be,0,none⟩))/\∀x j,r=.ok (x,j)->Gt (fun k=>k=be\/w.heap.size<=k) w' x (.pointer (some ⟨be,0,none⟩))
theorem RSd.block {K:Nat->Tk}{N br bl i d:Nat}{w:World}(h:RSd K N w br bl (.ok i) d):w.cell? ⟨br,1,none⟩=some (.int .i64 (i:Int))/\w.frozen? ⟨br,1,none⟩=false:=by
 obtain⟨g,⟨c,I,b,a,j,e,k,f⟩,-⟩:=h;obtain rfl:I=i:=f;exact⟨Aa a 1,Ac a 1⟩
theorem gQ.post {K:Nat->Tk}{N br bl be d:Nat}{w w2 w':World}{r:Except (Nat×Nat) (PX×Nat)}{e:Ending}(F:Fr (·≠br) w w2)(hbe:w.heap.size<=be)(h:gQ K N w2 br bl be d r e w'):Zf K N w br bl d r e w':=by
 obtain⟨a,b,c,f⟩:=h;have:=F.size;exact⟨Fr.freshT F a hbe,b,be,c,fun x j q=>(f x j q).fr (Fr.refl _ _) fun k _ q=>by omega⟩
end Go.Proofs.YthcndopglfkmiaaGreatDoor.Sx
