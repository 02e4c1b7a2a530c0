/- The reference: a text is read as an expression. -/
import Derived.Test.YtjbfcadeapphbaaGreatDoorK34
import Derived.Test.YtjbfcadeapphbaaGreatDoorK38
namespace Go.Proofs.YtjbfcadeapphbaaGreatDoor.Sx
open Go.RowKit Go.Sort
theorem Mi (T:List UInt8)(hT:T.length<=4000)(i:Nat):(tkF T i).tx.length<=4000:=by
 show(txF T i).length<=4000;rw[Gy];have:=(Hw T i).2.2;omega
theorem RSd.faults {K:Nat->Tk}{N br bl d c p:Nat}{w:World}(h:RSd K N w br bl (.error (c,p)) d):w.cell? ⟨br,3,none⟩=some (.int .i64 (c:Int))/\w.cell? ⟨br,4,none⟩=some (.int .i64 (p:Int)):=by
 obtain⟨g,⟨e,I,b,a,-,-,-,f⟩,-⟩:=h;obtain⟨-,rfl⟩:=f;exact⟨Aa a 3,Aa a 4⟩
end Go.Proofs.YtjbfcadeapphbaaGreatDoor.Sx
