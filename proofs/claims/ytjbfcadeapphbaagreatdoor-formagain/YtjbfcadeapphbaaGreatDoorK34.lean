/- The reference: signs between two parts, level by level. -/
import Derived.Test.YtjbfcadeapphbaaGreatDoorK33
import Derived.Deep.DeepCutAuto
namespace Go.Proofs.YtjbfcadeapphbaaGreatDoor.Sx
open Go.RowKit Go.Sort
theorem Iv.all {w:World}{b v:Nat}{tx:ByteArray}{a:Int}(h:Iv w b v tx a)(v2:Nat)(tx2:ByteArray)(a2:Int):Iv (((w.setCell ⟨b,0,none⟩ (.int .u8 (v2:Int))).setCell ⟨b,1,none⟩ (.string tx2)).setCell ⟨b,2,none⟩ (.int .i64 a2)).drew b v2 tx2 a2:=by
 have c:Iv (((w.setCell ⟨b,0,none⟩ (.int .u8 (v2:Int))).setCell ⟨b,1,none⟩ (.string tx2)).setCell ⟨b,2,none⟩ (.int .i64 a2)) b v2 tx2 a2:=by
  have:=Ah (Ah (Ah h 0 (.int .u8 (v2:Int))) 1 (.string tx2)) 2 (.int .i64 a2);simpa [Iv] using this
 exact c.grew (Ag.refl _).drew
end Go.Proofs.YtjbfcadeapphbaaGreatDoor.Sx
