/- The reference: the tokens of a text. -/
import Derived.Test.YtjbfcadeapphbaaGreatDoorK37
import Derived.Test.YtjbfcadeapphbaaGreatDoorK30
import Derived.Deep.AppendLies
import Derived.Deep.LoopGhost
import Derived.Deep.DeepCutAuto
namespace Go.Proofs.YtjbfcadeapphbaaGreatDoor.Sx
open Go.RowKit Go.Sort
theorem Iv.put {w:World}{b v:Nat}{tx:ByteArray}{a:Int}(h:Iv w b v tx a)(u:Nat):Iv (w.setCell ⟨b,0,none⟩ (.int .u8 (u:Int))) b u tx a:=by
 have:=Ah h 0 (.int .u8 (u:Int));simpa [Iv] using this
theorem Iv.text {w:World}{b v:Nat}{tx:ByteArray}{a:Int}(h:Iv w b v tx a)(u:ByteArray):Iv (w.setCell ⟨b,1,none⟩ (.string u)) b v u a:=by
 have:=Ah h 1 (.string u);simpa [Iv] using this
end Go.Proofs.YtjbfcadeapphbaaGreatDoor.Sx
