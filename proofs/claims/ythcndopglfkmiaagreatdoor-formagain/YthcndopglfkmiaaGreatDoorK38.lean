/- The reference: the tokens of a text. -/
import Derived.Test.YthcndopglfkmiaaGreatDoorK37
import Derived.Test.YthcndopglfkmiaaGreatDoorK30
import Derived.Deep.AppendLies
import Derived.Deep.LoopGhost
import Derived.Deep.DeepCutAuto
namespace Go.Proofs.YthcndopglfkmiaaGreatDoor.Sx
open Go.RowKit Go.Sort
theorem Iw.put {w:World}{b v:Nat}{tx:ByteArray}{a:Int}(h:Iw w b v tx a)(u:Nat):Iw (w.setCell ⟨b,0,none⟩ (.int .u8 (u:Int))) b u tx a:=by
 have:=Ah h 0 (.int .u8 (u:Int));simpa [Iw] using this
theorem Iw.text {w:World}{b v:Nat}{tx:ByteArray}{a:Int}(h:Iw w b v tx a)(u:ByteArray):Iw (w.setCell ⟨b,1,none⟩ (.string u)) b v u a:=by
 have:=Ah h 1 (.string u);simpa [Iw] using this
end Go.Proofs.YthcndopglfkmiaaGreatDoor.Sx
