/- The reference: nodes as text: values, names, lists. -/
import Derived.Test.YtjbfcadeapphbaaGreatDoorK30
import Derived.Test.YtjbfcadeapphbaaGreatDoorK31
import Derived.Test.YtjbfcadeapphbaaGreatDoorK33
import Derived.Deep.LoopGhost
import Derived.Laws.IdiomStrings
namespace Go.Proofs.YtjbfcadeapphbaaGreatDoor.Sx
open Go.RowKit Go.Sort
theorem H4.grew {P:Nat->Prop}{w w':World}{n:Nat}{x:PX}{v:Value}(h:H4 P w n x v)(g:Ag w w'):H4 P w' n x v:=H4.fr (Fr.grew g) (fun _ _ q=>q) n x v h
theorem Hg.grew {w w':World}{b:Nat}{op nm tx:ByteArray}{a k n:Int}{pa:Option Addr}{len cap:Nat}(h:Hg w b op a nm k n tx pa len cap)(g:Ag w w'):Hg w' b op a nm k n tx pa len cap:=h.of (P:=fun _=>True) (Fr.grew g) trivial
def lit (l:List UInt8):ByteArray:=⟨l.toArray⟩
end Go.Proofs.YtjbfcadeapphbaaGreatDoor.Sx
