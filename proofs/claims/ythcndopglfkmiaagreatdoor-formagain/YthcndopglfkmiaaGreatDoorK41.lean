/- The reference: nodes as text: values, names, lists. -/
import Derived.Test.YthcndopglfkmiaaGreatDoorK30
import Derived.Test.YthcndopglfkmiaaGreatDoorK31
import Derived.Test.YthcndopglfkmiaaGreatDoorK33
import Derived.Deep.LoopGhost
import Derived.Laws.IdiomStrings
namespace Go.Proofs.YthcndopglfkmiaaGreatDoor.Sx
open Go.RowKit Go.Sort
theorem H5.grew {P:Nat->Prop}{w w':World}{n:Nat}{x:PX}{v:Value}(h:H5 P w n x v)(g:Ag w w'):H5 P w' n x v:=H5.fr (Fr.grew g) (fun _ _ q=>q) n x v h
theorem Hf.grew {w w':World}{b:Nat}{op nm tx:ByteArray}{a k n:Int}{pa:Option Addr}{len cap:Nat}(h:Hf w b op a nm k n tx pa len cap)(g:Ag w w'):Hf w' b op a nm k n tx pa len cap:=h.of (P:=fun _=>True) (Fr.grew g) trivial
def lit (l:List UInt8):ByteArray:=⟨l.toArray⟩
end Go.Proofs.YthcndopglfkmiaaGreatDoor.Sx
