/- The reference: parts of functions, as text. -/
import Derived.Test.YtjbfcadeapphbaaGreatDoorK42
namespace Go.Proofs.YtjbfcadeapphbaaGreatDoor.Sx
open Go.RowKit Go.Sort
theorem H4.node {P:Nat->Prop}{w:World}{N:Nat}{x:PX}{v:Value}(h:H4 P w N x v):∃b op a nm k n tx pa len cap kids,v=.pointer (some ⟨b,0,none⟩)/\Hg w b op a nm k n tx pa len cap/\dY op.data.toList nm.data.toList k n tx.data.toList kids x:=by
 cases N with
 | zero=>exact absurd h id
 | succ N =>
  obtain⟨b,op,nm,tx,a,k,i,pa,len,cap,kids,c,f,d,g,e⟩:=h;exact⟨b,op,a,nm,k,i,tx,pa,len,cap,kids,c,d,e⟩
end Go.Proofs.YtjbfcadeapphbaaGreatDoor.Sx
