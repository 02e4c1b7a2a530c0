/- The reference: nodes with parts, as text. -/
import Derived.Test.YtjbfcadeapphbaaGreatDoorK41
namespace Go.Proofs.YtjbfcadeapphbaaGreatDoor.Sx
open Go.RowKit Go.Sort
def ND (P:Nat->Prop)(N:Nat)(w:World)(be:Nat)(op nm:ByteArray)(g off len cap:Nat)(kids:List PX):Prop :=
 (∃a k n tx,Hg w be op a nm k n tx (some ⟨g,off,none⟩) len cap)/\g<w.heap.size/\len=kids.length/\∀i x,kids[i]?=some x->∃v,w.cell? ⟨g,off+i,none⟩=some v/\H4 P w N x v
theorem ND.of {P:Nat->Prop}{N be len cap:Nat}{w:World}{op nm tx:ByteArray}{a k n:Int}{pa:Option Addr}{kids:List PX}(he:Hg w be op a nm k n tx pa len cap)(hr:Ca P w (H4 P w N) pa len kids)(h:kids≠[]):∃g off,ND P N w be op nm g off len cap kids:=by
 obtain⟨b,e,f|⟨g,off,rfl,d,-,c⟩⟩:=hr
 ·exact absurd (List.length_eq_zero_iff.1 (by omega)) h
 ·exact⟨g,off,⟨a,k,n,tx,he⟩,d,b,c⟩
theorem ND.grew {P:Nat->Prop}{N be g off len cap:Nat}{w w':World}{op nm:ByteArray}{kids:List PX}(h:ND P N w be op nm g off len cap kids)(hg:Ag w w'):ND P N w' be op nm g off len cap kids:=by
 obtain⟨⟨a,k,n,l,d⟩,b,e,c⟩:=h;refine⟨⟨a,k,n,l,d.grew hg⟩,Nat.lt_of_lt_of_le b hg.below.size,e,fun i x q=>?_⟩;obtain⟨v,j,f⟩:=c i x q;exact⟨v,(World.cell?_of_block (w:=w) (hg.below.block g b)).trans j,f.grew hg⟩
theorem ND.cells {P:Nat->Prop}{N be g off len cap:Nat}{w:World}{op nm:ByteArray}{kids:List PX}(h:ND P N w be op nm g off len cap kids):w.cell? ⟨be,0,none⟩=some (.string op)/\w.cell? ⟨be,2,none⟩=some (.string nm)/\w.cell? ⟨be,8,none⟩=some (.slice (some ⟨g,off,none⟩) len cap)/\be<w.heap.size/\g<w.heap.size:=by
 obtain⟨⟨a,k,n,f,b⟩,c,e,d⟩:=h;exact⟨Aa b 0,Aa b 2,Aa b 8,Ab b,c⟩
end Go.Proofs.YtjbfcadeapphbaaGreatDoor.Sx
