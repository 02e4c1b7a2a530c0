/- The reference: declarations: atoms. -/
import Derived.Test.YtjbfcadeapphbaaGreatDoorK35
namespace Go.Proofs.YtjbfcadeapphbaaGreatDoor.Sx
open Go.RowKit Go.Sort
theorem bF {w:World}{base b2 sz n:Nat}{e:TypeId}{sl:Value}{vs:List Value}(hb:b2<=base)(h:w.ownsRow base e sz sl n vs):w.ownsRow b2 e sz sl n vs:=by
 refine⟨h.1,?_⟩;rcases h.2 with d|⟨g,a,b,c,f,r⟩
 ·exact .inl d
 ·exact .inr ⟨g,a,b,c,Nat.le_trans hb f,r⟩
end Go.Proofs.YtjbfcadeapphbaaGreatDoor.Sx
