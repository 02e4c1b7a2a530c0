/- The reference: a module as text: plain parts, rows. -/
import Derived.Test.YtjbfcadeapphbaaGreatDoorK40
import Derived.Test.YtjbfcadeapphbaaGreatDoorK42
import Derived.Test.YtjbfcadeapphbaaGreatDoorK43
namespace Go.Proofs.YtjbfcadeapphbaaGreatDoor.Sx
open Go.RowKit Go.Sort
def Tq (word:List UInt8)(more:List (List UInt8)):List UInt8 :=
 if word=Bt then[32,61,32] else if word=Br then[32,61,32,123]++B9 more++[125] else if word=Bu then[32,105,110,32]
 else if word=Al then(if more=[] then[] else[40]++B9 more++[41])++[32,61,61,32] else if word∈Eh then[32,61,61,32] else[]
def Lr (word name:List UInt8)(more:List (List UInt8))(ox:Option PX):List UInt8 :=
 (if word=Ga\/word=C4 then[102,97,105,114,32]++word else word)++[32]++name++Tq word more++(match ox with|none=>[]|some x=>x.tx)
def iQ:List (List UInt8):=[Cy,Ga,C4,Bi,Br,Al,Bt,Bu]++Eh
theorem Ki.tx {word name:List UInt8}{more:List (List UInt8)}{ox:Option PX}{l:List UInt8}(h:Ki word name more ox l):word∈iQ/\(word=Br\/word=Al\/more=[])/\l=Lr word name more ox:=by
 rcases h with⟨rfl,rfl,rfl,x,rfl,rfl⟩|⟨rfl|rfl,rfl,rfl,rfl⟩|⟨rfl,rfl,rfl,rfl⟩|⟨rfl,rfl,rfl⟩|⟨rfl,b,x,rfl,rfl⟩|⟨rfl,rfl,x,rfl,rfl⟩|⟨c,rfl,x,rfl,rfl⟩
 ·exact⟨by decide,by simp,by simp[Lr,Tq,Cy,Ga,C4,Bt,Br,Bu,Al,Eh]⟩
 ·exact⟨by decide,by simp,by simp[Lr,Tq,Fm,Ga,C4,Bt,Br,Bu,Al,Eh]⟩
 ·exact⟨by decide,by simp,by simp[Lr,Tq,Fm,Ga,C4,Bt,Br,Bu,Al,Eh]⟩
 ·exact⟨by decide,by simp,by simp[Lr,Tq,Bi,Ga,C4,Bt,Br,Bu,Al,Eh]⟩
 ·exact⟨by decide,by simp,by simp[Lr,Tq,Ga,C4,Bt,Br]⟩
 ·exact⟨by decide,by simp,by simp[Lr,Tq,Ga,C4,Bt,Br,Bu,Al,A4,b]⟩
 ·exact⟨by decide,by simp,by simp[Lr,Tq,Ga,C4,Bt,Br,Bu,Al,A4]⟩
 ·have a:word=Bt\/word=Bu\/word=[97,99,116,105,111,110]\/word=[105,110,118,97,114,105,97,110,116]\/word=[112,114,111,112,101,114,116,121]:=by simpa [Eh] using c
  rcases a with rfl|rfl|rfl|rfl|rfl<;>exact⟨by decide,by simp,by simp[Lr,Tq,Ga,C4,Bt,Br,Bu,Al,Eh,A4]⟩
end Go.Proofs.YtjbfcadeapphbaaGreatDoor.Sx
