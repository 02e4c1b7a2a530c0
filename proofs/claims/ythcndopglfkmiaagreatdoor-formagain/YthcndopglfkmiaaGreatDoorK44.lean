/- The reference: a module as text: plain parts, rows. -/
import Derived.Test.YthcndopglfkmiaaGreatDoorK40
import Derived.Test.YthcndopglfkmiaaGreatDoorK42
import Derived.Test.YthcndopglfkmiaaGreatDoorK43
namespace Go.Proofs.YthcndopglfkmiaaGreatDoor.Sx
open Go.RowKit Go.Sort
def Tl (word:List UInt8)(more:List (List UInt8)):List UInt8 :=
 if word=Bt then[32,61,32] else if word=Bq then[32,61,32,123]++B7 more++[125] else if word=Bu then[32,105,110,32]
 else if word=Al then(if more=[] then[] else[40]++B7 more++[41])++[32,61,61,32] else if word∈Eh then[32,61,61,32] else[]
def Lr (word name:List UInt8)(more:List (List UInt8))(ox:Option PX):List UInt8 :=
 (if word=Ga\/word=C4 then[102,97,105,114,32]++word else word)++[32]++name++Tl word more++(match ox with|none=>[]|some x=>x.tx)
def iL:List (List UInt8):=[Cy,Ga,C4,Bj,Bq,Al,Bt,Bu]++Eh
theorem Ki.tx {word name:List UInt8}{more:List (List UInt8)}{ox:Option PX}{l:List UInt8}(h:Ki word name more ox l):word∈iL/\(word=Bq\/word=Al\/more=[])/\l=Lr word name more ox:=by
 rcases h with⟨rfl,rfl,rfl,x,rfl,rfl⟩|⟨rfl|rfl,rfl,rfl,rfl⟩|⟨rfl,rfl,rfl,rfl⟩|⟨rfl,rfl,rfl⟩|⟨rfl,b,x,rfl,rfl⟩|⟨rfl,rfl,x,rfl,rfl⟩|⟨c,rfl,x,rfl,rfl⟩
 ·exact⟨by decide,by simp,by simp[Lr,Tl,Cy,Ga,C4,Bt,Bq,Bu,Al,Eh]⟩
 ·exact⟨by decide,by simp,by simp[Lr,Tl,Fm,Ga,C4,Bt,Bq,Bu,Al,Eh]⟩
 ·exact⟨by decide,by simp,by simp[Lr,Tl,Fm,Ga,C4,Bt,Bq,Bu,Al,Eh]⟩
 ·exact⟨by decide,by simp,by simp[Lr,Tl,Bj,Ga,C4,Bt,Bq,Bu,Al,Eh]⟩
 ·exact⟨by decide,by simp,by simp[Lr,Tl,Ga,C4,Bt,Bq]⟩
 ·exact⟨by decide,by simp,by simp[Lr,Tl,Ga,C4,Bt,Bq,Bu,Al,A4,b]⟩
 ·exact⟨by decide,by simp,by simp[Lr,Tl,Ga,C4,Bt,Bq,Bu,Al,A4]⟩
 ·have a:word=Bt\/word=Bu\/word=[97,99,116,105,111,110]\/word=[105,110,118,97,114,105,97,110,116]\/word=[112,114,111,112,101,114,116,121]:=by simpa [Eh] using c
  rcases a with rfl|rfl|rfl|rfl|rfl<;>exact⟨by decide,by simp,by simp[Lr,Tl,Ga,C4,Bt,Bq,Bu,Al,Eh,A4]⟩
end Go.Proofs.YthcndopglfkmiaaGreatDoor.Sx
