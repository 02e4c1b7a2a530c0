/- The reference: a module as text: plain parts, rows. -/
import Derived.Test.YtjbfcadeapphbaaGreatDoorF37
import Derived.Test.YtjbfcadeapphbaaGreatDoorF45
namespace Go.Proofs.YtjbfcadeapphbaaGreatDoor.Sx
open Go.RowKit Go.Sort
theorem Ti {w:World}{lo sz n:Nat}{e:TypeId}{sl:Value}{vs:List Value}(h:w.ownsRow lo e sz sl n vs){i:Nat}{v:Value}(hv:vs[i]?=some v):∃g cap,sl=.slice (some ⟨g,0,none⟩) n cap/\g<w.heap.size/\∀(j:Nat)(u:Value),vs[j]?=some u->w.cell? ⟨g,j,none⟩=some u:=by
 have a:=h.1;rcases h.2 with⟨rfl,d⟩|⟨g,cap,c,rfl,l,b,k,_,m,f⟩
 ·subst d;have:=(List.getElem?_eq_some_iff.1 hv).1;simp at a;subst a;simp at this
 ·refine⟨g,cap,rfl,Ac b,fun j u hu=>?_⟩;rw[Aa b];rw[<- f,List.getElem?_take] at hu;split at hu
  ·simpa using hu
  ·simp at hu
theorem jA {w:World}{lo sz n:Nat}{e:TypeId}{sl:Value}{vs:List Value}(h:w.ownsRow lo e sz sl n vs):n<=maxLen:=by
 rcases h.2 with⟨-,f⟩|⟨g,a,b,-,-,-,c,d,-⟩
 ·unfold maxLen;omega
 ·omega
theorem Fc.ptrT {P:Nat->Prop}{w:World}{n:Nat}{x:PX}{p:Option Addr}(h:Fc P w n x (.pointer p)):∃b,p=some ⟨b,0,none⟩:=by
 cases n with
 | zero=>exact absurd h id
 | succ n =>
  obtain⟨b,j,g,m,a,k,i,l,f,d,c,e,-⟩:=h;exact⟨b,by simpa using e⟩
theorem mC {b:ByteArray}{l:List UInt8}(h:b.data.toList=l):b=⟨l.toArray⟩:=by
 have e:b.data=l.toArray:=by rw[<- h]
 exact ByteArray.ext e
def Hy (l:List (List UInt8))(k:Nat):List UInt8:=Bj (l.take k)
theorem Rc (l:List (List UInt8))(k:Nat)(x:List UInt8)(h:l[k]?=some x):Hy l (k+1)=Hy l k++(Br k++x):=by
 have a:=(List.getElem?_eq_some_iff.1 h).1;unfold Hy Bj;rw[List.take_add_one,h,Option.toList_some,N2,List.length_take,Nat.zero_add,Nat.min_eq_left (by omega)]
theorem Tj (l:List (List UInt8))(k:Nat)(h:l.length<=k):Hy l k=Bj l:=by
 unfold Hy;rw[List.take_of_length_le h]
theorem Yl (l:List (List UInt8))(k:Nat):(Hy l k).length<=(Bj l).length:=by
 have:=Vh Br (l.take k) (l.drop k) 0;rw[List.take_append_drop] at this;exact this
def K0 (word:List UInt8)(more:List (List UInt8)):List UInt8 :=
 if word=Bl then[32,61,32] else if word=B2 then[32,61,32,123]++Bj more++[125] else if word=Bo then[32,105,110,32]
 else if word=Aq then(if more=[] then[] else[40]++Bj more++[41])++[32,61,61,32] else if word∈Ep then[32,61,61,32] else[]
def Gu (word name:List UInt8)(more:List (List UInt8))(ox:Option PX):List UInt8 :=
 (if word=Eb\/word=Bz then[102,97,105,114,32]++word else word)++[32]++name++K0 word more++(match ox with|none=>[]|some x=>x.tx)
def jB:List (List UInt8):=[Ea,Eb,Bz,B1,B2,Aq,Bl,Bo]++Ep
theorem Jt.tx {word name:List UInt8}{more:List (List UInt8)}{ox:Option PX}{l:List UInt8}(h:Jt word name more ox l):word∈jB/\(word=B2\/word=Aq\/more=[])/\l=Gu word name more ox:=by
 rcases h with⟨rfl,rfl,rfl,x,rfl,rfl⟩|⟨rfl|rfl,rfl,rfl,rfl⟩|⟨rfl,rfl,rfl,rfl⟩|⟨rfl,rfl,rfl⟩|⟨rfl,b,x,rfl,rfl⟩|⟨rfl,rfl,x,rfl,rfl⟩|⟨c,rfl,x,rfl,rfl⟩
 ·exact⟨by decide,by simp,by simp[Gu,K0,Ea,Eb,Bz,Bl,B2,Bo,Aq,Ep]⟩
 ·exact⟨by decide,by simp,by simp[Gu,K0,Ew,Eb,Bz,Bl,B2,Bo,Aq,Ep]⟩
 ·exact⟨by decide,by simp,by simp[Gu,K0,Ew,Eb,Bz,Bl,B2,Bo,Aq,Ep]⟩
 ·exact⟨by decide,by simp,by simp[Gu,K0,B1,Eb,Bz,Bl,B2,Bo,Aq,Ep]⟩
 ·exact⟨by decide,by simp,by simp[Gu,K0,Eb,Bz,Bl,B2]⟩
 ·exact⟨by decide,by simp,by simp[Gu,K0,Eb,Bz,Bl,B2,Bo,Aq,Bq,b]⟩
 ·exact⟨by decide,by simp,by simp[Gu,K0,Eb,Bz,Bl,B2,Bo,Aq,Bq]⟩
 ·have a:word=Bl\/word=Bo\/word=[97,99,116,105,111,110]\/word=[105,110,118,97,114,105,97,110,116]\/word=[112,114,111,112,101,114,116,121]:=by simpa [Ep] using c
  rcases a with rfl|rfl|rfl|rfl|rfl<;>exact⟨by decide,by simp,by simp[Gu,K0,Eb,Bz,Bl,B2,Bo,Aq,Ep,Bq]⟩
theorem Tl (word name:List UInt8)(more:List (List UInt8))(ox:Option PX):word.length+1+name.length+(K0 word more).length+(match ox with|none=>0|some x=>x.tx.length)<=(Gu word name more ox).length:=by
 unfold Gu;have h:word.length<=(if word=Eb\/word=Bz then[102,97,105,114,32]++word else word).length:=by
  split
  ·simp;omega
  ·exact Nat.le_refl _
 cases ox<;>simp only[List.length_append,List.length_cons,List.length_nil]<;>omega
theorem Tm {word:List UInt8}{more:List (List UInt8)}(h:word=B2\/word=Aq\/more=[]):(Bj more).length<=(K0 word more).length:=by
 rcases h with rfl|rfl|rfl
 ·simp[K0,Bl,B2];omega
 ·by_cases a:more=[]
  ·subst a;simp[Bj,Bh]
  ·simp[K0,Bl,B2,Bo,Aq,a];omega
 ·simp[Bj,Bh]
end Go.Proofs.YtjbfcadeapphbaaGreatDoor.Sx
