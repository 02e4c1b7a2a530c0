/- The reference: a module as text: plain parts, rows. -/
import Derived.Test.YthcndopglfkmiaaGreatDoorF43
import Derived.Test.YthcndopglfkmiaaGreatDoorF44
import Derived.Test.YthcndopglfkmiaaGreatDoorF46
import Derived.Test.YthcndopglfkmiaaGreatDoorF47
import Derived.Test.YthcndopglfkmiaaGreatDoorF45
import Derived.Test.YthcndopglfkmiaaGreatDoorF40
namespace Go.Proofs.YthcndopglfkmiaaGreatDoor.Sx
open Go.RowKit Go.Sort
theorem eR {N:Nat}(hP:PrT N)(P:Nat->Prop)(w:World)(be:Nat)(op nm tx:ByteArray)(a k n:Int)(pa:Option Addr)(len cap:Nat)(kids:List PX)(x:PX)(he:Av w be op a nm k n tx pa len cap)(hr:B8 P w (Fc P w N) pa len kids)(hm:Hq op.data.toList nm.data.toList k n tx.data.toList kids x)(hl:x.tx.length<=1000000000):Cg w be x:=by
 have b:op=⟨op.data.toList.toArray⟩:=aQ rfl;rcases hm with⟨h,l⟩|⟨h,rfl⟩|⟨h,rfl⟩|⟨h,rfl⟩|⟨h,rfl⟩|⟨h,rfl⟩|⟨h,rfl⟩|⟨h,rfl⟩|⟨h,rfl⟩|⟨h,rfl⟩|⟨h,e,f,j,rfl,rfl⟩|⟨h,e,f,rfl,rfl⟩|⟨h,e,f,rfl,rfl⟩|⟨h,e,f,rfl,rfl⟩|⟨h,e,rfl,rfl⟩|⟨h,e,rfl,rfl⟩|⟨h,e,rfl,rfl⟩|⟨h,e,f,rfl,rfl⟩|⟨h,e,f,j,rfl,rfl⟩|⟨h,e,f,rfl,rfl⟩
 ·rw[h] at b;subst b;exact Xu w be nm tx a k n pa len cap x he l hl
 ·rw[h] at b;subst b;exact aR w be nm tx a k n pa len cap he
 ·rw[h] at b;subst b;exact Xv w be nm tx a k n pa len cap he hl
 ·exact Qy hP P w be op nm tx a k n pa len cap kids he hr (.inl h) hl
 ·exact Qy hP P w be op nm tx a k n pa len cap kids he hr (.inr h) hl
 ·rw[h] at b;subst b;exact eM hP P w be nm tx a k n pa len cap kids he hr hl
 ·rw[h] at b;subst b;exact eN hP P w be nm tx a k n pa len cap kids he hr hl
 ·rw[h] at b;subst b;exact eO hP P w be nm tx a k n pa len cap kids he hr hl
 ·rw[h] at b;exact Nd w be 12 op nm tx a k n pa len cap he (.inl b) hl
 ·rw[h] at b;exact Nd w be 6 op nm tx a k n pa len cap he (.inr b) hl
 ·obtain rfl:len=3:=hr.1;obtain⟨g,c,d⟩:=ND.of he hr (by simp);rw[h] at b;subst b;exact iG hP w be g c cap nm e f j d hl
 ·obtain rfl:len=2:=hr.1;obtain⟨g,c,d⟩:=ND.of he hr (by simp);rw[h] at b;subst b;exact eQ hP w be g c cap nm e f d hl
 ·obtain rfl:len=2:=hr.1;obtain⟨g,c,d⟩:=ND.of he hr (by simp);rcases h with h|h
  ·refine Xw hP w be g c cap op nm e f d ?_ hl;simp only[Qo,List.mem_cons,List.not_mem_nil,or_false] at h;rcases h with h|h|h
   ·rw[h] at b;exact .inl b
   ·rw[h] at b;exact .inr (.inl b)
   ·rw[h] at b;exact .inr (.inr b)
  ·refine Xx hP w be g c cap op nm e f d ?_ hl;simp only[Dr,List.mem_cons,List.not_mem_nil,or_false] at h;rcases h with h|h
   ·rw[h] at b;exact .inl b
   ·rw[h] at b;exact .inr b
 ·obtain rfl:len=2:=hr.1;obtain⟨g,c,d⟩:=ND.of he hr (by simp);rw[h] at b;subst b;exact Vc hP w be g c cap nm e f d hl
 ·obtain rfl:len=1:=hr.1;obtain⟨g,c,d⟩:=ND.of he hr (by simp);rw[h] at b;subst b;exact eP hP w be g c cap nm e d hl
 ·obtain rfl:len=1:=hr.1;obtain⟨g,c,d⟩:=ND.of he hr (by simp);refine Vb hP w be g c cap op nm e d ?_ hl;simp only[En,List.mem_cons,List.not_mem_nil,or_false] at h;rcases h with h|h|h
  ·rw[h] at b;exact .inl b
  ·rw[h] at b;exact .inr (.inl b)
  ·rw[h] at b;exact .inr (.inr b)
 ·obtain rfl:len=1:=hr.1;obtain⟨g,c,d⟩:=ND.of he hr (by simp);refine Si hP w be g c cap op nm e d ?_ hl;simp only[Dq,List.mem_cons,List.not_mem_nil,or_false] at h;rcases h with h|h|h
  ·rw[h] at b;exact .inl b
  ·rw[h] at b;exact .inr (.inl b)
  ·rw[h] at b;exact .inr (.inr b)
 ·obtain rfl:len=2:=hr.1;obtain⟨g,c,d⟩:=ND.of he hr (by simp);have i:=Aa he 0;rw[h] at b;refine Lm w be op _ i (.inl b) ?_;subst b;exact Xy hP w be g c cap nm e f d hl
 ·obtain rfl:len=3:=hr.1;obtain⟨g,c,d⟩:=ND.of he hr (by simp);have i:=Aa he 0;rw[h] at b;refine Lm w be op _ i (.inr b) ?_;subst b;exact Vd hP w be g c cap nm e f j d hl
 ·obtain rfl:len=2:=hr.1;obtain⟨g,c,d⟩:=ND.of he hr (by simp);simp only[E0,List.map_cons,List.map_nil,List.mem_cons,List.not_mem_nil,or_false] at h;rcases h with h|h|h|h|h|h|h|h|h|h|h|h|h|h|h|h|h|h|h|h|h|h|h|h|h
  ·rw[h] at b;exact Qz hP w be g c cap op nm e f d (.inl b) hl
  ·rw[h] at b;exact Qz hP w be g c cap op nm e f d (.inr b) hl
  ·rw[h] at b;subst b;exact aW hP w be g c cap nm e f d hl
  ·rw[h] at b;subst b;exact aX hP w be g c cap nm e f d hl
  ·rw[h] at b;subst b;exact aY hP w be g c cap nm e f d hl
  ·rw[h] at b;subst b;exact aZ hP w be g c cap nm e f d hl
  ·rw[h] at b;exact Fw hP w be g c cap op nm e f d (.inl b) hl
  ·rw[h] at b;exact Fw hP w be g c cap op nm e f d (.inr (.inl b)) hl
  ·rw[h] at b;exact Fw hP w be g c cap op nm e f d (.inr (.inr (.inl b))) hl
  ·rw[h] at b;exact Fw hP w be g c cap op nm e f d (.inr (.inr (.inr (.inl b)))) hl
  ·rw[h] at b;exact Fw hP w be g c cap op nm e f d (.inr (.inr (.inr (.inr (.inl b))))) hl
  ·rw[h] at b;exact Fw hP w be g c cap op nm e f d (.inr (.inr (.inr (.inr (.inr (.inl b)))))) hl
  ·rw[h] at b;exact Fw hP w be g c cap op nm e f d (.inr (.inr (.inr (.inr (.inr (.inr (.inl b))))))) hl
  ·rw[h] at b;exact Fw hP w be g c cap op nm e f d (.inr (.inr (.inr (.inr (.inr (.inr (.inr b))))))) hl
  ·rw[h] at b;subst b;exact bB hP w be g c cap nm e f d hl
  ·rw[h] at b;subst b;exact bC hP w be g c cap nm e f d hl
  ·rw[h] at b;exact Hl hP w be g c cap op nm e f d (.inl b) hl
  ·rw[h] at b;exact Hl hP w be g c cap op nm e f d (.inr (.inl b)) hl
  ·rw[h] at b;exact Hl hP w be g c cap op nm e f d (.inr (.inr (.inl b))) hl
  ·rw[h] at b;exact Hl hP w be g c cap op nm e f d (.inr (.inr (.inr (.inl b)))) hl
  ·rw[h] at b;exact Hl hP w be g c cap op nm e f d (.inr (.inr (.inr (.inr b)))) hl
  ·rw[h] at b;exact Jd hP w be g c cap op nm e f d (.inl b) hl
  ·rw[h] at b;exact Jd hP w be g c cap op nm e f d (.inr (.inl b)) hl
  ·rw[h] at b;exact Jd hP w be g c cap op nm e f d (.inr (.inr (.inl b))) hl
  ·rw[h] at b;exact Jd hP w be g c cap op nm e f d (.inr (.inr (.inr b))) hl
theorem prT:∀n,PrT n
 | 0=>fun _ _ _ _ _ h=>absurd h id
 | n+1=>by
  have ih:=prT n;intro P w x v q h hl _;obtain⟨b,op,nm,tx,a,k,i,pa,len,cap,kids,rfl,h2,h3,h4,h5⟩:=h;exact eL w b q op x (Aa h3 0) (hY h5) hl (eR ih P w b op nm tx a k i pa len cap kids x h3 h4 h5 hl)
end Go.Proofs.YthcndopglfkmiaaGreatDoor.Sx
namespace Go.Proofs.YthcndopglfkmiaaGreatDoor.Sx
open Go.RowKit Go.Sort
theorem Td {w:World}{lo sz n:Nat}{e:TypeId}{sl:Value}{vs:List Value}(h:w.ownsRow lo e sz sl n vs){i:Nat}{v:Value}(hv:vs[i]?=some v):∃g cap,sl=.slice (some ⟨g,0,none⟩) n cap/\g<w.heap.size/\∀(j:Nat)(u:Value),vs[j]?=some u->w.cell? ⟨g,j,none⟩=some u:=by
 have a:=h.1;rcases h.2 with⟨rfl,d⟩|⟨g,cap,c,rfl,l,b,k,_,m,f⟩
 ·subst d;have:=(List.getElem?_eq_some_iff.1 hv).1;simp at a;subst a;simp at this
 ·refine⟨g,cap,rfl,Ac b,fun j u hu=>?_⟩;rw[Aa b];rw[<- f,List.getElem?_take] at hu;split at hu
  ·simpa using hu
  ·simp at hu
theorem iU {w:World}{lo sz n:Nat}{e:TypeId}{sl:Value}{vs:List Value}(h:w.ownsRow lo e sz sl n vs):n<=maxLen:=by
 rcases h.2 with⟨-,f⟩|⟨g,a,b,-,-,-,c,d,-⟩
 ·unfold maxLen;omega
 ·omega
theorem Fc.ptrT {P:Nat->Prop}{w:World}{n:Nat}{x:PX}{p:Option Addr}(h:Fc P w n x (.pointer p)):∃b,p=some ⟨b,0,none⟩:=by
 cases n with
 | zero=>exact absurd h id
 | succ n =>
  obtain⟨b,j,g,m,a,k,i,l,f,d,c,e,-⟩:=h;exact⟨b,by simpa using e⟩
theorem lU {b:ByteArray}{l:List UInt8}(h:b.data.toList=l):b=⟨l.toArray⟩:=by
 have e:b.data=l.toArray:=by rw[<- h]
 exact ByteArray.ext e
def Hx (l:List (List UInt8))(k:Nat):List UInt8:=Bj (l.take k)
theorem Q8 (l:List (List UInt8))(k:Nat)(x:List UInt8)(h:l[k]?=some x):Hx l (k+1)=Hx l k++(Br k++x):=by
 have a:=(List.getElem?_eq_some_iff.1 h).1;unfold Hx Bj;rw[List.take_add_one,h,Option.toList_some,Ny,List.length_take,Nat.zero_add,Nat.min_eq_left (by omega)]
theorem Te (l:List (List UInt8))(k:Nat)(h:l.length<=k):Hx l k=Bj l:=by
 unfold Hx;rw[List.take_of_length_le h]
theorem Yf (l:List (List UInt8))(k:Nat):(Hx l k).length<=(Bj l).length:=by
 have:=Va Br (l.take k) (l.drop k) 0;rw[List.take_append_drop] at this;exact this
def K0 (word:List UInt8)(more:List (List UInt8)):List UInt8 :=
 if word=Bl then[32,61,32] else if word=B1 then[32,61,32,123]++Bj more++[125] else if word=Bo then[32,105,110,32]
 else if word=Aq then(if more=[] then[] else[40]++Bj more++[41])++[32,61,61,32] else if word∈Ep then[32,61,61,32] else[]
def Gt (word name:List UInt8)(more:List (List UInt8))(ox:Option PX):List UInt8 :=
 (if word=Eb\/word=Bx then[102,97,105,114,32]++word else word)++[32]++name++K0 word more++(match ox with|none=>[]|some x=>x.tx)
def iV:List (List UInt8):=[Ea,Eb,Bx,Bz,B1,Aq,Bl,Bo]++Ep
theorem Jt.tx {word name:List UInt8}{more:List (List UInt8)}{ox:Option PX}{l:List UInt8}(h:Jt word name more ox l):word∈iV/\(word=B1\/word=Aq\/more=[])/\l=Gt word name more ox:=by
 rcases h with⟨rfl,rfl,rfl,x,rfl,rfl⟩|⟨rfl|rfl,rfl,rfl,rfl⟩|⟨rfl,rfl,rfl,rfl⟩|⟨rfl,rfl,rfl⟩|⟨rfl,b,x,rfl,rfl⟩|⟨rfl,rfl,x,rfl,rfl⟩|⟨c,rfl,x,rfl,rfl⟩
 ·exact⟨by decide,by simp,by simp[Gt,K0,Ea,Eb,Bx,Bl,B1,Bo,Aq,Ep]⟩
 ·exact⟨by decide,by simp,by simp[Gt,K0,Ew,Eb,Bx,Bl,B1,Bo,Aq,Ep]⟩
 ·exact⟨by decide,by simp,by simp[Gt,K0,Ew,Eb,Bx,Bl,B1,Bo,Aq,Ep]⟩
 ·exact⟨by decide,by simp,by simp[Gt,K0,Bz,Eb,Bx,Bl,B1,Bo,Aq,Ep]⟩
 ·exact⟨by decide,by simp,by simp[Gt,K0,Eb,Bx,Bl,B1]⟩
 ·exact⟨by decide,by simp,by simp[Gt,K0,Eb,Bx,Bl,B1,Bo,Aq,Bq,b]⟩
 ·exact⟨by decide,by simp,by simp[Gt,K0,Eb,Bx,Bl,B1,Bo,Aq,Bq]⟩
 ·have a:word=Bl\/word=Bo\/word=[97,99,116,105,111,110]\/word=[105,110,118,97,114,105,97,110,116]\/word=[112,114,111,112,101,114,116,121]:=by simpa [Ep] using c
  rcases a with rfl|rfl|rfl|rfl|rfl<;>exact⟨by decide,by simp,by simp[Gt,K0,Eb,Bx,Bl,B1,Bo,Aq,Ep,Bq]⟩
theorem Tf (word name:List UInt8)(more:List (List UInt8))(ox:Option PX):word.length+1+name.length+(K0 word more).length+(match ox with|none=>0|some x=>x.tx.length)<=(Gt word name more ox).length:=by
 unfold Gt;have h:word.length<=(if word=Eb\/word=Bx then[102,97,105,114,32]++word else word).length:=by
  split
  ·simp;omega
  ·exact Nat.le_refl _
 cases ox<;>simp only[List.length_append,List.length_cons,List.length_nil]<;>omega
theorem Tg {word:List UInt8}{more:List (List UInt8)}(h:word=B1\/word=Aq\/more=[]):(Bj more).length<=(K0 word more).length:=by
 rcases h with rfl|rfl|rfl
 ·simp[K0,Bl,B1];omega
 ·by_cases a:more=[]
  ·subst a;simp[Bj,Bh]
  ·simp[K0,Bl,B1,Bo,Aq,a];omega
 ·simp[Bj,Bh]
end Go.Proofs.YthcndopglfkmiaaGreatDoor.Sx
