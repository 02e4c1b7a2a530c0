/- Plain: what is written once more is not empty. -/
import Derived.Test.YtjbfcadeapphbaaGreatDoorE00
import Derived.Test.YtjbfcadeapphbaaGreatDoorE03
namespace Go.Proofs.YtjbfcadeapphbaaGreatDoor.Sx
def btw:Bool->List UInt8->Nat
 | _,[]=>0
 | r,c::l=>if C9 c||(c==35||r) then 1+btw ((c==35||r)&&!(c==10)) l else 0
theorem Pn:∀(r:Bool)(l:List UInt8),btw r l<=l.length
 | _,[]=>Nat.le_refl _
 | r,c::l=>by
  rw[btw];split
  ·have:=Pn ((c==35||r)&&!(c==10)) l;simp;omega
  ·simp
def H6:List (List UInt8):=[[61,61],[58,61],[47,61],[60,61],[62,61],[60,60],[62,62],[46,46],[45,62],[43,43]]
def Km:List UInt8:=[61,60,62,43,45,42,47,37,40,41,123,125,91,93,44,58,46,39]
def El (l:List UInt8):Nat:=if decide (1<l.length)&&H6.contains (l.take 2) then 2 else if Km.contains (Cw l 0) then 1 else 0
def Dp (l:List UInt8):Nat×Nat :=
 if l.length=0 then(0,0)
 else if A2 (Cw l 0) then(1,Bw l)
 else if Bf (Cw l 0) then(if J0 l then 2 else 5,Bw l)
 else if (Cw l 0).toNat=34 then Cu (l.drop 1) 1
 else if El l=0 then(5,0) else(4,El l)
theorem Kn:∀(l:List UInt8)(i:Nat),(Cu l i).2<=i+l.length
 | [],i=>by simp[Cu]
 | c::r,i=>by
  have:=Kn r (i+1);simp only[Cu,List.length_cons]
  repeat' split
  all_goals simp
  all_goals omega
theorem Zz (l:List UInt8)(h:0<l.length):El l<=l.length:=by
 unfold El;split
 ·rename_i q;simp at q;omega
 ·split<;>omega
theorem Wm (l:List UInt8):(Dp l).2<=l.length:=by
 unfold Dp;split
 ·simp
 ·rename_i h0
  repeat' split
  ·exact Ek l
  ·exact Ek l
  ·exact Ek l
  ·have:=Kn (l.drop 1) 1;simp at this |-;omega
  ·exact Nat.zero_le _
  ·exact Zz l (by omega)
def Gv (T:List UInt8):Nat->Nat
 | 0=>0
 | i+1=>Gv T i+btw false (T.drop (Gv T i))+(Dp (T.drop (Gv T i+btw false (T.drop (Gv T i))))).2
def atF (T:List UInt8)(i:Nat):Nat:=Gv T i+btw false (T.drop (Gv T i))
def Jd (T:List UInt8)(i:Nat):Nat:=(Dp (T.drop (atF T i))).2
def clF (T:List UInt8)(i:Nat):Nat:=(Dp (T.drop (atF T i))).1
def txF (T:List UInt8)(i:Nat):List UInt8:=(T.drop (atF T i)).take (Jd T i)
def tkF (T:List UInt8)(i:Nat):Tk:=⟨clF T i,txF T i,atF T i⟩
theorem Ko (T:List UInt8)(i:Nat):Gv T (i+1)=atF T i+Jd T i:=rfl
theorem J2 (T:List UInt8):∀i,Gv T i<=T.length
 | 0=>Nat.zero_le _
 | i+1=>by
  have h:=J2 T i;have h1:=Pn false (T.drop (Gv T i));have h2:=Wm (T.drop (Gv T i+btw false (T.drop (Gv T i))));rw[Gv];simp at h1 h2;omega
theorem Hm (T:List UInt8)(i:Nat):Gv T i<=atF T i/\atF T i<=T.length/\atF T i+Jd T i<=T.length:=by
 have h:=J2 T i;have b:=Pn false (T.drop (Gv T i));have a:=Wm (T.drop (atF T i));unfold Jd;unfold atF at a |-;simp at b a;omega
theorem E0 (T:List UInt8)(i:Nat):(txF T i).length=Jd T i:=by
 have:=Hm T i;unfold txF;simp;omega
theorem cA (l:List UInt8)(a:Nat):Bz ⟨(Dp l).1,l.take (Dp l).2,a⟩:=by
 cases l with
 | nil=>exact⟨fun c r h=>by simp at h,.inl rfl,fun _=>rfl,fun h=>by simp[Dp] at h,fun h=>by simp[Dp] at h⟩
 | cons c l =>
  have m:Cw (c::l) 0=c:=rfl;have d:∀(k:Nat)(c':UInt8)(r:List UInt8),List.take k (c::l)=c'::r->c'=c:=by
   intro k c' r h;cases k with
   | zero=>simp at h
   | succ k=>simp at h;exact h.1.symm
  have o:=Ez l 1;have p:∀(l:List UInt8)(i:Nat),(Cu l i).1=3->i+1<=(Cu l i).2:=by
   intro l
   induction l with
   | nil=>intro i h;simp[Cu] at h
   | cons c r ih =>
    intro i h;simp only[Cu] at h |-
    repeat' split at h
    ·rename_i e;rw[if_pos e];exact Nat.le_refl _
    ·rename_i e1 e2;rw[if_neg e1,if_pos e2];have:=ih (i+1) h;omega
    ·simp at h
  have s:=Kn l 1;have e:Dp (c::l)=(if A2 c then(1,Bw (c::l)) else if Bf c then(if J0 (c::l) then 2 else 5,Bw (c::l)) else if c.toNat=34 then Cu l 1 else if El (c::l)=0 then(5,0) else(4,El (c::l))):=by
   unfold Dp;rw[if_neg (by simp),m];rfl
  rw[e];cases f:A2 c with
  | true =>
   simp only[if_true];exact⟨fun _ _ _ _=>rfl,.inr (.inl rfl),fun h=>by simp at h,fun h=>by simp at h,fun h=>by simp at h⟩
  | false =>
   simp only[Bool.false_eq_true,if_false];cases b:Bf c with
   | true =>
    simp only[if_true];have n:Av c=true\/c=95\/c=34:=by
     simp only[Bf,f,Bool.false_or,Bool.or_eq_true,beq_iff_eq] at b;rcases b with b|b
     ·exact .inl b
     ·exact .inr (.inl b)
    refine⟨fun c' r hc hl=>?_,?_,fun h=>?_,fun _ c' r hc=>?_,fun h=>?_⟩
    ·rw[d _ _ _ hc,f] at hl;simp at hl
    ·show(if _ then 2 else 5)=0\/_;split<;>simp
    ·exfalso;revert h;show(if _ then 2 else 5)=0->_;split<;>simp
    ·rw[d _ _ _ hc];exact n
    ·exfalso;revert h;show(if _ then 2 else 5)=3->_;split<;>simp
   | false =>
    simp only[Bool.false_eq_true,if_false];by_cases j:c.toNat=34
    ·rw[if_pos j];have g:c=34:=by rw[<- UInt8.toNat_inj];exact j
     refine⟨fun c' r hc hl=>?_,?_,fun h=>?_,fun _ c' r hc=>?_,fun h=>?_⟩
     ·rw[d _ _ _ hc,f] at hl;simp at hl
     ·rcases o with q|q
      ·exact .inr (.inr (.inr (.inl q)))
      ·exact .inr (.inr (.inr (.inr (.inr q))))
     ·have h:(Cu l 1).1=0:=h;omega
     ·rw[d _ _ _ hc];exact .inr (.inr g)
     ·have:=p l 1 h;simp;omega
    ·rw[if_neg j];by_cases g:El (c::l)=0
     ·rw[if_pos g];exact⟨fun c' r hc=>by simp at hc,by simp,fun h=>by simp at h,fun _ c' r hc=>by simp at hc,fun h=>by simp at h⟩
     ·rw[if_neg g];refine⟨fun c' r hc hl=>?_,by simp,fun h=>by simp at h,fun h=>by simp at h,fun h=>by simp at h⟩;rw[d _ _ _ hc,f] at hl;simp at hl
theorem Kq (T:List UInt8)(i:Nat):Bz (tkF T i):=cA (T.drop (atF T i)) _
theorem L9 (l:List UInt8)(h:(Dp l).1≠0)(h5:(Dp l).1≠5):0<(Dp l).2:=by
 cases l with
 | nil=>simp[Dp] at h
 | cons c l =>
  have b:Cw (c::l) 0=c:=rfl;have e:Dp (c::l)=(if A2 c then(1,Bw (c::l)) else if Bf c then(if J0 (c::l) then 2 else 5,Bw (c::l)) else if c.toNat=34 then Cu l 1 else if El (c::l)=0 then(5,0) else(4,El (c::l))):=by
   unfold Dp;rw[if_neg (by simp),b];rfl
  have a:Bf c=true->0<Bw (c::l):=fun q=>by simp[Bw,q]
  have d:A2 c=true->Bf c=true:=fun q=>by simp[Bf,q]
  have f:∀(l:List UInt8)(i:Nat),i<=(Cu l i).2:=by
   intro l
   induction l with
   | nil=>intro i;simp[Cu]
   | cons c r ih =>
    intro i;simp only[Cu]
    repeat' split
    ·simp
    ·have:=ih (i+1);omega
    ·simp
  rw[e] at h5 |-;split at h5
  ·rename_i q;rw[if_pos q];exact a (d q)
  ·rename_i q;rw[if_neg q]
   split at h5
   ·rename_i q;rw[if_pos q];exact a q
   ·rename_i q;rw[if_neg q]
    split at h5
    ·rename_i q;rw[if_pos q];exact Nat.lt_of_lt_of_le Nat.zero_lt_one (f l 1)
    ·rename_i q;rw[if_neg q]
     split at h5
     ·simp at h5
     ·rename_i q;rw[if_neg q];exact Nat.pos_of_ne_zero q
theorem Rl (T:List UInt8):∃N,N<=T.length/\(clF T N=0\/clF T N=5)/\∀i,i<N->clF T i≠0/\clF T i≠5:=by
 have b:∀k i,T.length-Gv T i<=k->i<=Gv T i->(∀j,j<i->clF T j≠0/\clF T j≠5)->∃N,N<=T.length/\(clF T N=0\/clF T N=5)/\∀j,j<N->clF T j≠0/\clF T j≠5:=by
  intro k
  induction k with
  | zero =>
   intro i f d a;have h:=J2 T i;have c:=Hm T i;refine⟨i,by omega,.inl ?_,a⟩;unfold clF;rw[List.drop_of_length_le (by omega)];rfl
  | succ k ih =>
   intro i f d a;by_cases q:clF T i=0\/clF T i=5
   ·exact⟨i,by have:=J2 T i;omega,q,a⟩
   ·have g:=L9 (T.drop (atF T i)) (fun e=>q (.inl e)) (fun e=>q (.inr e));have c:=Hm T i;have l:=Ko T i;have m:0<Jd T i:=g;exact ih (i+1) (by omega) (by omega) fun j hj'=>by
     rcases Nat.lt_or_eq_of_le (Nat.le_of_lt_succ hj') with r|r
     ·exact a j r
     ·subst r;exact⟨fun e=>q (.inl e),fun e=>q (.inr e)⟩
 exact b T.length 0 (by omega) (Nat.le_refl _) (fun j h=>absurd h (by omega))
theorem Tv:∀m∈C3,∃c r,m=c::r/\Av c=false/\c≠95/\c≠34:=by
 have h:C3.all (fun m=>match m with | []=>false|c::_=>!Av c&&c != 95&&c != 34)=true:=by decide
 intro m a;have:=(List.all_eq_true.1 h) m a;cases m with
 | nil=>simp at this
 | cons c r=>simp at this;exact⟨c,r,rfl,this.1.1,this.1.2,this.2⟩
theorem Hb {t:Tk}(h:Bz t){m:List UInt8}(hm:m∈C3)(e:t.tx=m):t.cl=1\/t.cl=4:=by
 obtain⟨c,r,rfl,a,b,d⟩:=Tv m hm;rcases h.sort with q|q|q|q|q|q
 ·rw[h.none q] at e;simp at e
 ·exact .inl q
 ·have:=h.odd (.inl q) _ _ e;simp[a,b,d] at this
 ·have:=h.odd (.inr (.inl q)) _ _ e;simp[a,b,d] at this
 ·exact .inr q
 ·have:=h.odd (.inr (.inr q)) _ _ e;simp[a,b,d] at this
theorem Wn {T:List UInt8}{N:Nat}(h:clF T N=0\/clF T N=5):Bn (tkF T) N :=
 ⟨h,fun m hm e=>by have:=Hb (Kq T N) hm e;have:clF T N=1\/clF T N=4:=this;omega⟩
theorem A3 {β γ:Type}{a:RX β}{k:β->Nat->RX γ}{y:γ}{l:Nat}(h:bX a k=some (.ok (y,l))):∃x j,a=some (.ok (x,j))/\k x j=some (.ok (y,l)):=by
 rcases a with _|(e|⟨x,j⟩)
 ·simp[bX] at h
 ·simp[bX] at h
 ·exact⟨x,j,rfl,h⟩
section
variable {K:Nat->Tk}
theorem Bt {γ:Type}{m:List UInt8}{i:Nat}{k:Nat->RX γ}{y:γ}{l:Nat}(h:Cj K m i k=some (.ok (y,l))):k (i+1)=some (.ok (y,l)):=by
 unfold Cj at h;split at h
 ·exact h
 ·simp[Cz] at h
theorem Ce {γ:Type}{d i:Nat}{k:Nat->RX γ}{y:γ}{l:Nat}(h:Cs K d i k=some (.ok (y,l))):k (i+1)=some (.ok (y,l)):=by
 unfold Cs at h;split at h
 ·simp[Cz] at h
 ·exact h
theorem Hs {i:Nat}{n:List UInt8}{j:Nat}(h:C0 K i=some (.ok (n,j))):j=i+1/\n.length<=16:=by
 unfold C0 at h;split at h
 ·simp[Cz] at h
 split at h
 ·simp[Cz] at h
 ·rename_i q
  simp only[okX,Option.some.injEq,Except.ok.injEq,Prod.mk.injEq] at h;exact⟨h.2.symm,by rw[<- h.1];omega⟩
theorem Ba {β:Type}{x y:β}{i j:Nat}(h:okX x i=some (.ok (y,j))):y=x/\j=i:=by
 simp only[okX,Option.some.injEq,Except.ok.injEq,Prod.mk.injEq] at h;exact⟨h.1.symm,h.2.symm⟩
def kl (x:PX):Nat:=match x.key with|some n=>n.length|none=>0
def CX (i:Nat)(r:RX PX):Prop:=∀x j,r=some (.ok (x,j))->i<j/\x.tx.length+kl x+10<=(j-i)*10000
def wP (x:PX):Nat:=x.tx.length+kl x+10
def wPP (p:PX×PX):Nat:=p.1.tx.length+kl p.1+p.2.tx.length+kl p.2+20
theorem I7 {β:Type}(g:β->Nat){cl:List UInt8}{item:Nat->RX β}(hi:∀i x j,item i=some (.ok (x,j))->i<j/\g x<=(j-i)*10000) :
  ∀m acc i l j,Bq K cl item m acc i=some (.ok (l,j))->i<j/\(l.map g).sum+10000<=(acc.map g).sum+(j-i)*10000
 | 0,_,_,_,_,h=>by simp[Bq] at h
 | m+1,acc,i,l,j,h=>by
  rw[Bq] at h;obtain⟨x,k,h1,h2⟩:=A3 h;have q:=hi i x k h1;split at h2
  ·obtain⟨rfl,rfl⟩:=Ba h2;simp only[List.map_append,List.map_cons,List.map_nil,List.sum_append,List.sum_cons,List.sum_nil];omega
  ·have h3:=I7 g hi m _ _ l j (Bt h2);simp only[List.map_append,List.map_cons,List.map_nil,List.sum_append,List.sum_cons,List.sum_nil] at h3;omega
theorem Iw {sep:Nat->List UInt8}(hs:∀i,(sep i).length<=2):∀(l:List PX)(i:Nat),(Bd sep i (l.map PX.tx)).length<=(l.map wP).sum
 | [],i=>by simp[Bd]
 | a::l,i=>by
  have h1:=Iw hs l (i+1);have h2:=hs i;simp only[List.map_cons,Bd,List.length_append,List.sum_cons,wP] at h1 |-;omega
theorem Ui (i:Nat):(Co i).length<=2:=by unfold Co;split<;>simp
theorem Xv (i:Nat):(Cm i).length<=2:=by unfold Cm;split<;>(try split)<;>simp
theorem Ix (l:List PX):(Cb l).length<=(l.map wP).sum:=Iw Ui l 0
theorem Sa:∀l:List (PX×PX),((l.flatMap fun p=>[p.1,p.2]).map wP).sum=(l.map wPP).sum
 | []=>rfl
 | a::l=>by
  have:=Sa l;simp only[List.flatMap_cons,List.map_append,List.sum_append,List.map_cons,List.map_nil,List.sum_cons,List.sum_nil,wP,wPP] at this |-;omega
theorem Gc (x:PX)(n:Nat):(Ai x n).length<=x.tx.length+2:=by unfold Ai;split<;>simp
variable {self:Nat->Nat->Nat->RX PX} (hT:∀i,(K i).tx.length<=4000) (hs:∀n d i,CX i (self n d i))
theorem Xw (hs:∀n d i,CX i (self n d i))(d i:Nat)(p:PX×PX)(j:Nat)(h:Ev K self d i=some (.ok (p,j))):i<j/\wPP p<=(j-i)*10000:=by
 unfold Ev at h;obtain⟨a,f,c,h⟩:=A3 h;have k:=hs _ _ _ _ _ c;obtain⟨b,g,e,h⟩:=A3 (Bt h);have l:=hs _ _ _ _ _ e;obtain⟨rfl,rfl⟩:=Ba h;simp only[wPP];omega
theorem Xx (op n:List UInt8)(a b:PX):(Cc op n a b).tx.length<=op.length+n.length+a.tx.length+b.tx.length+15:=by
 have:=Gc a 8;unfold Cc;split<;>simp only[Ep,List.length_append,List.length_cons,List.length_nil]<;>omega
theorem Mn (hs:∀n d i,CX i (self n d i))(op:List UInt8)(ho:op.length<=4000)(d i:Nat)(x:PX)(j:Nat)(h:Gi K self op d i=some (.ok (x,j))):i<j/\x.tx.length+kl x+10<=(j-i)*10000:=by
 unfold Gi at h;obtain⟨n,k,c,h⟩:=A3 h;have o:=Hs c;obtain⟨a,l,e,h⟩:=A3 (Bt h);have p:=hs _ _ _ _ _ e;obtain⟨b,m,f,h⟩:=A3 (Bt h);have q:=hs _ _ _ _ _ f;obtain⟨rfl,rfl⟩:=Ba h;have:=Xx op n a b;have g:kl (Cc op n a b)=0:=by unfold Cc;split<;>rfl
 omega
theorem Qb (hT:∀i,(K i).tx.length<=4000)(hs:∀n d i,CX i (self n d i))(d i:Nat):CX i (Ct K self d i):=by
 intro x j h;unfold Ct at h;have h:=Ce h;split at h
 ·unfold Fw at h;obtain⟨a,k,e,h⟩:=A3 h;have o:=hs _ _ _ _ _ e;obtain⟨b,l,f,h⟩:=A3 (Bt h);have p:=hs _ _ _ _ _ f;obtain⟨c,m,g,h⟩:=A3 (Bt h);have q:=hs _ _ _ _ _ g;obtain⟨rfl,rfl⟩:=Ba h;simp only[dIf,kl,List.length_append,List.length_cons,List.length_nil];omega
 split at h
 ·unfold Gy at h;obtain⟨n,k,e,h⟩:=A3 h;have o:=Hs e;obtain⟨a,l,f,h⟩:=A3 (Bt h);have p:=hs _ _ _ _ _ f;obtain⟨b,m,g,h⟩:=A3 (Bt h);have q:=hs _ _ _ _ _ g;obtain⟨rfl,rfl⟩:=Ba h;simp only[Hy,kl,List.length_append,List.length_cons,List.length_nil];omega
 ·have:=Mn hs _ (hT i) _ _ _ _ h;omega
theorem Uj (hT:∀i,(K i).tx.length<=4000)(hs:∀n d i,CX i (self n d i))(r d i:Nat):CX i (C5 K self r d i):=by
 intro x j h;unfold C5 at h;have e:=hT i;split at h
 ·obtain⟨n,b,a,h⟩:=A3 h;have c:=Hs a;obtain⟨rfl,rfl⟩:=Ba h;simp only[C2,kl,List.length_append,List.length_cons];omega
 ·obtain⟨y,b,a,h⟩:=A3 (Ce h);have c:=hs _ _ _ _ _ a;obtain⟨rfl,rfl⟩:=Ba h;have:=Gc y r;simp only[Bu,kl];split<;>simp only[List.length_append,List.length_cons]<;>omega
theorem Oj (hs:∀n d i,CX i (self n d i))(m:Nat)(n:List UInt8)(hn:n.length<=4000)(d i:Nat):CX i (Gz K self m n d i):=by
 intro x j h;unfold Gz at h;obtain⟨l,c,a,h⟩:=A3 (Ce h);have b:=I7 wP (fun i x j e=>hs _ _ _ _ _ e) _ _ _ _ _ a;obtain⟨rfl,rfl⟩:=Ba h;have:=Ix l;simp only[C6,kl,List.length_append,List.length_cons,List.length_nil,List.map_nil,List.sum_nil] at b |-;omega
theorem Uk (hs:∀n d i,CX i (self n d i))(m d i:Nat):CX i (Ew K self m d i):=by
 intro x j h;unfold Ew at h;obtain⟨n,b,a,h⟩:=A3 h;have c:=Hs a;split at h
 ·obtain⟨rfl,rfl⟩:=Ba h;simp only[B8,kl,List.length_append,List.length_cons,List.length_nil];omega
 split at h
 ·have:=Oj hs m n (by omega) _ _ _ _ h;omega
 ·obtain⟨rfl,rfl⟩:=Ba h;simp only[B8,kl];omega
theorem Xy (hT:∀i,(K i).tx.length<=4000)(hs:∀n d i,CX i (self n d i))(m d i:Nat):CX i (D3 K self m d i):=by
 intro x j h;unfold D3 at h;have a:=hT i;split at h
 ·obtain⟨rfl,rfl⟩:=Ba h;simp only[B8,kl];omega
 split at h
 ·split at h
  ·have:=Oj hs m _ a _ _ _ _ h;omega
  ·simp[Cz] at h
 ·exact Uk hs m d i x j h
theorem Sb (hs:∀n d i,CX i (self n d i)){cl:List UInt8}(m d i:Nat)(l:List PX)(j:Nat)(h:Jc K cl (self 0 d) m i=some (.ok (l,j))):i<j/\(l.map wP).sum+10000<=(j-i)*10000:=by
 unfold Jc at h;split at h
 ·obtain⟨rfl,rfl⟩:=Ba h;simp
 ·have:=I7 wP (fun i x j e=>hs _ _ _ _ _ e) _ _ _ _ _ h;simpa using this
theorem aF (hT:∀i,(K i).tx.length<=4000)(hs:∀n d i,CX i (self n d i))(m d i:Nat):CX i (Kj K self m d i):=by
 intro x j h;unfold Kj at h;split at h
 ·obtain⟨y,b,a,h⟩:=A3 h;have:=Mn hs _ (hT i) _ _ _ _ a;obtain⟨rfl,rfl⟩:=Ba (Bt h);omega
 ·obtain⟨l,b,a,h⟩:=A3 h;have c:=Sb hs _ _ _ _ _ a;have:=Ix l;obtain⟨rfl,rfl⟩:=Ba h;simp only[Hl,kl,List.length_append,List.length_cons,List.length_nil];omega
theorem Qc (hT:∀i,(K i).tx.length<=4000)(hs:∀n d i,CX i (self n d i))(m d i:Nat):CX i (Bp K self m d i):=by
 intro x j h;unfold Bp at h;split at h
 ·obtain⟨y,c,a,h⟩:=A3 (Ce h);have b:=hs _ _ _ _ _ a;obtain⟨rfl,rfl⟩:=Ba (Bt h);omega
 split at h
 ·have:=aF hT hs m _ _ _ _ (Ce h);omega
 split at h
 ·obtain⟨l,c,a,h⟩:=A3 (Ce h);have b:=Sb hs _ _ _ _ _ a;have:=Ix l;obtain⟨rfl,rfl⟩:=Ba h;simp only[Gh,kl,List.length_append,List.length_cons,List.length_nil];omega
 split at h
 ·obtain⟨l,c,a,h⟩:=A3 (Ce h);have b:=I7 wPP (fun i x j e=>Xw hs _ _ _ _ e) _ _ _ _ _ a;have:=Iw Xv (l.flatMap fun p=>[p.1,p.2]) 0;rw[Sa] at this;obtain⟨rfl,rfl⟩:=Ba h;simp only[Gt,kl,List.length_append,List.length_cons,List.length_nil,List.map_nil,List.sum_nil] at b |-;omega
 ·simp[Cz] at h
theorem Ul (hN:∀i v,Lib.parseIntB 64 (K i).tx=.ok v->(Lib.itoa v).length<=100)(hT:∀i,(K i).tx.length<=4000)(hs:∀n d i,CX i (self n d i))(m d i:Nat):CX i (Eh K self m d i):=by
 intro x j h;unfold Eh at h;have b:=hT i;split at h
 ·split at h
  ·rename_i v hv
   obtain⟨rfl,rfl⟩:=Ba h;have:=hN i v hv;simp only[B8,kl];omega
  ·simp[Cz] at h
 split at h
 ·obtain⟨rfl,rfl⟩:=Ba h;have a:kl (Du (((K i).tx.take ((K i).tx.length-1)).drop 1))<=4000:=by
   unfold kl Du;simp only;split
   ·rename_i n hn
    split at hn
    ·simp only[Option.some.injEq] at hn;rw[<- hn,List.length_drop,List.length_take];omega
    ·simp at hn
   ·omega
  refine⟨by omega,?_⟩;have:(Du (((K i).tx.take ((K i).tx.length-1)).drop 1)).tx.length<=4002:=by
   simp only[Du,List.length_append,List.length_cons,List.length_nil,List.length_drop,List.length_take];omega
  omega
 split at h
 ·exact Xy hT hs m d i x j h
 ·exact Qc hT hs m d i x j h
theorem Wp (f k:PX):(dAt f k).tx.length+kl (dAt f k)<=f.tx.length+k.tx.length+kl k+4:=by
 have:=Gc f 13;have a:kl (dAt f k)=0:=rfl;rw[a];simp only[dAt,List.length_append];split
 ·rename_i n hn
  have:kl k=n.length:=by simp[kl,hn]
  simp only[List.length_cons];omega
 ·simp only[List.length_cons,List.length_append,List.length_nil];omega
theorem aG (f k v:PX):(Ed f k v).tx.length+kl (Ed f k v)<=f.tx.length+k.tx.length+v.tx.length+8:=by
 have:=Gc f 13;have a:kl (Ed f k v)=0:=rfl;rw[a];simp only[Ed,List.length_append,List.length_cons,List.length_nil];omega
theorem aH (n:List UInt8):(Du n).tx.length+kl (Du n)<=2*n.length+2:=by
 have a:(Du n).tx.length=n.length+2:=by simp[Du]
 have b:kl (Du n)<=n.length:=by
  unfold kl Du;simp only;split
  ·rename_i m hm
   split at hm
   ·simp only[Option.some.injEq] at hm;rw[hm];omega
   ·simp at hm
  ·omega
 omega
theorem Hc (hs:∀n d i,CX i (self n d i))(M d:Nat):∀m x i y j,Bj K self M d m x i=some (.ok (y,j))->i<=j/\y.tx.length+kl y<=x.tx.length+kl x+(j-i)*10000
 | 0,_,_,_,_,h=>by simp[Bj] at h
 | m+1,x,i,y,j,h=>by
  rw[Bj] at h;split at h
  ·obtain⟨k,j1,h1,h⟩:=A3 (Ce h);have q1:=hs _ _ _ _ _ h1;split at h
   ·obtain⟨v,j2,h2,h⟩:=A3 h;have q2:=hs _ _ _ _ _ h2;have q3:=Hc hs M d m _ _ _ _ (Bt h);have:=aG x k v;omega
   ·have q3:=Hc hs M d m _ _ _ _ (Bt h);have:=Wp x k;omega
  split at h
  ·obtain⟨n,j1,h1,h⟩:=A3 h;have q1:=Hs h1;have q3:=Hc hs M d m _ _ _ _ h;have:=Wp x (Du n);have:=aH n;omega
  ·obtain⟨rfl,rfl⟩:=Ba h;omega
theorem Um (hN:∀i v,Lib.parseIntB 64 (K i).tx=.ok v->(Lib.itoa v).length<=100)(hT:∀i,(K i).tx.length<=4000)(hs:∀n d i,CX i (self n d i))(m d i:Nat):CX i (Ei K self m d i):=by
 intro x j h;unfold Ei at h;obtain⟨y,b,a,h⟩:=A3 h;have c:=Ul hN hT hs m d i _ _ a;have e:=Hc hs _ _ _ _ _ _ _ h;omega
theorem Mo (hT:∀i,(K i).tx.length<=4000)(hs:∀n d i,CX i (self n d i))(rank d:Nat):∀m held x i y j,Bv K self rank d m held x i=some (.ok (y,j))->i<=j/\y.1.tx.length+kl y.1<=x.tx.length+kl x+(j-i)*10000
 | 0,_,_,_,_,_,h=>by simp[Bv] at h
 | m+1,held,x,i,y,j,h=>by
  rw[Bv] at h;split at h
  ·obtain⟨rfl,rfl⟩:=Ba h;simp
  ·obtain⟨z,j1,h1,h⟩:=A3 h;have q1:=hs _ _ _ _ _ h1;have q2:=Mo hT hs rank d m _ _ _ _ _ h;have p1:=Gc x (Ca (Ah (K i).tx));have p2:=Gc z (Bm (Ah (K i).tx));have ht:=hT i;have h0:kl (Bl (K i).tx x z)=0:=rfl;have:(Bl (K i).tx x z).tx.length<=x.tx.length+z.tx.length+4006:=by
    simp only[Bl,List.length_append,List.length_cons,List.length_nil];omega
   omega
theorem Xz (hN:∀i v,Lib.parseIntB 64 (K i).tx=.ok v->(Lib.itoa v).length<=100)(hT:∀i,(K i).tx.length<=4000)(hs:∀n d i,CX i (self n d i))(m rank d i:Nat):CX i (bX (Fq K self m rank d i) fun x j=>okX x.1 j):=by
 intro x j h;obtain⟨y,f,b,h⟩:=A3 h;obtain⟨rfl,rfl⟩:=Ba h;unfold Fq at b;split at b
 ·simp[Cz] at b
 obtain⟨z,c,a,e⟩:=A3 b;have k:=Mo hT hs _ _ _ _ _ _ _ _ e;have g:i<c/\z.tx.length+kl z+10<=(c-i)*10000:=by
  unfold Er at a;split at a
  ·exact Qb hT hs d i _ _ a
  split at a
  ·exact Uj hT hs _ d i _ _ a
  ·exact Um hN hT hs m d i _ _ a
 omega
theorem Ol (hN:∀i v,Lib.parseIntB 64 (K i).tx=.ok v->(Lib.itoa v).length<=100)(hT:∀i,(K i).tx.length<=4000):∀f n d i,CX i (Ff K f n d i)
 | 0,_,_,_=>fun x j h=>by simp[Ff] at h
 | f+1,n,d,i=>by
  rw[Ff];exact Xz hN hT (Ol hN hT f) _ _ _ _
end
def Nx (r:RX PX):Prop:=∀x j,r=some (.ok (x,j))->0<x.tx.length
section
variable {K:Nat->Tk} {self:Nat->Nat->Nat->RX PX}
theorem Ye (op n:List UInt8)(a b:PX):0<(Cc op n a b).tx.length:=by
 unfold Cc;split<;>simp[Ep]<;>omega
theorem Mu (op:List UInt8)(d i:Nat):Nx (Gi K self op d i):=by
 intro x j h;unfold Gi at h;obtain⟨n,c,-,h⟩:=A3 h;obtain⟨a,e,-,h⟩:=A3 (Bt h);obtain⟨b,f,-,h⟩:=A3 (Bt h);obtain⟨rfl,-⟩:=Ba h;exact Ye _ _ _ _
theorem Qj (d i:Nat):Nx (Ct K self d i):=by
 intro x j h;unfold Ct at h;have h:=Ce h;split at h
 ·unfold Fw at h;obtain⟨a,e,-,h⟩:=A3 h;obtain⟨b,f,-,h⟩:=A3 (Bt h);obtain⟨c,g,-,h⟩:=A3 (Bt h);obtain⟨rfl,-⟩:=Ba h;simp[dIf]
 split at h
 ·unfold Gy at h;obtain⟨n,e,-,h⟩:=A3 h;obtain⟨a,f,-,h⟩:=A3 (Bt h);obtain⟨b,g,-,h⟩:=A3 (Bt h);obtain⟨rfl,-⟩:=Ba h;simp[Hy]
 ·exact Mu _ _ _ _ _ h
theorem Uv (r d i:Nat):Nx (C5 K self r d i):=by
 intro x j h;unfold C5 at h;split at h
 ·obtain⟨n,a,-,h⟩:=A3 h;obtain⟨rfl,-⟩:=Ba h;simp[C2];omega
 ·obtain⟨y,a,-,h⟩:=A3 (Ce h);obtain⟨rfl,-⟩:=Ba h;simp only[Bu];split<;>simp<;>omega
theorem Oq (m:Nat)(n:List UInt8)(d i:Nat):Nx (Gz K self m n d i):=by
 intro x j h;unfold Gz at h;obtain⟨l,a,-,h⟩:=A3 (Ce h);obtain⟨rfl,-⟩:=Ba h;simp[C6];omega
theorem Yf (hP:∀i,(K i).cl=1->0<(K i).tx.length)(m d i:Nat)(hc:(K i).cl=1):Nx (D3 K self m d i):=by
 intro x j h;unfold D3 at h;split at h
 ·obtain⟨rfl,-⟩:=Ba h;exact hP i hc
 split at h
 ·split at h
  ·exact Oq _ _ _ _ _ _ h
  ·simp[Cz] at h
 ·unfold Ew at h;obtain⟨n,c,a,h⟩:=A3 h;have b:0<n.length:=by
   unfold C0 at a;split at a
   ·simp[Cz] at a
   split at a
   ·simp[Cz] at a
   ·obtain⟨rfl,-⟩:=Ba a;exact hP i hc
  split at h
  ·obtain⟨rfl,-⟩:=Ba h;simp[B8]
  split at h
  ·exact Oq _ _ _ _ _ _ h
  ·obtain⟨rfl,-⟩:=Ba h;exact b
theorem Qk (hs:∀n d i,Nx (self n d i))(m d i:Nat):Nx (Bp K self m d i):=by
 intro x j h;unfold Bp at h;split at h
 ·obtain⟨y,a,b,h⟩:=A3 (Ce h);obtain⟨rfl,-⟩:=Ba (Bt h);exact hs _ _ _ _ _ b
 split at h
 ·have h:=Ce h;unfold Kj at h;split at h
  ·obtain⟨y,a,b,h⟩:=A3 h;obtain⟨rfl,-⟩:=Ba (Bt h);exact Mu _ _ _ _ _ b
  ·obtain⟨l,a,-,h⟩:=A3 h;obtain⟨rfl,-⟩:=Ba h;simp[Hl]
 split at h
 ·obtain⟨l,a,-,h⟩:=A3 (Ce h);obtain⟨rfl,-⟩:=Ba h;simp[Gh]
 split at h
 ·obtain⟨l,a,-,h⟩:=A3 (Ce h);obtain⟨rfl,-⟩:=Ba h;simp[Gt]
 ·simp[Cz] at h
theorem Uw (hP:∀i,(K i).cl=1->0<(K i).tx.length)(hI:∀v,0<(Lib.itoa v).length)(hs:∀n d i,Nx (self n d i))(m d i:Nat):Nx (Eh K self m d i):=by
 intro x j h;unfold Eh at h;split at h
 ·split at h
  ·obtain⟨rfl,-⟩:=Ba h;exact hI _
  ·simp[Cz] at h
 split at h
 ·obtain⟨rfl,-⟩:=Ba h;simp[Du]
 split at h
 ·rename_i hc
  exact Yf hP m d i hc x j h
 ·exact Qk hs m d i x j h
theorem Wt (f k:PX):0<(dAt f k).tx.length:=by
 simp only[dAt,List.length_append];split<;>simp<;>omega
theorem aO (f k v:PX):0<(Ed f k v).tx.length:=by simp[Ed];omega
theorem Hd (M d:Nat):∀m x i y j,0<x.tx.length->Bj K self M d m x i=some (.ok (y,j))->0<y.tx.length
 | 0,_,_,_,_,_,h=>by simp[Bj] at h
 | m+1,x,i,y,j,hx,h=>by
  rw[Bj] at h;split at h
  ·obtain⟨k,j1,-,h⟩:=A3 (Ce h);split at h
   ·obtain⟨v,j2,-,h⟩:=A3 h;exact Hd M d m _ _ _ _ (aO _ _ _) (Bt h)
   ·exact Hd M d m _ _ _ _ (Wt _ _) (Bt h)
  split at h
  ·obtain⟨n,j1,-,h⟩:=A3 h;exact Hd M d m _ _ _ _ (Wt _ _) h
  ·obtain⟨rfl,-⟩:=Ba h;exact hx
theorem Mv (rank d:Nat):∀m held x i y j,0<x.tx.length->Bv K self rank d m held x i=some (.ok (y,j))->0<y.1.tx.length
 | 0,_,_,_,_,_,_,h=>by simp[Bv] at h
 | m+1,held,x,i,y,j,hx,h=>by
  rw[Bv] at h;split at h
  ·obtain⟨rfl,-⟩:=Ba h;exact hx
  ·obtain⟨z,j1,-,h⟩:=A3 h;exact Mv rank d m _ _ _ _ _ (by simp[Bl];omega) h
theorem Ot (hP:∀i,(K i).cl=1->0<(K i).tx.length)(hI:∀v,0<(Lib.itoa v).length):∀f n d i,Nx (Ff K f n d i)
 | 0,_,_,_=>fun x j h=>by simp[Ff] at h
 | f+1,n,d,i=>by
  intro x j h;rw[Ff] at h;obtain⟨y,j1,h1,h⟩:=A3 h;obtain⟨rfl,-⟩:=Ba h;unfold Fq at h1;split at h1
  ·simp[Cz] at h1
  obtain⟨z,j2,h2,h3⟩:=A3 h1;refine Mv _ _ _ _ _ _ _ _ ?_ h3;unfold Er at h2;split at h2
  ·exact Qj d i _ _ h2
  split at h2
  ·exact Uv _ d i _ _ h2
  ·unfold Ei at h2;obtain⟨u,j3,h4,h5⟩:=A3 h2;exact Hd _ _ _ _ _ _ _ (Uw hP hI (Ot hP hI f) _ _ _ _ _ h4) h5
end
theorem cI (T:List UInt8)(i:Nat)(h:(tkF T i).cl=1):0<(tkF T i).tx.length:=by
 have a:clF T i=1:=h;have:=L9 (T.drop (atF T i)) (by unfold clF at a;omega) (by unfold clF at a;omega);show 0<(txF T i).length;rw[E0];exact this
end Go.Proofs.YtjbfcadeapphbaaGreatDoor.Sx
