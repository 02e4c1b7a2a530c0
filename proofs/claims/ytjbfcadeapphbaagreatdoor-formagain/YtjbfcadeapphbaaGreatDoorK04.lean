/- Plain: modules written once more are no longer than so many bytes a token. -/
import Derived.Test.YtjbfcadeapphbaaGreatDoorK00
import Derived.Test.YtjbfcadeapphbaaGreatDoorK03
namespace Go.Proofs.YtjbfcadeapphbaaGreatDoor.Sx
def btw:Bool->List UInt8->Nat
 | _,[]=>0
 | r,c::l=>if Df c||(c==35||r) then 1+btw ((c==35||r)&&!(c==10)) l else 0
theorem Ss:∀(r:Bool)(l:List UInt8),btw r l<=l.length
 | _,[]=>Nat.le_refl _
 | r,c::l=>by
  rw[btw];split
  ·have:=Ss ((c==35||r)&&!(c==10)) l;simp;omega
  ·simp
def Cb:List (List UInt8):=[[61,61],[58,61],[47,61],[60,61],[62,61],[60,60],[62,62],[46,46],[45,62],[43,43]]
def Su:List UInt8:=[61,60,62,43,45,42,47,37,40,41,123,125,91,93,44,58,46,39]
def Fj (l:List UInt8):Nat:=if decide (1<l.length)&&Cb.contains (l.take 2) then 2 else if Su.contains (Cw l 0) then 1 else 0
def Dr (l:List UInt8):Nat×Nat :=
 if l.length=0 then(0,0)
 else if A8 (Cw l 0) then(1,Bx l)
 else if Ba (Cw l 0) then(if Ju l then 2 else 5,Bx l)
 else if (Cw l 0).toNat=34 then Cc (l.drop 1) 1
 else if Fj l=0 then(5,0) else(4,Fj l)
theorem Mb:∀(l:List UInt8)(i:Nat),(Cc l i).2<=i+l.length
 | [],i=>by simp[Cc]
 | c::r,i=>by
  have:=Mb r (i+1);simp only[Cc,List.length_cons]
  repeat' split
  all_goals simp
  all_goals omega
theorem dB (l:List UInt8)(h:0<l.length):Fj l<=l.length:=by
 unfold Fj;split
 ·rename_i q;simp at q;omega
 ·split<;>omega
theorem Sv (l:List UInt8):(Dr l).2<=l.length:=by
 unfold Dr;split
 ·simp
 ·rename_i h0
  repeat' split
  ·exact Hk l
  ·exact Hk l
  ·exact Hk l
  ·have:=Mb (l.drop 1) 1;simp at this |-;omega
  ·exact Nat.zero_le _
  ·exact dB l (by omega)
def Dp (T:List UInt8):Nat->Nat
 | 0=>0
 | i+1=>Dp T i+btw false (T.drop (Dp T i))+(Dr (T.drop (Dp T i+btw false (T.drop (Dp T i))))).2
def atF (T:List UInt8)(i:Nat):Nat:=Dp T i+btw false (T.drop (Dp T i))
def Nt (T:List UInt8)(i:Nat):Nat:=(Dr (T.drop (atF T i))).2
def clF (T:List UInt8)(i:Nat):Nat:=(Dr (T.drop (atF T i))).1
def txF (T:List UInt8)(i:Nat):List UInt8:=(T.drop (atF T i)).take (Nt T i)
def tkF (T:List UInt8)(i:Nat):Tk:=⟨clF T i,txF T i,atF T i⟩
theorem Rj (T:List UInt8)(i:Nat):Dp T (i+1)=atF T i+Nt T i:=rfl
theorem Ig (T:List UInt8):∀i,Dp T i<=T.length
 | 0=>Nat.zero_le _
 | i+1=>by
  have h:=Ig T i;have h1:=Ss false (T.drop (Dp T i));have h2:=Sv (T.drop (Dp T i+btw false (T.drop (Dp T i))));rw[Dp];simp at h1 h2;omega
theorem Hw (T:List UInt8)(i:Nat):Dp T i<=atF T i/\atF T i<=T.length/\atF T i+Nt T i<=T.length:=by
 have h:=Ig T i;have b:=Ss false (T.drop (Dp T i));have a:=Sv (T.drop (atF T i));unfold Nt;unfold atF at a |-;simp at b a;omega
theorem Gy (T:List UInt8)(i:Nat):(txF T i).length=Nt T i:=by
 have:=Hw T i;unfold txF;simp;omega
theorem fK (l:List UInt8)(a:Nat):Wo ⟨(Dr l).1,l.take (Dr l).2,a⟩:=by
 cases l with
 | nil=>exact⟨fun c r h=>by simp at h,.inl rfl,fun _=>rfl,fun h=>by simp[Dr] at h,fun h=>by simp[Dr] at h⟩
 | cons c l =>
  have m:Cw (c::l) 0=c:=rfl;have d:∀(k:Nat)(c':UInt8)(r:List UInt8),List.take k (c::l)=c'::r->c'=c:=by
   intro k c' r h;cases k with
   | zero=>simp at h
   | succ k=>simp at h;exact h.1.symm
  have o:=Kd l 1;have p:∀(l:List UInt8)(i:Nat),(Cc l i).1=3->i+1<=(Cc l i).2:=by
   intro l
   induction l with
   | nil=>intro i h;simp[Cc] at h
   | cons c r ih =>
    intro i h;simp only[Cc] at h |-
    repeat' split at h
    ·rename_i e;rw[if_pos e];exact Nat.le_refl _
    ·rename_i e1 e2;rw[if_neg e1,if_pos e2];have:=ih (i+1) h;omega
    ·simp at h
  have s:=Mb l 1;have e:Dr (c::l)=(if A8 c then(1,Bx (c::l)) else if Ba c then(if Ju (c::l) then 2 else 5,Bx (c::l)) else if c.toNat=34 then Cc l 1 else if Fj (c::l)=0 then(5,0) else(4,Fj (c::l))):=by
   unfold Dr;rw[if_neg (by simp),m];rfl
  rw[e];cases f:A8 c with
  | true =>
   simp only[if_true];exact⟨fun _ _ _ _=>rfl,.inr (.inl rfl),fun h=>by simp at h,fun h=>by simp at h,fun h=>by simp at h⟩
  | false =>
   simp only[Bool.false_eq_true,if_false];cases b:Ba c with
   | true =>
    simp only[if_true];have n:Bn c=true\/c=95\/c=34:=by
     simp only[Ba,f,Bool.false_or,Bool.or_eq_true,beq_iff_eq] at b;rcases b with b|b
     ·exact .inl b
     ·exact .inr (.inl b)
    refine⟨fun c' r hc hl=>?_,?_,fun h=>?_,fun _ c' r hc=>?_,fun h=>?_⟩
    ·rw[d _ _ _ hc,f] at hl;simp at hl
    ·show(if _ then 2 else 5)=0\/_;split<;>simp
    ·exfalso;revert h;show(if _ then 2 else 5)=0->_;split<;>simp
    ·rw[d _ _ _ hc];exact n
    ·exfalso;revert h;show(if _ then 2 else 5)=3->_;split<;>simp
   | false =>
    simp only[Bool.false_eq_true,if_false];by_cases j:c.toNat=34
    ·rw[if_pos j];have g:c=34:=by rw[<- UInt8.toNat_inj];exact j
     refine⟨fun c' r hc hl=>?_,?_,fun h=>?_,fun _ c' r hc=>?_,fun h=>?_⟩
     ·rw[d _ _ _ hc,f] at hl;simp at hl
     ·rcases o with q|q
      ·exact .inr (.inr (.inr (.inl q)))
      ·exact .inr (.inr (.inr (.inr (.inr q))))
     ·have h:(Cc l 1).1=0:=h;omega
     ·rw[d _ _ _ hc];exact .inr (.inr g)
     ·have:=p l 1 h;simp;omega
    ·rw[if_neg j];by_cases g:Fj (c::l)=0
     ·rw[if_pos g];exact⟨fun c' r hc=>by simp at hc,by simp,fun h=>by simp at h,fun _ c' r hc=>by simp at hc,fun h=>by simp at h⟩
     ·rw[if_neg g];refine⟨fun c' r hc hl=>?_,by simp,fun h=>by simp at h,fun h=>by simp at h,fun h=>by simp at h⟩;rw[d _ _ _ hc,f] at hl;simp at hl
theorem Mc (T:List UInt8)(i:Nat):Wo (tkF T i):=fK (T.drop (atF T i)) _
theorem Um (l:List UInt8)(h:(Dr l).1≠0)(h5:(Dr l).1≠5):0<(Dr l).2:=by
 cases l with
 | nil=>simp[Dr] at h
 | cons c l =>
  have b:Cw (c::l) 0=c:=rfl;have e:Dr (c::l)=(if A8 c then(1,Bx (c::l)) else if Ba c then(if Ju (c::l) then 2 else 5,Bx (c::l)) else if c.toNat=34 then Cc l 1 else if Fj (c::l)=0 then(5,0) else(4,Fj (c::l))):=by
   unfold Dr;rw[if_neg (by simp),b];rfl
  have a:Ba c=true->0<Bx (c::l):=fun q=>by simp[Bx,q]
  have d:A8 c=true->Ba c=true:=fun q=>by simp[Ba,q]
  have f:∀(l:List UInt8)(i:Nat),i<=(Cc l i).2:=by
   intro l
   induction l with
   | nil=>intro i;simp[Cc]
   | cons c r ih =>
    intro i;simp only[Cc]
    repeat' split
    ·simp
    ·have:=ih (i+1);omega
    ·simp
  rw[e] at h5 |-;split at h5
  ·rename_i q;rw[if_pos q];exact a (d q)
  ·rename_i q;rw[if_neg q]
   split at h5
   ·rename_i q;rw[if_pos q];exact a q
   ·rename_i q;rw[if_neg q]
    split at h5
    ·rename_i q;rw[if_pos q];exact Nat.lt_of_lt_of_le Nat.zero_lt_one (f l 1)
    ·rename_i q;rw[if_neg q]
     split at h5
     ·simp at h5
     ·rename_i q;rw[if_neg q];exact Nat.pos_of_ne_zero q
theorem M4 (T:List UInt8):∃N,N<=T.length/\(clF T N=0\/clF T N=5)/\∀i,i<N->clF T i≠0/\clF T i≠5:=by
 have b:∀k i,T.length-Dp T i<=k->i<=Dp T i->(∀j,j<i->clF T j≠0/\clF T j≠5)->∃N,N<=T.length/\(clF T N=0\/clF T N=5)/\∀j,j<N->clF T j≠0/\clF T j≠5:=by
  intro k
  induction k with
  | zero =>
   intro i f d a;have h:=Ig T i;have c:=Hw T i;refine⟨i,by omega,.inl ?_,a⟩;unfold clF;rw[List.drop_of_length_le (by omega)];rfl
  | succ k ih =>
   intro i f d a;by_cases q:clF T i=0\/clF T i=5
   ·exact⟨i,by have:=Ig T i;omega,q,a⟩
   ·have g:=Um (T.drop (atF T i)) (fun e=>q (.inl e)) (fun e=>q (.inr e));have c:=Hw T i;have l:=Rj T i;have m:0<Nt T i:=g;exact ih (i+1) (by omega) (by omega) fun j hj'=>by
     rcases Nat.lt_or_eq_of_le (Nat.le_of_lt_succ hj') with r|r
     ·exact a j r
     ·subst r;exact⟨fun e=>q (.inl e),fun e=>q (.inr e)⟩
 exact b T.length 0 (by omega) (Nat.le_refl _) (fun j h=>absurd h (by omega))
theorem Wx:∀m∈Jt,∃c r,m=c::r/\Bn c=false/\c≠95/\c≠34:=by
 have h:Jt.all (fun m=>match m with | []=>false|c::_=>!Bn c&&c != 95&&c != 34)=true:=by decide
 intro m a;have:=(List.all_eq_true.1 h) m a;cases m with
 | nil=>simp at this
 | cons c r=>simp at this;exact⟨c,r,rfl,this.1.1,this.1.2,this.2⟩
theorem fL {t:Tk}(h:Wo t){m:List UInt8}(hm:m∈Jt)(e:t.tx=m):t.cl=1\/t.cl=4:=by
 obtain⟨c,r,rfl,a,b,d⟩:=Wx m hm;rcases h.sort with q|q|q|q|q|q
 ·rw[h.none q] at e;simp at e
 ·exact .inl q
 ·have:=h.odd (.inl q) _ _ e;simp[a,b,d] at this
 ·have:=h.odd (.inr (.inl q)) _ _ e;simp[a,b,d] at this
 ·exact .inr q
 ·have:=h.odd (.inr (.inr q)) _ _ e;simp[a,b,d] at this
theorem Sw {T:List UInt8}{N:Nat}(h:clF T N=0\/clF T N=5):Fy (tkF T) N :=
 ⟨h,fun m hm e=>by have:=fL (Mc T N) hm e;have:clF T N=1\/clF T N=4:=this;omega⟩
theorem Ai {β γ:Type}{a:RX β}{k:β->Nat->RX γ}{y:γ}{l:Nat}(h:bX a k=some (.ok (y,l))):∃x j,a=some (.ok (x,j))/\k x j=some (.ok (y,l)):=by
 rcases a with _|(e|⟨x,j⟩)
 ·simp[bX] at h
 ·simp[bX] at h
 ·exact⟨x,j,rfl,h⟩
section
variable {K:Nat->Tk}
theorem Au {γ:Type}{m:List UInt8}{i:Nat}{k:Nat->RX γ}{y:γ}{l:Nat}(h:Bv K m i k=some (.ok (y,l))):k (i+1)=some (.ok (y,l)):=by
 unfold Bv at h;split at h
 ·exact h
 ·simp[Ck] at h
theorem Ce {γ:Type}{d i:Nat}{k:Nat->RX γ}{y:γ}{l:Nat}(h:Bw K d i k=some (.ok (y,l))):k (i+1)=some (.ok (y,l)):=by
 unfold Bw at h;split at h
 ·simp[Ck] at h
 ·exact h
theorem Dj {i:Nat}{n:List UInt8}{j:Nat}(h:Bo K i=some (.ok (n,j))):j=i+1/\n.length<=16:=by
 unfold Bo at h;split at h
 ·simp[Ck] at h
 split at h
 ·simp[Ck] at h
 ·rename_i q
  simp only[okX,Option.some.injEq,Except.ok.injEq,Prod.mk.injEq] at h;exact⟨h.2.symm,by rw[<- h.1];omega⟩
theorem Ak {β:Type}{x y:β}{i j:Nat}(h:okX x i=some (.ok (y,j))):y=x/\j=i:=by
 simp only[okX,Option.some.injEq,Except.ok.injEq,Prod.mk.injEq] at h;exact⟨h.1.symm,h.2.symm⟩
def kl (x:PX):Nat:=match x.key with|some n=>n.length|none=>0
def CX (i:Nat)(r:RX PX):Prop:=∀x j,r=some (.ok (x,j))->i<j/\x.tx.length+kl x+10<=(j-i)*10000
def wP (x:PX):Nat:=x.tx.length+kl x+10
def wPP (p:PX×PX):Nat:=p.1.tx.length+kl p.1+p.2.tx.length+kl p.2+20
theorem Hl {β:Type}(g:β->Nat){cl:List UInt8}{item:Nat->RX β}(hi:∀i x j,item i=some (.ok (x,j))->i<j/\g x<=(j-i)*10000) :
  ∀m acc i l j,Bj K cl item m acc i=some (.ok (l,j))->i<j/\(l.map g).sum+10000<=(acc.map g).sum+(j-i)*10000
 | 0,_,_,_,_,h=>by simp[Bj] at h
 | m+1,acc,i,l,j,h=>by
  rw[Bj] at h;obtain⟨x,k,h1,h2⟩:=Ai h;have q:=hi i x k h1;split at h2
  ·obtain⟨rfl,rfl⟩:=Ak h2;simp only[List.map_append,List.map_cons,List.map_nil,List.sum_append,List.sum_cons,List.sum_nil];omega
  ·have h3:=Hl g hi m _ _ l j (Au h2);simp only[List.map_append,List.map_cons,List.map_nil,List.sum_append,List.sum_cons,List.sum_nil] at h3;omega
theorem J1 {sep:Nat->List UInt8}(hs:∀i,(sep i).length<=2):∀(l:List PX)(i:Nat),(Bq sep i (l.map PX.tx)).length<=(l.map wP).sum
 | [],i=>by simp[Bq]
 | a::l,i=>by
  have h1:=J1 hs l (i+1);have h2:=hs i;simp only[List.map_cons,Bq,List.length_append,List.sum_cons,wP] at h1 |-;omega
theorem Pe (i:Nat):(Cm i).length<=2:=by unfold Cm;split<;>simp
theorem aP (i:Nat):(C5 i).length<=2:=by unfold C5;split<;>(try split)<;>simp
theorem J2 (l:List PX):(C0 l).length<=(l.map wP).sum:=J1 Pe l 0
theorem U4:∀l:List (PX×PX),((l.flatMap fun p=>[p.1,p.2]).map wP).sum=(l.map wPP).sum
 | []=>rfl
 | a::l=>by
  have:=U4 l;simp only[List.flatMap_cons,List.map_append,List.sum_append,List.map_cons,List.map_nil,List.sum_cons,List.sum_nil,wP,wPP] at this |-;omega
theorem Hm (x:PX)(n:Nat):(A9 x n).length<=x.tx.length+2:=by unfold A9;split<;>simp
variable {self:Nat->Nat->Nat->RX PX} (hT:∀i,(K i).tx.length<=4000) (hs:∀n d i,CX i (self n d i))
theorem aQ (hs:∀n d i,CX i (self n d i))(d i:Nat)(p:PX×PX)(j:Nat)(h:Gn K self d i=some (.ok (p,j))):i<j/\wPP p<=(j-i)*10000:=by
 unfold Gn at h;obtain⟨a,f,c,h⟩:=Ai h;have k:=hs _ _ _ _ _ c;obtain⟨b,g,e,h⟩:=Ai (Au h);have l:=hs _ _ _ _ _ e;obtain⟨rfl,rfl⟩:=Ak h;simp only[wPP];omega
theorem aR (op n:List UInt8)(a b:PX):(Ds op n a b).tx.length<=op.length+n.length+a.tx.length+b.tx.length+15:=by
 have:=Hm a 8;unfold Ds;split<;>simp only[En,List.length_append,List.length_cons,List.length_nil]<;>omega
theorem Pf (hs:∀n d i,CX i (self n d i))(op:List UInt8)(ho:op.length<=4000)(d i:Nat)(x:PX)(j:Nat)(h:Fd K self op d i=some (.ok (x,j))):i<j/\x.tx.length+kl x+10<=(j-i)*10000:=by
 unfold Fd at h;obtain⟨n,k,c,h⟩:=Ai h;have o:=Dj c;obtain⟨a,l,e,h⟩:=Ai (Au h);have p:=hs _ _ _ _ _ e;obtain⟨b,m,f,h⟩:=Ai (Au h);have q:=hs _ _ _ _ _ f;obtain⟨rfl,rfl⟩:=Ak h;have:=aR op n a b;have g:kl (Ds op n a b)=0:=by unfold Ds;split<;>rfl
 omega
theorem Ta (hT:∀i,(K i).tx.length<=4000)(hs:∀n d i,CX i (self n d i))(d i:Nat):CX i (Cn K self d i):=by
 intro x j h;unfold Cn at h;have h:=Ce h;split at h
 ·unfold Fs at h;obtain⟨a,k,e,h⟩:=Ai h;have o:=hs _ _ _ _ _ e;obtain⟨b,l,f,h⟩:=Ai (Au h);have p:=hs _ _ _ _ _ f;obtain⟨c,m,g,h⟩:=Ai (Au h);have q:=hs _ _ _ _ _ g;obtain⟨rfl,rfl⟩:=Ak h;simp only[dIf,kl,List.length_append,List.length_cons,List.length_nil];omega
 split at h
 ·unfold Ft at h;obtain⟨n,k,e,h⟩:=Ai h;have o:=Dj e;obtain⟨a,l,f,h⟩:=Ai (Au h);have p:=hs _ _ _ _ _ f;obtain⟨b,m,g,h⟩:=Ai (Au h);have q:=hs _ _ _ _ _ g;obtain⟨rfl,rfl⟩:=Ak h;simp only[L7,kl,List.length_append,List.length_cons,List.length_nil];omega
 ·have:=Pf hs _ (hT i) _ _ _ _ h;omega
theorem Xm (hT:∀i,(K i).tx.length<=4000)(hs:∀n d i,CX i (self n d i))(r d i:Nat):CX i (Dn K self r d i):=by
 intro x j h;unfold Dn at h;have e:=hT i;split at h
 ·obtain⟨n,b,a,h⟩:=Ai h;have c:=Dj a;obtain⟨rfl,rfl⟩:=Ak h;simp only[Gm,kl,List.length_append,List.length_cons];omega
 ·obtain⟨y,b,a,h⟩:=Ai (Ce h);have c:=hs _ _ _ _ _ a;obtain⟨rfl,rfl⟩:=Ak h;have:=Hm y r;simp only[Em,kl];split<;>simp only[List.length_append,List.length_cons]<;>omega
theorem Rn (hs:∀n d i,CX i (self n d i))(m:Nat)(n:List UInt8)(hn:n.length<=4000)(d i:Nat):CX i (G0 K self m n d i):=by
 intro x j h;unfold G0 at h;obtain⟨l,c,a,h⟩:=Ai (Ce h);have b:=Hl wP (fun i x j e=>hs _ _ _ _ _ e) _ _ _ _ _ a;obtain⟨rfl,rfl⟩:=Ak h;have:=J2 l;simp only[Ed,kl,List.length_append,List.length_cons,List.length_nil,List.map_nil,List.sum_nil] at b |-;omega
theorem Xn (hs:∀n d i,CX i (self n d i))(m d i:Nat):CX i (Fe K self m d i):=by
 intro x j h;unfold Fe at h;obtain⟨n,b,a,h⟩:=Ai h;have c:=Dj a;split at h
 ·obtain⟨rfl,rfl⟩:=Ak h;simp only[Ct,kl,List.length_append,List.length_cons,List.length_nil];omega
 split at h
 ·have:=Rn hs m n (by omega) _ _ _ _ h;omega
 ·obtain⟨rfl,rfl⟩:=Ak h;simp only[Ct,kl];omega
theorem aS (hT:∀i,(K i).tx.length<=4000)(hs:∀n d i,CX i (self n d i))(m d i:Nat):CX i (Gp K self m d i):=by
 intro x j h;unfold Gp at h;have a:=hT i;split at h
 ·obtain⟨rfl,rfl⟩:=Ak h;simp only[Ct,kl];omega
 split at h
 ·split at h
  ·have:=Rn hs m _ a _ _ _ _ h;omega
  ·simp[Ck] at h
 ·exact Xn hs m d i x j h
theorem U6 (hs:∀n d i,CX i (self n d i)){cl:List UInt8}(m d i:Nat)(l:List PX)(j:Nat)(h:Km K cl (self 0 d) m i=some (.ok (l,j))):i<j/\(l.map wP).sum+10000<=(j-i)*10000:=by
 unfold Km at h;split at h
 ·obtain⟨rfl,rfl⟩:=Ak h;simp
 ·have:=Hl wP (fun i x j e=>hs _ _ _ _ _ e) _ _ _ _ _ h;simpa using this
theorem dM (hT:∀i,(K i).tx.length<=4000)(hs:∀n d i,CX i (self n d i))(m d i:Nat):CX i (Jr K self m d i):=by
 intro x j h;unfold Jr at h;split at h
 ·obtain⟨y,b,a,h⟩:=Ai h;have:=Pf hs _ (hT i) _ _ _ _ a;obtain⟨rfl,rfl⟩:=Ak (Au h);omega
 ·obtain⟨l,b,a,h⟩:=Ai h;have c:=U6 hs _ _ _ _ _ a;have:=J2 l;obtain⟨rfl,rfl⟩:=Ak h;simp only[Kt,kl,List.length_append,List.length_cons,List.length_nil];omega
theorem Tb (hT:∀i,(K i).tx.length<=4000)(hs:∀n d i,CX i (self n d i))(m d i:Nat):CX i (Bp K self m d i):=by
 intro x j h;unfold Bp at h;split at h
 ·obtain⟨y,c,a,h⟩:=Ai (Ce h);have b:=hs _ _ _ _ _ a;obtain⟨rfl,rfl⟩:=Ak (Au h);omega
 split at h
 ·have:=dM hT hs m _ _ _ _ (Ce h);omega
 split at h
 ·obtain⟨l,c,a,h⟩:=Ai (Ce h);have b:=U6 hs _ _ _ _ _ a;have:=J2 l;obtain⟨rfl,rfl⟩:=Ak h;simp only[Jq,kl,List.length_append,List.length_cons,List.length_nil];omega
 split at h
 ·obtain⟨l,c,a,h⟩:=Ai (Ce h);have b:=Hl wPP (fun i x j e=>aQ hs _ _ _ _ e) _ _ _ _ _ a;have:=J1 aP (l.flatMap fun p=>[p.1,p.2]) 0;rw[U4] at this;obtain⟨rfl,rfl⟩:=Ak h;simp only[Kl,kl,List.length_append,List.length_cons,List.length_nil,List.map_nil,List.sum_nil] at b |-;omega
 ·simp[Ck] at h
theorem Xo (hN:∀i v,Lib.parseIntB 64 (K i).tx=.ok v->(Lib.itoa v).length<=100)(hT:∀i,(K i).tx.length<=4000)(hs:∀n d i,CX i (self n d i))(m d i:Nat):CX i (C7 K self m d i):=by
 intro x j h;unfold C7 at h;have b:=hT i;split at h
 ·split at h
  ·rename_i v hv
   obtain⟨rfl,rfl⟩:=Ak h;have:=hN i v hv;simp only[Ct,kl];omega
  ·simp[Ck] at h
 split at h
 ·obtain⟨rfl,rfl⟩:=Ak h;have a:kl (Ee (((K i).tx.take ((K i).tx.length-1)).drop 1))<=4000:=by
   unfold kl Ee;simp only;split
   ·rename_i n hn
    split at hn
    ·simp only[Option.some.injEq] at hn;rw[<- hn,List.length_drop,List.length_take];omega
    ·simp at hn
   ·omega
  refine⟨by omega,?_⟩;have:(Ee (((K i).tx.take ((K i).tx.length-1)).drop 1)).tx.length<=4002:=by
   simp only[Ee,List.length_append,List.length_cons,List.length_nil,List.length_drop,List.length_take];omega
  omega
 split at h
 ·exact aS hT hs m d i x j h
 ·exact Tb hT hs m d i x j h
theorem Ze (f k:PX):(dAt f k).tx.length+kl (dAt f k)<=f.tx.length+k.tx.length+kl k+4:=by
 have:=Hm f 13;have a:kl (dAt f k)=0:=rfl;rw[a];simp only[dAt,List.length_append];split
 ·rename_i n hn
  have:kl k=n.length:=by simp[kl,hn]
  simp only[List.length_cons];omega
 ·simp only[List.length_cons,List.length_append,List.length_nil];omega
theorem dN (f k v:PX):(Ht f k v).tx.length+kl (Ht f k v)<=f.tx.length+k.tx.length+v.tx.length+8:=by
 have:=Hm f 13;have a:kl (Ht f k v)=0:=rfl;rw[a];simp only[Ht,List.length_append,List.length_cons,List.length_nil];omega
theorem dO (n:List UInt8):(Ee n).tx.length+kl (Ee n)<=2*n.length+2:=by
 have a:(Ee n).tx.length=n.length+2:=by simp[Ee]
 have b:kl (Ee n)<=n.length:=by
  unfold kl Ee;simp only;split
  ·rename_i m hm
   split at hm
   ·simp only[Option.some.injEq] at hm;rw[hm];omega
   ·simp at hm
  ·omega
 omega
theorem Ii (hs:∀n d i,CX i (self n d i))(M d:Nat):∀m x i y j,Bs K self M d m x i=some (.ok (y,j))->i<=j/\y.tx.length+kl y<=x.tx.length+kl x+(j-i)*10000
 | 0,_,_,_,_,h=>by simp[Bs] at h
 | m+1,x,i,y,j,h=>by
  rw[Bs] at h;split at h
  ·obtain⟨k,j1,h1,h⟩:=Ai (Ce h);have q1:=hs _ _ _ _ _ h1;split at h
   ·obtain⟨v,j2,h2,h⟩:=Ai h;have q2:=hs _ _ _ _ _ h2;have q3:=Ii hs M d m _ _ _ _ (Au h);have:=dN x k v;omega
   ·have q3:=Ii hs M d m _ _ _ _ (Au h);have:=Ze x k;omega
  split at h
  ·obtain⟨n,j1,h1,h⟩:=Ai h;have q1:=Dj h1;have q3:=Ii hs M d m _ _ _ _ h;have:=Ze x (Ee n);have:=dO n;omega
  ·obtain⟨rfl,rfl⟩:=Ak h;omega
theorem Xp (hN:∀i v,Lib.parseIntB 64 (K i).tx=.ok v->(Lib.itoa v).length<=100)(hT:∀i,(K i).tx.length<=4000)(hs:∀n d i,CX i (self n d i))(m d i:Nat):CX i (Eo K self m d i):=by
 intro x j h;unfold Eo at h;obtain⟨y,b,a,h⟩:=Ai h;have c:=Xo hN hT hs m d i _ _ a;have e:=Ii hs _ _ _ _ _ _ _ h;omega
theorem Pg (hT:∀i,(K i).tx.length<=4000)(hs:∀n d i,CX i (self n d i))(rank d:Nat):∀m held x i y j,Bb K self rank d m held x i=some (.ok (y,j))->i<=j/\y.1.tx.length+kl y.1<=x.tx.length+kl x+(j-i)*10000
 | 0,_,_,_,_,_,h=>by simp[Bb] at h
 | m+1,held,x,i,y,j,h=>by
  rw[Bb] at h;split at h
  ·obtain⟨rfl,rfl⟩:=Ak h;simp
  ·obtain⟨z,j1,h1,h⟩:=Ai h;have q1:=hs _ _ _ _ _ h1;have q2:=Pg hT hs rank d m _ _ _ _ _ h;have p1:=Hm x (Bh (Ae (K i).tx));have p2:=Hm z (Bg (Ae (K i).tx));have ht:=hT i;have h0:kl (I0 (K i).tx x z)=0:=rfl;have:(I0 (K i).tx x z).tx.length<=x.tx.length+z.tx.length+4006:=by
    simp only[I0,List.length_append,List.length_cons,List.length_nil];omega
   omega
theorem aT (hN:∀i v,Lib.parseIntB 64 (K i).tx=.ok v->(Lib.itoa v).length<=100)(hT:∀i,(K i).tx.length<=4000)(hs:∀n d i,CX i (self n d i))(m rank d i:Nat):CX i (bX (Fa K self m rank d i) fun x j=>okX x.1 j):=by
 intro x j h;obtain⟨y,f,b,h⟩:=Ai h;obtain⟨rfl,rfl⟩:=Ak h;unfold Fa at b;split at b
 ·simp[Ck] at b
 obtain⟨z,c,a,e⟩:=Ai b;have k:=Pg hT hs _ _ _ _ _ _ _ _ e;have g:i<c/\z.tx.length+kl z+10<=(c-i)*10000:=by
  unfold Ep at a;split at a
  ·exact Ta hT hs d i _ _ a
  split at a
  ·exact Xm hT hs _ d i _ _ a
  ·exact Xp hN hT hs m d i _ _ a
 omega
theorem Mg (hN:∀i v,Lib.parseIntB 64 (K i).tx=.ok v->(Lib.itoa v).length<=100)(hT:∀i,(K i).tx.length<=4000):∀f n d i,CX i (A3 K f n d i)
 | 0,_,_,_=>fun x j h=>by simp[A3] at h
 | f+1,n,d,i=>by
  rw[A3];exact aT hN hT (Mg hN hT f) _ _ _ _
end
def Q5 (r:RX PX):Prop:=∀x j,r=some (.ok (x,j))->0<x.tx.length
section
variable {K:Nat->Tk} {self:Nat->Nat->Nat->RX PX}
theorem aY (op n:List UInt8)(a b:PX):0<(Ds op n a b).tx.length:=by
 unfold Ds;split<;>simp[En]<;>omega
theorem Pm (op:List UInt8)(d i:Nat):Q5 (Fd K self op d i):=by
 intro x j h;unfold Fd at h;obtain⟨n,c,-,h⟩:=Ai h;obtain⟨a,e,-,h⟩:=Ai (Au h);obtain⟨b,f,-,h⟩:=Ai (Au h);obtain⟨rfl,-⟩:=Ak h;exact aY _ _ _ _
theorem Tl (d i:Nat):Q5 (Cn K self d i):=by
 intro x j h;unfold Cn at h;have h:=Ce h;split at h
 ·unfold Fs at h;obtain⟨a,e,-,h⟩:=Ai h;obtain⟨b,f,-,h⟩:=Ai (Au h);obtain⟨c,g,-,h⟩:=Ai (Au h);obtain⟨rfl,-⟩:=Ak h;simp[dIf]
 split at h
 ·unfold Ft at h;obtain⟨n,e,-,h⟩:=Ai h;obtain⟨a,f,-,h⟩:=Ai (Au h);obtain⟨b,g,-,h⟩:=Ai (Au h);obtain⟨rfl,-⟩:=Ak h;simp[L7]
 ·exact Pm _ _ _ _ _ h
theorem Xw (r d i:Nat):Q5 (Dn K self r d i):=by
 intro x j h;unfold Dn at h;split at h
 ·obtain⟨n,a,-,h⟩:=Ai h;obtain⟨rfl,-⟩:=Ak h;simp[Gm];omega
 ·obtain⟨y,a,-,h⟩:=Ai (Ce h);obtain⟨rfl,-⟩:=Ak h;simp only[Em];split<;>simp<;>omega
theorem Rr (m:Nat)(n:List UInt8)(d i:Nat):Q5 (G0 K self m n d i):=by
 intro x j h;unfold G0 at h;obtain⟨l,a,-,h⟩:=Ai (Ce h);obtain⟨rfl,-⟩:=Ak h;simp[Ed];omega
theorem aZ (hP:∀i,(K i).cl=1->0<(K i).tx.length)(m d i:Nat)(hc:(K i).cl=1):Q5 (Gp K self m d i):=by
 intro x j h;unfold Gp at h;split at h
 ·obtain⟨rfl,-⟩:=Ak h;exact hP i hc
 split at h
 ·split at h
  ·exact Rr _ _ _ _ _ _ h
  ·simp[Ck] at h
 ·unfold Fe at h;obtain⟨n,c,a,h⟩:=Ai h;have b:0<n.length:=by
   unfold Bo at a;split at a
   ·simp[Ck] at a
   split at a
   ·simp[Ck] at a
   ·obtain⟨rfl,-⟩:=Ak a;exact hP i hc
  split at h
  ·obtain⟨rfl,-⟩:=Ak h;simp[Ct]
  split at h
  ·exact Rr _ _ _ _ _ _ h
  ·obtain⟨rfl,-⟩:=Ak h;exact b
theorem Tm (hs:∀n d i,Q5 (self n d i))(m d i:Nat):Q5 (Bp K self m d i):=by
 intro x j h;unfold Bp at h;split at h
 ·obtain⟨y,a,b,h⟩:=Ai (Ce h);obtain⟨rfl,-⟩:=Ak (Au h);exact hs _ _ _ _ _ b
 split at h
 ·have h:=Ce h;unfold Jr at h;split at h
  ·obtain⟨y,a,b,h⟩:=Ai h;obtain⟨rfl,-⟩:=Ak (Au h);exact Pm _ _ _ _ _ b
  ·obtain⟨l,a,-,h⟩:=Ai h;obtain⟨rfl,-⟩:=Ak h;simp[Kt]
 split at h
 ·obtain⟨l,a,-,h⟩:=Ai (Ce h);obtain⟨rfl,-⟩:=Ak h;simp[Jq]
 split at h
 ·obtain⟨l,a,-,h⟩:=Ai (Ce h);obtain⟨rfl,-⟩:=Ak h;simp[Kl]
 ·simp[Ck] at h
theorem Xx (hP:∀i,(K i).cl=1->0<(K i).tx.length)(hI:∀v,0<(Lib.itoa v).length)(hs:∀n d i,Q5 (self n d i))(m d i:Nat):Q5 (C7 K self m d i):=by
 intro x j h;unfold C7 at h;split at h
 ·split at h
  ·obtain⟨rfl,-⟩:=Ak h;exact hI _
  ·simp[Ck] at h
 split at h
 ·obtain⟨rfl,-⟩:=Ak h;simp[Ee]
 split at h
 ·rename_i hc
  exact aZ hP m d i hc x j h
 ·exact Tm hs m d i x j h
theorem Zi (f k:PX):0<(dAt f k).tx.length:=by
 simp only[dAt,List.length_append];split<;>simp<;>omega
theorem dW (f k v:PX):0<(Ht f k v).tx.length:=by simp[Ht];omega
theorem Ij (M d:Nat):∀m x i y j,0<x.tx.length->Bs K self M d m x i=some (.ok (y,j))->0<y.tx.length
 | 0,_,_,_,_,_,h=>by simp[Bs] at h
 | m+1,x,i,y,j,hx,h=>by
  rw[Bs] at h;split at h
  ·obtain⟨k,j1,-,h⟩:=Ai (Ce h);split at h
   ·obtain⟨v,j2,-,h⟩:=Ai h;exact Ij M d m _ _ _ _ (dW _ _ _) (Au h)
   ·exact Ij M d m _ _ _ _ (Zi _ _) (Au h)
  split at h
  ·obtain⟨n,j1,-,h⟩:=Ai h;exact Ij M d m _ _ _ _ (Zi _ _) h
  ·obtain⟨rfl,-⟩:=Ak h;exact hx
theorem Pn (rank d:Nat):∀m held x i y j,0<x.tx.length->Bb K self rank d m held x i=some (.ok (y,j))->0<y.1.tx.length
 | 0,_,_,_,_,_,_,h=>by simp[Bb] at h
 | m+1,held,x,i,y,j,hx,h=>by
  rw[Bb] at h;split at h
  ·obtain⟨rfl,-⟩:=Ak h;exact hx
  ·obtain⟨z,j1,-,h⟩:=Ai h;exact Pn rank d m _ _ _ _ _ (by simp[I0];omega) h
theorem Rs (hP:∀i,(K i).cl=1->0<(K i).tx.length)(hI:∀v,0<(Lib.itoa v).length):∀f n d i,Q5 (A3 K f n d i)
 | 0,_,_,_=>fun x j h=>by simp[A3] at h
 | f+1,n,d,i=>by
  intro x j h;rw[A3] at h;obtain⟨y,j1,h1,h⟩:=Ai h;obtain⟨rfl,-⟩:=Ak h;unfold Fa at h1;split at h1
  ·simp[Ck] at h1
  obtain⟨z,j2,h2,h3⟩:=Ai h1;refine Pn _ _ _ _ _ _ _ _ ?_ h3;unfold Ep at h2;split at h2
  ·exact Tl d i _ _ h2
  split at h2
  ·exact Xw _ d i _ _ h2
  ·unfold Eo at h2;obtain⟨u,j3,h4,h5⟩:=Ai h2;exact Ij _ _ _ _ _ _ _ (Xx hP hI (Rs hP hI f) _ _ _ _ _ h4) h5
end
theorem Tn (T:List UInt8)(i:Nat)(h:(tkF T i).cl=1):0<(tkF T i).tx.length:=by
 have a:clF T i=1:=h;have:=Um (T.drop (atF T i)) (by unfold clF at a;omega) (by unfold clF at a;omega);show 0<(txF T i).length;rw[Gy];exact this
def C3:List UInt8:=[109,111,100,117,108,101]
def Cy:List UInt8:=[105,110,105,116]
def Fm:List UInt8:=[102,97,105,114]
def Ga:List UInt8:=[119,101,97,107]
def C4:List UInt8:=[115,116,114,111,110,103]
def Bi:List UInt8:=[115,121,109,109,101,116,114,105,99]
def Br:List UInt8:=[97,116,111,109,115]
def Al:List UInt8:=[100,101,102,105,110,101]
def Bt:List UInt8:=[99,111,110,115,116,97,110,116]
def Bu:List UInt8:=[118,97,114,105,97,98,108,101]
def Eh:List (List UInt8):=[[97,99,116,105,111,110],[105,110,118,97,114,105,97,110,116],[112,114,111,112,101,114,116,121]]
def A4 (p:List UInt8):List UInt8:=if p=Bt then[61] else if p=Bu then[105,110] else[61,61]
def B9 (l:List (List UInt8)):List UInt8:=Bq Cm 0 l
section
variable (K:Nat->Tk) (self:Nat->Nat->Nat->RX PX)
def Fo (p ahead:List UInt8)(i:Nat):RX (List UInt8) :=
 Bv K (A4 p) i fun j=>bX (self 0 0 j) fun x j=>okX (ahead++[32]++A4 p++[32]++x.tx) j
def Dd (m i:Nat):RX (List UInt8) :=
 if (K i).tx==Cy then bX (self 0 0 (i+1)) fun x j=>okX (Cy++[32]++x.tx) j
 else if (K i).tx==Fm then
  (if (K (i+1)).tx==Ga||(K (i+1)).tx==C4 then bX (Bo K (i+2)) fun n j=>okX (Fm++[32]++(K (i+1)).tx++[32]++n) j else Ck 1 (K (i+1)).at')
 else if (K i).tx==Bi then bX (Bo K (i+1)) fun n j=>okX (Bi++[32]++n) j
 else if (K i).tx==Br then
  bX (Bo K (i+1)) fun n j=>Bv K [61] j fun j=>Bv K [123] j fun j=>bX (Bj K [125] (Bo K) m [] j) fun l j=>okX (Br++[32]++n++[32,61,32,123]++B9 l++[125]) j
 else if (K i).tx==Al then
  bX (Bo K (i+1)) fun n j =>
   if (K j).tx==[40] then bX (Bj K [41] (Bo K) m [] (j+1)) fun l j=>Fo K self Al (Al++[32]++n++[40]++B9 l++[41]) j
   else Fo K self Al (Al++[32]++n) j
 else if (K i).tx==Bt||(K i).tx==Bu||Eh.contains (K i).tx then bX (Bo K (i+1)) fun n j=>Fo K self (K i).tx ((K i).tx++[32]++n) j
 else Ck 1 (K i).at'
def Es (M:Nat):Nat->List UInt8->Nat->RX (List UInt8)
 | 0,_,_=>none
 | m+1,acc,i=>if (K i).cl=0 then okX acc i else bX (Dd K self M i) fun l j=>Es M m (acc++l++[10]) j
def Iw (m i:Nat):RX (List UInt8) :=
 Bv K C3 i fun j=>bX (Bo K j) fun n j=>Es K self m m (C3++[32]++n++[10]) j
end
section
variable {K:Nat->Tk} {self self':Nat->Nat->Nat->RX PX}
theorem J3 (hs:LeS self self')(p a:List UInt8)(i:Nat):leX (Fo K self p a i) (Fo K self' p a i) :=
 Cu fun _=>Ay (hs _ _ _) fun _ _=>leX.refl _
theorem Po (hs:LeS self self'){m m':Nat}(hm:m<=m')(i:Nat):leX (Dd K self m i) (Dd K self' m' i) :=
 Az (Ay (hs _ _ _) fun _ _=>leX.refl _) (Az (leX.refl _) (Az (leX.refl _)
  (Az (Ay (leX.refl _) fun _ _=>Cu fun _=>Cu fun _=>Ay (Ff (fun _=>leX.refl _) m m' hm _ _) fun _ _=>leX.refl _)
   (Az (Ay (leX.refl _) fun _ _=>Az (Ay (Ff (fun _=>leX.refl _) m m' hm _ _) fun _ _=>J3 hs _ _ _) (J3 hs _ _ _))
    (Az (Ay (leX.refl _) fun _ _=>J3 hs _ _ _) (leX.refl _))))))
theorem Ng (hs:LeS self self'){M M':Nat}(hM:M<=M'):∀m m',m<=m'->∀acc i,leX (Es K self M m acc i) (Es K self' M' m' acc i)
 | 0,_,_,_,_=>leX.none _
 | m+1,0,hm,_,_=>absurd hm (by omega)
 | m+1,m'+1,hm,acc,i=>Az (leX.refl _) (Ay (Po hs hM i) fun _ _=>Ng hs hM m m' (by omega) _ _)
theorem Mj (hs:LeS self self'){m m':Nat}(hm:m<=m')(i:Nat):leX (Iw K self m i) (Iw K self' m' i) :=
 Cu fun _=>Ay (leX.refl _) fun _ _=>Ng hs hm m m' hm _ _
end
section
variable {K:Nat->Tk} {N:Nat} {self:Nat->Nat->Nat->RX PX}
theorem Vg (p:List UInt8):A4 p∈Jt:=by
 unfold A4
 repeat' split
 all_goals decide
theorem K2 (h:Fy K N){lo:Nat}(hs:C1 N lo self)(p a:List UInt8){i:Nat}(h1:lo<=i)(h2:i<=N):Adv (i+1) N (Fo K self p a i) :=
 Cv h (Vg p) h2 fun c=>(hs 0 0 _ (by omega) c).bind fun _ _ a b=>Adv.ok (by omega) b
theorem bE (h:Fy K N){i m:Nat}(hs:C1 N (i+1) self)(h2:i<=N)(q:N-i<m+1):Adv (i+1) N (Dd K self m i) :=
 Adv.ite (fun e=>(hs 0 0 _ (by omega) (h.lt h2 e (by decide))).bind fun _ _ a b=>Adv.ok (by omega) b) fun _ =>
 Adv.ite (fun e=>Adv.ite (fun e2=>by
   have a1:=h.lt h2 e (by decide);have a2:i+1<N:=by
    rw[Bool.or_eq_true] at e2;rcases e2 with e2|e2
    ·exact h.lt a1 e2 (by decide)
    ·exact h.lt a1 e2 (by decide)
   exact(Di h a2).bind fun _ _ a b=>Adv.ok (by omega) b) fun _=>Adv.err) fun _ =>
 Adv.ite (fun e=>(Di h (h.lt h2 e (by decide))).bind fun _ _ a b=>Adv.ok (by omega) b) fun _ =>
 Adv.ite (fun e=>(Di h (h.lt h2 e (by decide))).bind fun _ j a b=>Cv h (by decide) b fun c=>Cv h (by decide) c fun c2 =>
   (Hj h (by decide) (lo:=i) (fun j _ b=>Di h b) m _ _ (by omega) c2 (by omega)).bind fun _ _ a b=>Adv.ok (by omega) b) fun _ =>
 Adv.ite (fun e=>(Di h (h.lt h2 e (by decide))).bind fun _ j a b=>Adv.ite (fun e2 =>
   (Hj h (by decide) (lo:=i) (fun j _ b=>Di h b) m _ _ (by omega) (h.lt b e2 (by decide)) (by omega)).bind fun _ _ a b=>(K2 h hs _ _ (by omega) b).mono (by omega))
   fun _=>(K2 h hs _ _ (by omega) b).mono (by omega)) fun _ =>
 Adv.ite (fun e=>by
   have a1:i<N:=by
    simp only[Bool.or_eq_true] at e;rcases e with(e|e)|e
    ·exact h.lt h2 e (by decide)
    ·exact h.lt h2 e (by decide)
    ·exact h.lt_in h2 e (by decide)
   exact(Di h a1).bind fun _ _ a b=>(K2 h hs _ _ (by omega) b).mono (by omega)) fun _=>Adv.err
theorem Pp (h:Fy K N){lo:Nat}(hs:C1 N lo self)(M:Nat):∀m acc i,lo<=i+1->i<=N->N-i<m->N-i<M+1->Adv i N (Es K self M m acc i)
 | 0,_,_,_,_,q,_=>absurd q (by omega)
 | m+1,acc,i,h1,h2,q,q2=>Adv.ite (fun _=>Adv.ok (Nat.le_refl _) h2) fun _ =>
   (bE h (fun n d j a b=>hs n d j (by omega) b) h2 q2).bind fun _ j a b=>(Pp h hs M m _ j (by omega) b (by omega) (by omega)).mono (by omega)
theorem eC (h:Fy K N)(hs:C1 N 0 self){m:Nat}(q:N<m):Adv 0 N (Iw K self m 0) :=
 Cv h (by decide) (Nat.zero_le _) fun c=>(Di h c).bind fun _ j a b=>(Pp h hs m m _ j (by omega) b (by omega) (by omega)).mono (by omega)
end
def Dw (ls:List (List UInt8)):List UInt8:=ls.flatMap (·++[10])
theorem Pr (ls:List (List UInt8))(l:List UInt8):Dw (ls++[l])=Dw ls++l++[10]:=by simp[Dw]
theorem X7 (ls:List (List UInt8))(k:Nat)(l:List UInt8)(h:ls[k]?=some l):Dw (ls.take (k+1))=Dw (ls.take k)++l++[10]:=by
 rw[List.take_add_one,h,Option.toList_some,Pr]
theorem eE (ls:List (List UInt8))(k:Nat):(Dw (ls.take k)).length<=(Dw ls).length:=by
 have:Dw ls=Dw (ls.take k)++Dw (ls.drop k):=by unfold Dw;rw[<- List.flatMap_append,List.take_append_drop]
 rw[this,List.length_append];omega
def E0 (word how nm:List UInt8)(names:List (List UInt8))(ox:Option PX):List UInt8 :=
 word++(if how=[] then[] else[32]++how)++(if nm=[] then[] else[32]++nm)++(if word=Br then[32,61,32]++[123]++B9 names++[125] else if word=Al/\names≠[] then[40]++B9 names++[41] else[]) ++
  (match ox with|none=>[]|some x=>(if word=Cy then[] else[32]++A4 word)++[32]++x.tx)
section
variable (K:Nat->Tk) (self:Nat->Nat->Nat->RX PX)
def Ps (p:List UInt8)(l:List (List UInt8))(i:Nat):RX (List (List UInt8)×Option PX):=Bv K (A4 p) i fun j=>bX (self 0 0 j) fun x j=>okX (l,some x) j
def Gs (m:Nat)(p:List UInt8)(i:Nat):RX (List (List UInt8)×Option PX) :=
 if p=Br then Bv K [61] i fun j=>Bv K [123] j fun j=>bX (Bj K [125] (Bo K) m [] j) fun l j=>okX (l,none) j
 else if p=Al then(if (K i).tx==[40] then bX (Bj K [41] (Bo K) m [] (i+1)) fun l j=>Ps K self p l j else Ps K self p [] i)
 else Ps K self p [] i
end
theorem Ls {β γ:Type}{a:RX β}{f g:β->Nat->RX γ}(h:∀x j,a=some (.ok (x,j))->f x j=g x j):bX a f=bX a g:=by
 rcases a with _|(e|⟨x,j⟩)
 ·rfl
 ·rfl
 ·exact h x j rfl
theorem eF {β γ δ:Type}(a:RX β)(f:β->Nat->RX γ)(g:γ->Nat->RX δ):bX (bX a f) g=bX a fun x j=>bX (f x j) g:=by
 rcases a with _|(e|⟨x,j⟩)<;>rfl
theorem Pt {K:Nat->Tk}{β γ:Type}(m:List UInt8)(i:Nat)(f:Nat->RX β)(g:β->Nat->RX γ):bX (Bv K m i f) g=Bv K m i fun j=>bX (f j) g:=by
 unfold Bv;split<;>rfl
theorem eG {β γ:Type}(x:β)(j:Nat)(g:β->Nat->RX γ):bX (okX x j) g=g x j:=rfl
theorem Pu {K:Nat->Tk}{β:Type}{cl:List UInt8}{item:Nat->RX β}:∀(m:Nat)(acc:List β)(i:Nat)(l:List β)(j:Nat),Bj K cl item m acc i=some (.ok (l,j))->l≠[]
 | 0,_,_,_,_,h=>by simp[Bj] at h
 | m+1,acc,i,l,j,h=>by
  simp only[Bj] at h;rcases hq:item i with _|(e|⟨x,k⟩)
  ·simp[hq,bX] at h
  ·simp[hq,bX] at h
  ·rw[hq] at h;simp only[bX] at h;split at h
   ·simp only[okX,Option.some.injEq,Except.ok.injEq,Prod.mk.injEq] at h;rw[<- h.1];simp
   ·unfold Bv at h;split at h
    ·exact Pu m _ _ l j h
    ·simp[Ck] at h
theorem I3 {K:Nat->Tk}(hP:∀i,(K i).cl=1->0<(K i).tx.length){i j:Nat}{n:List UInt8}(h:Bo K i=some (.ok (n,j))):n≠[]:=by
 unfold Bo at h;split at h
 ·simp[Ck] at h
 ·rename_i h1
  split at h
  ·simp[Ck] at h
  ·simp only[okX,Option.some.injEq,Except.ok.injEq,Prod.mk.injEq] at h;have a:(K i).cl=1:=Classical.byContradiction fun q=>h1 (.inl q);have:=hP i a;rw[<- h.1];intro e;rw[e] at this;exact absurd this (by simp)
def H5:List (List UInt8):=[Bt,Bu]++Eh++[Br,Al]
theorem Ts {K:Nat->Tk}{self:Nat->Nat->Nat->RX PX}{p n:List UInt8}{l:List (List UInt8)}{ahead:List UInt8}(hp:p≠Cy)(hn:n≠[])(ha:ahead=p++[32]++n++(if p=Br then[32,61,32]++[123]++B9 l++[125] else if p=Al/\l≠[] then[40]++B9 l++[41] else[]))(i:Nat) :
  Fo K self p ahead i=bX (Ps K self p l i) fun c j=>okX (E0 p [] n c.1 c.2) j:=by
 unfold Ps Fo;rw[Pt]
 congr 1
 funext j
 rw[eF]
 congr 1
 funext x j
 rw[eG];unfold E0;rw[ha,if_pos rfl,if_neg hn,if_neg hp];simp
theorem Tt {K:Nat->Tk}{self:Nat->Nat->Nat->RX PX}(hP:∀i,(K i).cl=1->0<(K i).tx.length)(m i:Nat)(h:(K i).tx∈H5):Dd K self m i=bX (Bo K (i+1)) fun n j=>bX (Gs K self m (K i).tx j) fun c j=>okX (E0 (K i).tx [] n c.1 c.2) j:=by
 have d:∀p∈H5,(K i).tx=p->Dd K self m i=bX (Bo K (i+1)) fun n j=>bX (Gs K self m p j) fun c j=>okX (E0 p [] n c.1 c.2) j:=by
  intro p a b;simp only[H5,Eh,List.cons_append,List.nil_append,List.mem_cons,List.not_mem_nil,or_false] at a;unfold Dd;rw[b];rcases a with rfl|rfl|rfl|rfl|rfl|rfl|rfl
  case inr.inr.inr.inr.inr.inl =>
   rw[if_neg (by decide),if_neg (by decide),if_neg (by decide),if_pos (by decide)];refine Ls fun n j hn=>?_;unfold Gs;rw[if_pos rfl,Pt]
   congr 1
   funext j
   rw[Pt]
   congr 1
   funext j
   rw[eF]
   congr 1
   funext l j
   rw[eG];unfold E0;rw[if_pos rfl,if_neg (I3 hP hn),if_pos rfl];simp
  case inr.inr.inr.inr.inr.inr =>
   rw[if_neg (by decide),if_neg (by decide),if_neg (by decide),if_neg (by decide),if_pos (by decide)];refine Ls fun n j hn=>?_;unfold Gs;rw[if_neg (show ¬Al=Br by decide),if_pos (rfl:Al=Al)];cases e:(K j).tx==[40] with
   | true =>
    rw[if_pos rfl,if_pos rfl,eF];refine Ls fun l k hl=>?_;exact Ts (by decide) (I3 hP hn) (by rw[if_neg (by decide),if_pos ⟨rfl,Pu m _ _ l k hl⟩];simp) k
   | false =>
    rw[if_neg (by simp),if_neg (by simp)];exact Ts (by decide) (I3 hP hn) (by rw[if_neg (by decide),if_neg (by simp)];simp) j
  all_goals
   rw[if_neg (by decide),if_neg (by decide),if_neg (by decide),if_neg (by decide),if_neg (by decide),if_pos (by decide)];refine Ls fun n j hn=>?_;unfold Gs;rw[if_neg (by decide),if_neg (by decide)];exact Ts (by decide) (I3 hP hn) (by rw[if_neg (by decide),if_neg (by decide)];simp) j
 exact d _ h rfl
section
variable {K:Nat->Tk} {self:Nat->Nat->Nat->RX PX}
def wN (n:List UInt8):Nat:=n.length+10
theorem Py (l:List (List UInt8)):(B9 l).length<=(l.map wN).sum:=by
 have b:∀(l:List (List UInt8))(i:Nat),(Bq Cm i l).length<=(l.map wN).sum:=by
  intro l
  induction l with
  | nil=>intro i;simp[Bq]
  | cons a l ih =>
   intro i;have c:=ih (i+1);have d:=Pe i;simp only[Bq,List.length_append,List.map_cons,List.sum_cons,wN] at c |-;omega
 exact b l 0
theorem K7 (hs:∀n d i,CX i (self n d i))(p a:List UInt8)(i:Nat)(l:List UInt8)(j:Nat)(h:Fo K self p a i=some (.ok (l,j))):i+1<j/\l.length+6<=a.length+(j-i)*10000:=by
 unfold Fo at h;obtain⟨x,k,b,c⟩:=Ai (Au h);have q:=hs _ _ _ x k b;obtain⟨rfl,rfl⟩:=Ak c;have e:(A4 p).length<=2:=by
  unfold A4
  repeat' split
  all_goals decide
 simp only[List.length_append,List.length_cons,List.length_nil];omega
theorem bJ (hT:∀i,(K i).tx.length<=4000)(hs:∀n d i,CX i (self n d i))(m i:Nat)(l:List UInt8)(j:Nat)(h:Dd K self m i=some (.ok (l,j))):i<j/\l.length+1<=(j-i)*10000:=by
 unfold Dd at h;split at h
 ·obtain⟨x,k,b,a⟩:=Ai h;have q:=hs _ _ _ x k b;obtain⟨rfl,rfl⟩:=Ak a;simp only[Cy,List.length_append,List.length_cons,List.length_nil];omega
 split at h
 ·split at h
  ·obtain⟨n,k,b,a⟩:=Ai h;obtain⟨rfl,f⟩:=Dj b;obtain⟨rfl,rfl⟩:=Ak a;have:=hT (i+1);simp only[Fm,List.length_append,List.length_cons,List.length_nil];omega
  ·simp[Ck] at h
 split at h
 ·obtain⟨n,k,b,a⟩:=Ai h;obtain⟨rfl,f⟩:=Dj b;obtain⟨rfl,rfl⟩:=Ak a;simp only[Bi,List.length_append,List.length_cons,List.length_nil];omega
 split at h
 ·obtain⟨n,k,b,a⟩:=Ai h;obtain⟨rfl,f⟩:=Dj b;obtain⟨p,r,g,o⟩:=Ai (Au (Au a));have q:=Hl wN (fun i x j e=>by have:=Dj e;unfold wN;omega) _ _ _ _ _ g;obtain⟨rfl,rfl⟩:=Ak o;have:=Py p;simp only[Br,List.length_append,List.length_cons,List.length_nil,List.map_nil,List.sum_nil] at q |-;omega
 split at h
 ·obtain⟨n,k,b,a⟩:=Ai h;obtain⟨rfl,f⟩:=Dj b;split at a
  ·obtain⟨p,r,g,o⟩:=Ai a;have q:=Hl wN (fun i x j e=>by have:=Dj e;unfold wN;omega) _ _ _ _ _ g;have:=Py p;have c:=K7 hs _ _ _ _ _ o;simp only[Al,List.length_append,List.length_cons,List.length_nil,List.map_nil,List.sum_nil] at q c;omega
  ·have c:=K7 hs _ _ _ _ _ a;simp only[Al,List.length_append,List.length_cons,List.length_nil] at c;omega
 split at h
 ·obtain⟨n,k,b,a⟩:=Ai h;obtain⟨rfl,f⟩:=Dj b;have c:=K7 hs _ _ _ _ _ a;have:=hT i;simp only[List.length_append,List.length_cons,List.length_nil] at c;omega
 ·simp[Ck] at h
theorem Pz (hT:∀i,(K i).tx.length<=4000)(hs:∀n d i,CX i (self n d i))(M:Nat):∀m acc i l j,Es K self M m acc i=some (.ok (l,j))->i<=j/\acc.length<=l.length/\l.length<=acc.length+(j-i)*10000
 | 0,_,_,_,_,h=>by simp[Es] at h
 | m+1,acc,i,l,j,h=>by
  rw[Es] at h;split at h
  ·obtain⟨rfl,rfl⟩:=Ak h;omega
  ·obtain⟨d,k,h1,h2⟩:=Ai h;have q1:=bJ hT hs M i d k h1;have q2:=Pz hT hs M m _ _ l j h2;simp only[List.length_append,List.length_cons,List.length_nil] at q2;omega
theorem eK (hT:∀i,(K i).tx.length<=4000)(hs:∀n d i,CX i (self n d i))(m i:Nat)(l:List UInt8)(j:Nat)(h:Iw K self m i=some (.ok (l,j))):i<j/\0<l.length/\l.length<=(j-i)*10000:=by
 unfold Iw at h;obtain⟨n,k,a,b⟩:=Ai (Au h);obtain⟨rfl,c⟩:=Dj a;have q:=Pz hT hs m m _ _ l j b;simp only[C3,List.length_append,List.length_cons,List.length_nil] at q;omega
end
end Go.Proofs.YtjbfcadeapphbaaGreatDoor.Sx
