/- Plain: modules written once more are no longer than so many bytes a token. -/
import Derived.Test.YtjbfcadeapphbaaGreatDoorF00
import Derived.Test.YtjbfcadeapphbaaGreatDoorF03
namespace Go.Proofs.YtjbfcadeapphbaaGreatDoor.Sx
def btw:Bool->List UInt8->Nat
 | _,[]=>0
 | r,c::l=>if Ee c||(c==35||r) then 1+btw ((c==35||r)&&!(c==10)) l else 0
theorem Ub:∀(r:Bool)(l:List UInt8),btw r l<=l.length
 | _,[]=>Nat.le_refl _
 | r,c::l=>by
  rw[btw];split
  ·have:=Ub ((c==35||r)&&!(c==10)) l;simp;omega
  ·simp
def J2:List (List UInt8):=[[61,61],[58,61],[47,61],[60,61],[62,61],[60,60],[62,62],[46,46],[45,62],[43,43]]
def Np:List UInt8:=[61,60,62,43,45,42,47,37,40,41,123,125,91,93,44,58,46,39]
def Gm (l:List UInt8):Nat:=if decide (1<l.length)&&J2.contains (l.take 2) then 2 else if Np.contains (Dn l 0) then 1 else 0
def Ey (l:List UInt8):Nat×Nat :=
 if l.length=0 then(0,0)
 else if Bp (Dn l 0) then(1,Cm l)
 else if Bu (Dn l 0) then(if Mr l then 2 else 5,Cm l)
 else if (Dn l 0).toNat=34 then Dj (l.drop 1) 1
 else if Gm l=0 then(5,0) else(4,Gm l)
theorem Nq:∀(l:List UInt8)(i:Nat),(Dj l i).2<=i+l.length
 | [],i=>by simp[Dj]
 | c::r,i=>by
  have:=Nq r (i+1);simp only[Dj,List.length_cons]
  repeat' split
  all_goals simp
  all_goals omega
theorem gF (l:List UInt8)(h:0<l.length):Gm l<=l.length:=by
 unfold Gm;split
 ·rename_i q;simp at q;omega
 ·split<;>omega
theorem cJ (l:List UInt8):(Ey l).2<=l.length:=by
 unfold Ey;split
 ·simp
 ·rename_i h0
  repeat' split
  ·exact Gl l
  ·exact Gl l
  ·exact Gl l
  ·have:=Nq (l.drop 1) 1;simp at this |-;omega
  ·exact Nat.zero_le _
  ·exact gF l (by omega)
def I1 (T:List UInt8):Nat->Nat
 | 0=>0
 | i+1=>I1 T i+btw false (T.drop (I1 T i))+(Ey (T.drop (I1 T i+btw false (T.drop (I1 T i))))).2
def atF (T:List UInt8)(i:Nat):Nat:=I1 T i+btw false (T.drop (I1 T i))
def Lj (T:List UInt8)(i:Nat):Nat:=(Ey (T.drop (atF T i))).2
def clF (T:List UInt8)(i:Nat):Nat:=(Ey (T.drop (atF T i))).1
def txF (T:List UInt8)(i:Nat):List UInt8:=(T.drop (atF T i)).take (Lj T i)
def tkF (T:List UInt8)(i:Nat):Tk:=⟨clF T i,txF T i,atF T i⟩
theorem Nr (T:List UInt8)(i:Nat):I1 T (i+1)=atF T i+Lj T i:=rfl
theorem Mt (T:List UInt8):∀i,I1 T i<=T.length
 | 0=>Nat.zero_le _
 | i+1=>by
  have h:=Mt T i;have h1:=Ub false (T.drop (I1 T i));have h2:=cJ (T.drop (I1 T i+btw false (T.drop (I1 T i))));rw[I1];simp at h1 h2;omega
theorem Ji (T:List UInt8)(i:Nat):I1 T i<=atF T i/\atF T i<=T.length/\atF T i+Lj T i<=T.length:=by
 have h:=Mt T i;have b:=Ub false (T.drop (I1 T i));have a:=cJ (T.drop (atF T i));unfold Lj;unfold atF at a |-;simp at b a;omega
theorem G6 (T:List UInt8)(i:Nat):(txF T i).length=Lj T i:=by
 have:=Ji T i;unfold txF;simp;omega
theorem jU (l:List UInt8)(a:Nat):Bs ⟨(Ey l).1,l.take (Ey l).2,a⟩:=by
 cases l with
 | nil=>exact⟨fun c r h=>by simp at h,.inl rfl,fun _=>rfl,fun h=>by simp[Ey] at h,fun h=>by simp[Ey] at h⟩
 | cons c l =>
  have m:Dn (c::l) 0=c:=rfl;have d:∀(k:Nat)(c':UInt8)(r:List UInt8),List.take k (c::l)=c'::r->c'=c:=by
   intro k c' r h;cases k with
   | zero=>simp at h
   | succ k=>simp at h;exact h.1.symm
  have o:=Gz l 1;have p:∀(l:List UInt8)(i:Nat),(Dj l i).1=3->i+1<=(Dj l i).2:=by
   intro l
   induction l with
   | nil=>intro i h;simp[Dj] at h
   | cons c r ih =>
    intro i h;simp only[Dj] at h |-
    repeat' split at h
    ·rename_i e;rw[if_pos e];exact Nat.le_refl _
    ·rename_i e1 e2;rw[if_neg e1,if_pos e2];have:=ih (i+1) h;omega
    ·simp at h
  have s:=Nq l 1;have e:Ey (c::l)=(if Bp c then(1,Cm (c::l)) else if Bu c then(if Mr (c::l) then 2 else 5,Cm (c::l)) else if c.toNat=34 then Dj l 1 else if Gm (c::l)=0 then(5,0) else(4,Gm (c::l))):=by
   unfold Ey;rw[if_neg (by simp),m];rfl
  rw[e];cases f:Bp c with
  | true =>
   simp only[if_true];exact⟨fun _ _ _ _=>rfl,.inr (.inl rfl),fun h=>by simp at h,fun h=>by simp at h,fun h=>by simp at h⟩
  | false =>
   simp only[Bool.false_eq_true,if_false];cases b:Bu c with
   | true =>
    simp only[if_true];have n:Bg c=true\/c=95\/c=34:=by
     simp only[Bu,f,Bool.false_or,Bool.or_eq_true,beq_iff_eq] at b;rcases b with b|b
     ·exact .inl b
     ·exact .inr (.inl b)
    refine⟨fun c' r hc hl=>?_,?_,fun h=>?_,fun _ c' r hc=>?_,fun h=>?_⟩
    ·rw[d _ _ _ hc,f] at hl;simp at hl
    ·show(if _ then 2 else 5)=0\/_;split<;>simp
    ·exfalso;revert h;show(if _ then 2 else 5)=0->_;split<;>simp
    ·rw[d _ _ _ hc];exact n
    ·exfalso;revert h;show(if _ then 2 else 5)=3->_;split<;>simp
   | false =>
    simp only[Bool.false_eq_true,if_false];by_cases j:c.toNat=34
    ·rw[if_pos j];have g:c=34:=by rw[<- UInt8.toNat_inj];exact j
     refine⟨fun c' r hc hl=>?_,?_,fun h=>?_,fun _ c' r hc=>?_,fun h=>?_⟩
     ·rw[d _ _ _ hc,f] at hl;simp at hl
     ·rcases o with q|q
      ·exact .inr (.inr (.inr (.inl q)))
      ·exact .inr (.inr (.inr (.inr (.inr q))))
     ·have h:(Dj l 1).1=0:=h;omega
     ·rw[d _ _ _ hc];exact .inr (.inr g)
     ·have:=p l 1 h;simp;omega
    ·rw[if_neg j];by_cases g:Gm (c::l)=0
     ·rw[if_pos g];exact⟨fun c' r hc=>by simp at hc,by simp,fun h=>by simp at h,fun _ c' r hc=>by simp at hc,fun h=>by simp at h⟩
     ·rw[if_neg g];refine⟨fun c' r hc hl=>?_,by simp,fun h=>by simp at h,fun h=>by simp at h,fun h=>by simp at h⟩;rw[d _ _ _ hc,f] at hl;simp at hl
theorem Ns (T:List UInt8)(i:Nat):Bs (tkF T i):=jU (T.drop (atF T i)) _
theorem P0 (l:List UInt8)(h:(Ey l).1≠0)(h5:(Ey l).1≠5):0<(Ey l).2:=by
 cases l with
 | nil=>simp[Ey] at h
 | cons c l =>
  have b:Dn (c::l) 0=c:=rfl;have e:Ey (c::l)=(if Bp c then(1,Cm (c::l)) else if Bu c then(if Mr (c::l) then 2 else 5,Cm (c::l)) else if c.toNat=34 then Dj l 1 else if Gm (c::l)=0 then(5,0) else(4,Gm (c::l))):=by
   unfold Ey;rw[if_neg (by simp),b];rfl
  have a:Bu c=true->0<Cm (c::l):=fun q=>by simp[Cm,q]
  have d:Bp c=true->Bu c=true:=fun q=>by simp[Bu,q]
  have f:∀(l:List UInt8)(i:Nat),i<=(Dj l i).2:=by
   intro l
   induction l with
   | nil=>intro i;simp[Dj]
   | cons c r ih =>
    intro i;simp only[Dj]
    repeat' split
    ·simp
    ·have:=ih (i+1);omega
    ·simp
  rw[e] at h5 |-;split at h5
  ·rename_i q;rw[if_pos q];exact a (d q)
  ·rename_i q;rw[if_neg q]
   split at h5
   ·rename_i q;rw[if_pos q];exact a q
   ·rename_i q;rw[if_neg q]
    split at h5
    ·rename_i q;rw[if_pos q];exact Nat.lt_of_lt_of_le Nat.zero_lt_one (f l 1)
    ·rename_i q;rw[if_neg q]
     split at h5
     ·simp at h5
     ·rename_i q;rw[if_neg q];exact Nat.pos_of_ne_zero q
theorem Wj (T:List UInt8):∃N,N<=T.length/\(clF T N=0\/clF T N=5)/\∀i,i<N->clF T i≠0/\clF T i≠5:=by
 have b:∀k i,T.length-I1 T i<=k->i<=I1 T i->(∀j,j<i->clF T j≠0/\clF T j≠5)->∃N,N<=T.length/\(clF T N=0\/clF T N=5)/\∀j,j<N->clF T j≠0/\clF T j≠5:=by
  intro k
  induction k with
  | zero =>
   intro i f d a;have h:=Mt T i;have c:=Ji T i;refine⟨i,by omega,.inl ?_,a⟩;unfold clF;rw[List.drop_of_length_le (by omega)];rfl
  | succ k ih =>
   intro i f d a;by_cases q:clF T i=0\/clF T i=5
   ·exact⟨i,by have:=Mt T i;omega,q,a⟩
   ·have g:=P0 (T.drop (atF T i)) (fun e=>q (.inl e)) (fun e=>q (.inr e));have c:=Ji T i;have l:=Nr T i;have m:0<Lj T i:=g;exact ih (i+1) (by omega) (by omega) fun j hj'=>by
     rcases Nat.lt_or_eq_of_le (Nat.le_of_lt_succ hj') with r|r
     ·exact a j r
     ·subst r;exact⟨fun e=>q (.inl e),fun e=>q (.inr e)⟩
 exact b T.length 0 (by omega) (Nat.le_refl _) (fun j h=>absurd h (by omega))
theorem Zc:∀m∈Dp,∃c r,m=c::r/\Bg c=false/\c≠95/\c≠34:=by
 have h:Dp.all (fun m=>match m with | []=>false|c::_=>!Bg c&&c != 95&&c != 34)=true:=by decide
 intro m a;have:=(List.all_eq_true.1 h) m a;cases m with
 | nil=>simp at this
 | cons c r=>simp at this;exact⟨c,r,rfl,this.1.1,this.1.2,this.2⟩
theorem I9 {t:Tk}(h:Bs t){m:List UInt8}(hm:m∈Dp)(e:t.tx=m):t.cl=1\/t.cl=4:=by
 obtain⟨c,r,rfl,a,b,d⟩:=Zc m hm;rcases h.sort with q|q|q|q|q|q
 ·rw[h.none q] at e;simp at e
 ·exact .inl q
 ·have:=h.odd (.inl q) _ _ e;simp[a,b,d] at this
 ·have:=h.odd (.inr (.inl q)) _ _ e;simp[a,b,d] at this
 ·exact .inr q
 ·have:=h.odd (.inr (.inr q)) _ _ e;simp[a,b,d] at this
theorem Uc {T:List UInt8}{N:Nat}(h:clF T N=0\/clF T N=5):Bi (tkF T) N :=
 ⟨h,fun m hm e=>by have:=I9 (Ns T N) hm e;have:clF T N=1\/clF T N=4:=this;omega⟩
theorem Cn {β γ:Type}{a:RX β}{k:β->Nat->RX γ}{y:γ}{l:Nat}(h:bX a k=some (.ok (y,l))):∃x j,a=some (.ok (x,j))/\k x j=some (.ok (y,l)):=by
 rcases a with _|(e|⟨x,j⟩)
 ·simp[bX] at h
 ·simp[bX] at h
 ·exact⟨x,j,rfl,h⟩
section
variable {K:Nat->Tk}
theorem Dm {γ:Type}{m:List UInt8}{i:Nat}{k:Nat->RX γ}{y:γ}{l:Nat}(h:B7 K m i k=some (.ok (y,l))):k (i+1)=some (.ok (y,l)):=by
 unfold B7 at h;split at h
 ·exact h
 ·simp[Dg] at h
theorem Ft {γ:Type}{d i:Nat}{k:Nat->RX γ}{y:γ}{l:Nat}(h:Dh K d i k=some (.ok (y,l))):k (i+1)=some (.ok (y,l)):=by
 unfold Dh at h;split at h
 ·simp[Dg] at h
 ·exact h
theorem Ej {i:Nat}{n:List UInt8}{j:Nat}(h:Au K i=some (.ok (n,j))):j=i+1/\n.length<=16:=by
 unfold Au at h;split at h
 ·simp[Dg] at h
 split at h
 ·simp[Dg] at h
 ·rename_i q
  simp only[okX,Option.some.injEq,Except.ok.injEq,Prod.mk.injEq] at h;exact⟨h.2.symm,by rw[<- h.1];omega⟩
theorem Ct {β:Type}{x y:β}{i j:Nat}(h:okX x i=some (.ok (y,j))):y=x/\j=i:=by
 simp only[okX,Option.some.injEq,Except.ok.injEq,Prod.mk.injEq] at h;exact⟨h.1.symm,h.2.symm⟩
def kl (x:PX):Nat:=match x.key with|some n=>n.length|none=>0
def CX (i:Nat)(r:RX PX):Prop:=∀x j,r=some (.ok (x,j))->i<j/\x.tx.length+kl x+10<=(j-i)*10000
def wP (x:PX):Nat:=x.tx.length+kl x+10
def wPP (p:PX×PX):Nat:=p.1.tx.length+kl p.1+p.2.tx.length+kl p.2+20
theorem Ia {β:Type}(g:β->Nat){cl:List UInt8}{item:Nat->RX β}(hi:∀i x j,item i=some (.ok (x,j))->i<j/\g x<=(j-i)*10000) :
  ∀m acc i l j,A2 K cl item m acc i=some (.ok (l,j))->i<j/\(l.map g).sum+10000<=(acc.map g).sum+(j-i)*10000
 | 0,_,_,_,_,h=>by simp[A2] at h
 | m+1,acc,i,l,j,h=>by
  rw[A2] at h;obtain⟨x,k,h1,h2⟩:=Cn h;have q:=hi i x k h1;split at h2
  ·obtain⟨rfl,rfl⟩:=Ct h2;simp only[List.map_append,List.map_cons,List.map_nil,List.sum_append,List.sum_cons,List.sum_nil];omega
  ·have h3:=Ia g hi m _ _ l j (Dm h2);simp only[List.map_append,List.map_cons,List.map_nil,List.sum_append,List.sum_cons,List.sum_nil] at h3;omega
theorem Ku {sep:Nat->List UInt8}(hs:∀i,(sep i).length<=2):∀(l:List PX)(i:Nat),(Bh sep i (l.map PX.tx)).length<=(l.map wP).sum
 | [],i=>by simp[Bh]
 | a::l,i=>by
  have h1:=Ku hs l (i+1);have h2:=hs i;simp only[List.map_cons,Bh,List.length_append,List.sum_cons,wP] at h1 |-;omega
theorem Ql (i:Nat):(Br i).length<=2:=by unfold Br;split<;>simp
theorem dQ (i:Nat):(C9 i).length<=2:=by unfold C9;split<;>(try split)<;>simp
theorem Kv (l:List PX):(Cx l).length<=(l.map wP).sum:=Ku Ql l 0
theorem Ww:∀l:List (PX×PX),((l.flatMap fun p=>[p.1,p.2]).map wP).sum=(l.map wPP).sum
 | []=>rfl
 | a::l=>by
  have:=Ww l;simp only[List.flatMap_cons,List.map_append,List.sum_append,List.map_cons,List.map_nil,List.sum_cons,List.sum_nil,wP,wPP] at this |-;omega
theorem Ib (x:PX)(n:Nat):(Al x n).length<=x.tx.length+2:=by unfold Al;split<;>simp
variable {self:Nat->Nat->Nat->RX PX} (hT:∀i,(K i).tx.length<=4000) (hs:∀n d i,CX i (self n d i))
theorem dR (hs:∀n d i,CX i (self n d i))(d i:Nat)(p:PX×PX)(j:Nat)(h:Gt K self d i=some (.ok (p,j))):i<j/\wPP p<=(j-i)*10000:=by
 unfold Gt at h;obtain⟨a,f,c,h⟩:=Cn h;have k:=hs _ _ _ _ _ c;obtain⟨b,g,e,h⟩:=Cn (Dm h);have l:=hs _ _ _ _ _ e;obtain⟨rfl,rfl⟩:=Ct h;simp only[wPP];omega
theorem dS (op n:List UInt8)(a b:PX):(C7 op n a b).tx.length<=op.length+n.length+a.tx.length+b.tx.length+15:=by
 have:=Ib a 8;unfold C7;split<;>simp only[Gv,List.length_append,List.length_cons,List.length_nil]<;>omega
theorem Qm (hs:∀n d i,CX i (self n d i))(op:List UInt8)(ho:op.length<=4000)(d i:Nat)(x:PX)(j:Nat)(h:Jy K self op d i=some (.ok (x,j))):i<j/\x.tx.length+kl x+10<=(j-i)*10000:=by
 unfold Jy at h;obtain⟨n,k,c,h⟩:=Cn h;have o:=Ej c;obtain⟨a,l,e,h⟩:=Cn (Dm h);have p:=hs _ _ _ _ _ e;obtain⟨b,m,f,h⟩:=Cn (Dm h);have q:=hs _ _ _ _ _ f;obtain⟨rfl,rfl⟩:=Ct h;have:=dS op n a b;have g:kl (C7 op n a b)=0:=by unfold C7;split<;>rfl
 omega
theorem Ur (hT:∀i,(K i).tx.length<=4000)(hs:∀n d i,CX i (self n d i))(d i:Nat):CX i (Dv K self d i):=by
 intro x j h;unfold Dv at h;have h:=Ft h;split at h
 ·unfold I6 at h;obtain⟨a,k,e,h⟩:=Cn h;have o:=hs _ _ _ _ _ e;obtain⟨b,l,f,h⟩:=Cn (Dm h);have p:=hs _ _ _ _ _ f;obtain⟨c,m,g,h⟩:=Cn (Dm h);have q:=hs _ _ _ _ _ g;obtain⟨rfl,rfl⟩:=Ct h;simp only[dIf,kl,List.length_append,List.length_cons,List.length_nil];omega
 split at h
 ·unfold Jz at h;obtain⟨n,k,e,h⟩:=Cn h;have o:=Ej e;obtain⟨a,l,f,h⟩:=Cn (Dm h);have p:=hs _ _ _ _ _ f;obtain⟨b,m,g,h⟩:=Cn (Dm h);have q:=hs _ _ _ _ _ g;obtain⟨rfl,rfl⟩:=Ct h;simp only[Kh,kl,List.length_append,List.length_cons,List.length_nil];omega
 ·have:=Qm hs _ (hT i) _ _ _ _ h;omega
theorem Zp (hT:∀i,(K i).tx.length<=4000)(hs:∀n d i,CX i (self n d i))(r d i:Nat):CX i (El K self r d i):=by
 intro x j h;unfold El at h;have e:=hT i;split at h
 ·obtain⟨n,b,a,h⟩:=Cn h;have c:=Ej a;obtain⟨rfl,rfl⟩:=Ct h;simp only[Ed,kl,List.length_append,List.length_cons];omega
 ·obtain⟨y,b,a,h⟩:=Cn (Ft h);have c:=hs _ _ _ _ _ a;obtain⟨rfl,rfl⟩:=Ct h;have:=Ib y r;simp only[Co,kl];split<;>simp only[List.length_append,List.length_cons]<;>omega
theorem S4 (hs:∀n d i,CX i (self n d i))(m:Nat)(n:List UInt8)(hn:n.length<=4000)(d i:Nat):CX i (Ke K self m n d i):=by
 intro x j h;unfold Ke at h;obtain⟨l,c,a,h⟩:=Cn (Ft h);have b:=Ia wP (fun i x j e=>hs _ _ _ _ _ e) _ _ _ _ _ a;obtain⟨rfl,rfl⟩:=Ct h;have:=Kv l;simp only[Ef,kl,List.length_append,List.length_cons,List.length_nil,List.map_nil,List.sum_nil] at b |-;omega
theorem Zq (hs:∀n d i,CX i (self n d i))(m d i:Nat):CX i (Hq K self m d i):=by
 intro x j h;unfold Hq at h;obtain⟨n,b,a,h⟩:=Cn h;have c:=Ej a;split at h
 ·obtain⟨rfl,rfl⟩:=Ct h;simp only[Cw,kl,List.length_append,List.length_cons,List.length_nil];omega
 split at h
 ·have:=S4 hs m n (by omega) _ _ _ _ h;omega
 ·obtain⟨rfl,rfl⟩:=Ct h;simp only[Cw,kl];omega
theorem dT (hT:∀i,(K i).tx.length<=4000)(hs:∀n d i,CX i (self n d i))(m d i:Nat):CX i (Ge K self m d i):=by
 intro x j h;unfold Ge at h;have a:=hT i;split at h
 ·obtain⟨rfl,rfl⟩:=Ct h;simp only[Cw,kl];omega
 split at h
 ·split at h
  ·have:=S4 hs m _ a _ _ _ _ h;omega
  ·simp[Dg] at h
 ·exact Zq hs m d i x j h
theorem Wx (hs:∀n d i,CX i (self n d i)){cl:List UInt8}(m d i:Nat)(l:List PX)(j:Nat)(h:Lh K cl (self 0 d) m i=some (.ok (l,j))):i<j/\(l.map wP).sum+10000<=(j-i)*10000:=by
 unfold Lh at h;split at h
 ·obtain⟨rfl,rfl⟩:=Ct h;simp
 ·have:=Ia wP (fun i x j e=>hs _ _ _ _ _ e) _ _ _ _ _ h;simpa using this
theorem gQ (hT:∀i,(K i).tx.length<=4000)(hs:∀n d i,CX i (self n d i))(m d i:Nat):CX i (Oz K self m d i):=by
 intro x j h;unfold Oz at h;split at h
 ·obtain⟨y,b,a,h⟩:=Cn h;have:=Qm hs _ (hT i) _ _ _ _ a;obtain⟨rfl,rfl⟩:=Ct (Dm h);omega
 ·obtain⟨l,b,a,h⟩:=Cn h;have c:=Wx hs _ _ _ _ _ a;have:=Kv l;obtain⟨rfl,rfl⟩:=Ct h;simp only[Jo,kl,List.length_append,List.length_cons,List.length_nil];omega
theorem Ut (hT:∀i,(K i).tx.length<=4000)(hs:∀n d i,CX i (self n d i))(m d i:Nat):CX i (Cj K self m d i):=by
 intro x j h;unfold Cj at h;split at h
 ·obtain⟨y,c,a,h⟩:=Cn (Ft h);have b:=hs _ _ _ _ _ a;obtain⟨rfl,rfl⟩:=Ct (Dm h);omega
 split at h
 ·have:=gQ hT hs m _ _ _ _ (Ft h);omega
 split at h
 ·obtain⟨l,c,a,h⟩:=Cn (Ft h);have b:=Wx hs _ _ _ _ _ a;have:=Kv l;obtain⟨rfl,rfl⟩:=Ct h;simp only[Iz,kl,List.length_append,List.length_cons,List.length_nil];omega
 split at h
 ·obtain⟨l,c,a,h⟩:=Cn (Ft h);have b:=Ia wPP (fun i x j e=>dR hs _ _ _ _ e) _ _ _ _ _ a;have:=Ku dQ (l.flatMap fun p=>[p.1,p.2]) 0;rw[Ww] at this;obtain⟨rfl,rfl⟩:=Ct h;simp only[Jh,kl,List.length_append,List.length_cons,List.length_nil,List.map_nil,List.sum_nil] at b |-;omega
 ·simp[Dg] at h
theorem Zr (hN:∀i v,Lib.parseIntB 64 (K i).tx=.ok v->(Lib.itoa v).length<=100)(hT:∀i,(K i).tx.length<=4000)(hs:∀n d i,CX i (self n d i))(m d i:Nat):CX i (Gw K self m d i):=by
 intro x j h;unfold Gw at h;have b:=hT i;split at h
 ·split at h
  ·rename_i v hv
   obtain⟨rfl,rfl⟩:=Ct h;have:=hN i v hv;simp only[Cw,kl];omega
  ·simp[Dg] at h
 split at h
 ·obtain⟨rfl,rfl⟩:=Ct h;have a:kl (Fg (((K i).tx.take ((K i).tx.length-1)).drop 1))<=4000:=by
   unfold kl Fg;simp only;split
   ·rename_i n hn
    split at hn
    ·simp only[Option.some.injEq] at hn;rw[<- hn,List.length_drop,List.length_take];omega
    ·simp at hn
   ·omega
  refine⟨by omega,?_⟩;have:(Fg (((K i).tx.take ((K i).tx.length-1)).drop 1)).tx.length<=4002:=by
   simp only[Fg,List.length_append,List.length_cons,List.length_nil,List.length_drop,List.length_take];omega
  omega
 split at h
 ·exact dT hT hs m d i x j h
 ·exact Ut hT hs m d i x j h
theorem cL (f k:PX):(dAt f k).tx.length+kl (dAt f k)<=f.tx.length+k.tx.length+kl k+4:=by
 have:=Ib f 13;have a:kl (dAt f k)=0:=rfl;rw[a];simp only[dAt,List.length_append];split
 ·rename_i n hn
  have:kl k=n.length:=by simp[kl,hn]
  simp only[List.length_cons];omega
 ·simp only[List.length_cons,List.length_append,List.length_nil];omega
theorem gR (f k v:PX):(Gp f k v).tx.length+kl (Gp f k v)<=f.tx.length+k.tx.length+v.tx.length+8:=by
 have:=Ib f 13;have a:kl (Gp f k v)=0:=rfl;rw[a];simp only[Gp,List.length_append,List.length_cons,List.length_nil];omega
theorem gS (n:List UInt8):(Fg n).tx.length+kl (Fg n)<=2*n.length+2:=by
 have a:(Fg n).tx.length=n.length+2:=by simp[Fg]
 have b:kl (Fg n)<=n.length:=by
  unfold kl Fg;simp only;split
  ·rename_i m hm
   split at hm
   ·simp only[Option.some.injEq] at hm;rw[hm];omega
   ·simp at hm
  ·omega
 omega
theorem Ja (hs:∀n d i,CX i (self n d i))(M d:Nat):∀m x i y j,Ce K self M d m x i=some (.ok (y,j))->i<=j/\y.tx.length+kl y<=x.tx.length+kl x+(j-i)*10000
 | 0,_,_,_,_,h=>by simp[Ce] at h
 | m+1,x,i,y,j,h=>by
  rw[Ce] at h;split at h
  ·obtain⟨k,j1,h1,h⟩:=Cn (Ft h);have q1:=hs _ _ _ _ _ h1;split at h
   ·obtain⟨v,j2,h2,h⟩:=Cn h;have q2:=hs _ _ _ _ _ h2;have q3:=Ja hs M d m _ _ _ _ (Dm h);have:=gR x k v;omega
   ·have q3:=Ja hs M d m _ _ _ _ (Dm h);have:=cL x k;omega
  split at h
  ·obtain⟨n,j1,h1,h⟩:=Cn h;have q1:=Ej h1;have q3:=Ja hs M d m _ _ _ _ h;have:=cL x (Fg n);have:=gS n;omega
  ·obtain⟨rfl,rfl⟩:=Ct h;omega
theorem Zs (hN:∀i v,Lib.parseIntB 64 (K i).tx=.ok v->(Lib.itoa v).length<=100)(hT:∀i,(K i).tx.length<=4000)(hs:∀n d i,CX i (self n d i))(m d i:Nat):CX i (Gq K self m d i):=by
 intro x j h;unfold Gq at h;obtain⟨y,b,a,h⟩:=Cn h;have c:=Zr hN hT hs m d i _ _ a;have e:=Ja hs _ _ _ _ _ _ _ h;omega
theorem Qn (hT:∀i,(K i).tx.length<=4000)(hs:∀n d i,CX i (self n d i))(rank d:Nat):∀m held x i y j,Cr K self rank d m held x i=some (.ok (y,j))->i<=j/\y.1.tx.length+kl y.1<=x.tx.length+kl x+(j-i)*10000
 | 0,_,_,_,_,_,h=>by simp[Cr] at h
 | m+1,held,x,i,y,j,h=>by
  rw[Cr] at h;split at h
  ·obtain⟨rfl,rfl⟩:=Ct h;simp
  ·obtain⟨z,j1,h1,h⟩:=Cn h;have q1:=hs _ _ _ _ _ h1;have q2:=Qn hT hs rank d m _ _ _ _ _ h;have p1:=Ib x (Cv (Ak (K i).tx));have p2:=Ib z (Ca (Ak (K i).tx));have ht:=hT i;have h0:kl (B8 (K i).tx x z)=0:=rfl;have:(B8 (K i).tx x z).tx.length<=x.tx.length+z.tx.length+4006:=by
    simp only[B8,List.length_append,List.length_cons,List.length_nil];omega
   omega
theorem dU (hN:∀i v,Lib.parseIntB 64 (K i).tx=.ok v->(Lib.itoa v).length<=100)(hT:∀i,(K i).tx.length<=4000)(hs:∀n d i,CX i (self n d i))(m rank d i:Nat):CX i (bX (Ii K self m rank d i) fun x j=>okX x.1 j):=by
 intro x j h;obtain⟨y,f,b,h⟩:=Cn h;obtain⟨rfl,rfl⟩:=Ct h;unfold Ii at b;split at b
 ·simp[Dg] at b
 obtain⟨z,c,a,e⟩:=Cn b;have k:=Qn hT hs _ _ _ _ _ _ _ _ e;have g:i<c/\z.tx.length+kl z+10<=(c-i)*10000:=by
  unfold Hc at a;split at a
  ·exact Ur hT hs d i _ _ a
  split at a
  ·exact Zp hT hs _ d i _ _ a
  ·exact Zs hN hT hs m d i _ _ a
 omega
theorem S5 (hN:∀i v,Lib.parseIntB 64 (K i).tx=.ok v->(Lib.itoa v).length<=100)(hT:∀i,(K i).tx.length<=4000):∀f n d i,CX i (Ht K f n d i)
 | 0,_,_,_=>fun x j h=>by simp[Ht] at h
 | f+1,n,d,i=>by
  rw[Ht];exact dU hN hT (S5 hN hT f) _ _ _ _
end
section
variable {K:Nat->Tk} {self:Nat->Nat->Nat->RX PX}
end
theorem cP (T:List UInt8)(i:Nat)(h:(tkF T i).cl=1):0<(tkF T i).tx.length:=by
 have a:clF T i=1:=h;have:=P0 (T.drop (atF T i)) (by unfold clF at a;omega) (by unfold clF at a;omega);show 0<(txF T i).length;rw[G6];exact this
def Cq:List UInt8:=[109,111,100,117,108,101]
def Ea:List UInt8:=[105,110,105,116]
def Ew:List UInt8:=[102,97,105,114]
def Eb:List UInt8:=[119,101,97,107]
def Bz:List UInt8:=[115,116,114,111,110,103]
def B1:List UInt8:=[115,121,109,109,101,116,114,105,99]
def B2:List UInt8:=[97,116,111,109,115]
def Aq:List UInt8:=[100,101,102,105,110,101]
def Bl:List UInt8:=[99,111,110,115,116,97,110,116]
def Bo:List UInt8:=[118,97,114,105,97,98,108,101]
def Ep:List (List UInt8):=[[97,99,116,105,111,110],[105,110,118,97,114,105,97,110,116],[112,114,111,112,101,114,116,121]]
def Bq (p:List UInt8):List UInt8:=if p=Bl then[61] else if p=Bo then[105,110] else[61,61]
def Bj (l:List (List UInt8)):List UInt8:=Bh Br 0 l
section
variable (K:Nat->Tk) (self:Nat->Nat->Nat->RX PX)
def Em (p ahead:List UInt8)(i:Nat):RX (List UInt8) :=
 B7 K (Bq p) i fun j=>bX (self 0 0 j) fun x j=>okX (ahead++[32]++Bq p++[32]++x.tx) j
def Da (m i:Nat):RX (List UInt8) :=
 if (K i).tx==Ea then bX (self 0 0 (i+1)) fun x j=>okX (Ea++[32]++x.tx) j
 else if (K i).tx==Ew then
  (if (K (i+1)).tx==Eb||(K (i+1)).tx==Bz then bX (Au K (i+2)) fun n j=>okX (Ew++[32]++(K (i+1)).tx++[32]++n) j else Dg 1 (K (i+1)).at')
 else if (K i).tx==B1 then bX (Au K (i+1)) fun n j=>okX (B1++[32]++n) j
 else if (K i).tx==B2 then
  bX (Au K (i+1)) fun n j=>B7 K [61] j fun j=>B7 K [123] j fun j=>bX (A2 K [125] (Au K) m [] j) fun l j=>okX (B2++[32]++n++[32,61,32,123]++Bj l++[125]) j
 else if (K i).tx==Aq then
  bX (Au K (i+1)) fun n j =>
   if (K j).tx==[40] then bX (A2 K [41] (Au K) m [] (j+1)) fun l j=>Em K self Aq (Aq++[32]++n++[40]++Bj l++[41]) j
   else Em K self Aq (Aq++[32]++n) j
 else if (K i).tx==Bl||(K i).tx==Bo||Ep.contains (K i).tx then bX (Au K (i+1)) fun n j=>Em K self (K i).tx ((K i).tx++[32]++n) j
 else Dg 1 (K i).at'
def Fo (M:Nat):Nat->List UInt8->Nat->RX (List UInt8)
 | 0,_,_=>none
 | m+1,acc,i=>if (K i).cl=0 then okX acc i else bX (Da K self M i) fun l j=>Fo M m (acc++l++[10]) j
def N6 (m i:Nat):RX (List UInt8) :=
 B7 K Cq i fun j=>bX (Au K j) fun n j=>Fo K self m m (Cq++[32]++n++[10]) j
end
section
variable {K:Nat->Tk} {self self':Nat->Nat->Nat->RX PX}
theorem Kz (hs:LeS self self')(p a:List UInt8)(i:Nat):leX (Em K self p a i) (Em K self' p a i) :=
 Di fun _=>Bd (hs _ _ _) fun _ _=>leX.refl _
theorem bK (hs:LeS self self'){m m':Nat}(hm:m<=m')(i:Nat):leX (Da K self m i) (Da K self' m' i) :=
 Bc (Bd (hs _ _ _) fun _ _=>leX.refl _) (Bc (leX.refl _) (Bc (leX.refl _)
  (Bc (Bd (leX.refl _) fun _ _=>Di fun _=>Di fun _=>Bd (Gx (fun _=>leX.refl _) m m' hm _ _) fun _ _=>leX.refl _)
   (Bc (Bd (leX.refl _) fun _ _=>Bc (Bd (Gx (fun _=>leX.refl _) m m' hm _ _) fun _ _=>Kz hs _ _ _) (Kz hs _ _ _))
    (Bc (Bd (leX.refl _) fun _ _=>Kz hs _ _ _) (leX.refl _))))))
theorem Ow (hs:LeS self self'){M M':Nat}(hM:M<=M'):∀m m',m<=m'->∀acc i,leX (Fo K self M m acc i) (Fo K self' M' m' acc i)
 | 0,_,_,_,_=>leX.none _
 | m+1,0,hm,_,_=>absurd hm (by omega)
 | m+1,m'+1,hm,acc,i=>Bc (leX.refl _) (Bd (bK hs hM i) fun _ _=>Ow hs hM m m' (by omega) _ _)
theorem fI (hs:LeS self self'){m m':Nat}(hm:m<=m')(i:Nat):leX (N6 K self m i) (N6 K self' m' i) :=
 Di fun _=>Bd (leX.refl _) fun _ _=>Ow hs hm m m' hm _ _
end
section
variable {K:Nat->Tk} {N:Nat} {self:Nat->Nat->Nat->RX PX}
theorem Yh (p:List UInt8):Bq p∈Dp:=by
 unfold Bq
 repeat' split
 all_goals decide
theorem Md (h:Bi K N){lo:Nat}(hs:Dt N lo self)(p a:List UInt8){i:Nat}(h1:lo<=i)(h2:i<=N):Adv (i+1) N (Em K self p a i) :=
 Dl h (Yh p) h2 fun c=>(hs 0 0 _ (by omega) c).bind fun _ _ a b=>Adv.ok (by omega) b
theorem fJ (h:Bi K N){i m:Nat}(hs:Dt N (i+1) self)(h2:i<=N)(q:N-i<m+1):Adv (i+1) N (Da K self m i) :=
 Adv.ite (fun e=>(hs 0 0 _ (by omega) (h.lt h2 e (by decide))).bind fun _ _ a b=>Adv.ok (by omega) b) fun _ =>
 Adv.ite (fun e=>Adv.ite (fun e2=>by
   have a1:=h.lt h2 e (by decide);have a2:i+1<N:=by
    rw[Bool.or_eq_true] at e2;rcases e2 with e2|e2
    ·exact h.lt a1 e2 (by decide)
    ·exact h.lt a1 e2 (by decide)
   exact(Ei h a2).bind fun _ _ a b=>Adv.ok (by omega) b) fun _=>Adv.err) fun _ =>
 Adv.ite (fun e=>(Ei h (h.lt h2 e (by decide))).bind fun _ _ a b=>Adv.ok (by omega) b) fun _ =>
 Adv.ite (fun e=>(Ei h (h.lt h2 e (by decide))).bind fun _ j a b=>Dl h (by decide) b fun c=>Dl h (by decide) c fun c2 =>
   (H9 h (by decide) (lo:=i) (fun j _ b=>Ei h b) m _ _ (by omega) c2 (by omega)).bind fun _ _ a b=>Adv.ok (by omega) b) fun _ =>
 Adv.ite (fun e=>(Ei h (h.lt h2 e (by decide))).bind fun _ j a b=>Adv.ite (fun e2 =>
   (H9 h (by decide) (lo:=i) (fun j _ b=>Ei h b) m _ _ (by omega) (h.lt b e2 (by decide)) (by omega)).bind fun _ _ a b=>(Md h hs _ _ (by omega) b).mono (by omega))
   fun _=>(Md h hs _ _ (by omega) b).mono (by omega)) fun _ =>
 Adv.ite (fun e=>by
   have a1:i<N:=by
    simp only[Bool.or_eq_true] at e;rcases e with(e|e)|e
    ·exact h.lt h2 e (by decide)
    ·exact h.lt h2 e (by decide)
    ·exact h.lt_in h2 e (by decide)
   exact(Ei h a1).bind fun _ _ a b=>(Md h hs _ _ (by omega) b).mono (by omega)) fun _=>Adv.err
theorem Q7 (h:Bi K N){lo:Nat}(hs:Dt N lo self)(M:Nat):∀m acc i,lo<=i+1->i<=N->N-i<m->N-i<M+1->Adv i N (Fo K self M m acc i)
 | 0,_,_,_,_,q,_=>absurd q (by omega)
 | m+1,acc,i,h1,h2,q,q2=>Adv.ite (fun _=>Adv.ok (Nat.le_refl _) h2) fun _ =>
   (fJ h (fun n d j a b=>hs n d j (by omega) b) h2 q2).bind fun _ j a b=>(Q7 h hs M m _ j (by omega) b (by omega) (by omega)).mono (by omega)
theorem iV (h:Bi K N)(hs:Dt N 0 self){m:Nat}(q:N<m):Adv 0 N (N6 K self m 0) :=
 Dl h (by decide) (Nat.zero_le _) fun c=>(Ei h c).bind fun _ j a b=>(Q7 h hs m m _ j (by omega) b (by omega) (by omega)).mono (by omega)
end
def Db (ls:List (List UInt8)):List UInt8:=ls.flatMap (·++[10])
theorem Mg (ls:List (List UInt8))(l:List UInt8):Db (ls++[l])=Db ls++l++[10]:=by simp[Db]
theorem Mh (ls:List (List UInt8))(k:Nat)(l:List UInt8)(h:ls[k]?=some l):Db (ls.take (k+1))=Db (ls.take k)++l++[10]:=by
 rw[List.take_add_one,h,Option.toList_some,Mg]
theorem Ym (ls:List (List UInt8))(k:Nat):(Db (ls.take k)).length<=(Db ls).length:=by
 have:Db ls=Db (ls.take k)++Db (ls.drop k):=by unfold Db;rw[<- List.flatMap_append,List.take_append_drop]
 rw[this,List.length_append];omega
def Fp (word how nm:List UInt8)(names:List (List UInt8))(ox:Option PX):List UInt8 :=
 word++(if how=[] then[] else[32]++how)++(if nm=[] then[] else[32]++nm)++(if word=B2 then[32,61,32]++[123]++Bj names++[125] else if word=Aq/\names≠[] then[40]++Bj names++[41] else[]) ++
  (match ox with|none=>[]|some x=>(if word=Ea then[] else[32]++Bq word)++[32]++x.tx)
section
variable (K:Nat->Tk) (self:Nat->Nat->Nat->RX PX)
def Rd (p:List UInt8)(l:List (List UInt8))(i:Nat):RX (List (List UInt8)×Option PX):=B7 K (Bq p) i fun j=>bX (self 0 0 j) fun x j=>okX (l,some x) j
def Gs (m:Nat)(p:List UInt8)(i:Nat):RX (List (List UInt8)×Option PX) :=
 if p=B2 then B7 K [61] i fun j=>B7 K [123] j fun j=>bX (A2 K [125] (Au K) m [] j) fun l j=>okX (l,none) j
 else if p=Aq then(if (K i).tx==[40] then bX (A2 K [41] (Au K) m [] (i+1)) fun l j=>Rd K self p l j else Rd K self p [] i)
 else Rd K self p [] i
end
theorem Ni {β γ:Type}{a:RX β}{f g:β->Nat->RX γ}(h:∀x j,a=some (.ok (x,j))->f x j=g x j):bX a f=bX a g:=by
 rcases a with _|(e|⟨x,j⟩)
 ·rfl
 ·rfl
 ·exact h x j rfl
theorem jC {β γ δ:Type}(a:RX β)(f:β->Nat->RX γ)(g:γ->Nat->RX δ):bX (bX a f) g=bX a fun x j=>bX (f x j) g:=by
 rcases a with _|(e|⟨x,j⟩)<;>rfl
theorem Rf {K:Nat->Tk}{β γ:Type}(m:List UInt8)(i:Nat)(f:Nat->RX β)(g:β->Nat->RX γ):bX (B7 K m i f) g=B7 K m i fun j=>bX (f j) g:=by
 unfold B7;split<;>rfl
theorem jD {β γ:Type}(x:β)(j:Nat)(g:β->Nat->RX γ):bX (okX x j) g=g x j:=rfl
theorem Rg {K:Nat->Tk}{β:Type}{cl:List UInt8}{item:Nat->RX β}:∀(m:Nat)(acc:List β)(i:Nat)(l:List β)(j:Nat),A2 K cl item m acc i=some (.ok (l,j))->l≠[]
 | 0,_,_,_,_,h=>by simp[A2] at h
 | m+1,acc,i,l,j,h=>by
  simp only[A2] at h;rcases hq:item i with _|(e|⟨x,k⟩)
  ·simp[hq,bX] at h
  ·simp[hq,bX] at h
  ·rw[hq] at h;simp only[bX] at h;split at h
   ·simp only[okX,Option.some.injEq,Except.ok.injEq,Prod.mk.injEq] at h;rw[<- h.1];simp
   ·unfold B7 at h;split at h
    ·exact Rg m _ _ l j h
    ·simp[Dg] at h
theorem Jv {K:Nat->Tk}(hP:∀i,(K i).cl=1->0<(K i).tx.length){i j:Nat}{n:List UInt8}(h:Au K i=some (.ok (n,j))):n≠[]:=by
 unfold Au at h;split at h
 ·simp[Dg] at h
 ·rename_i h1
  split at h
  ·simp[Dg] at h
  ·simp only[okX,Option.some.injEq,Except.ok.injEq,Prod.mk.injEq] at h;have a:(K i).cl=1:=Classical.byContradiction fun q=>h1 (.inl q);have:=hP i a;rw[<- h.1];intro e;rw[e] at this;exact absurd this (by simp)
def Ix:List (List UInt8):=[Bl,Bo]++Ep++[B2,Aq]
theorem Vo {K:Nat->Tk}{self:Nat->Nat->Nat->RX PX}{p n:List UInt8}{l:List (List UInt8)}{ahead:List UInt8}(hp:p≠Ea)(hn:n≠[])(ha:ahead=p++[32]++n++(if p=B2 then[32,61,32]++[123]++Bj l++[125] else if p=Aq/\l≠[] then[40]++Bj l++[41] else[]))(i:Nat) :
  Em K self p ahead i=bX (Rd K self p l i) fun c j=>okX (Fp p [] n c.1 c.2) j:=by
 unfold Rd Em;rw[Rf]
 congr 1
 funext j
 rw[jC]
 congr 1
 funext x j
 rw[jD];unfold Fp;rw[ha,if_pos rfl,if_neg hn,if_neg hp];simp
theorem Vp {K:Nat->Tk}{self:Nat->Nat->Nat->RX PX}(hP:∀i,(K i).cl=1->0<(K i).tx.length)(m i:Nat)(h:(K i).tx∈Ix):Da K self m i=bX (Au K (i+1)) fun n j=>bX (Gs K self m (K i).tx j) fun c j=>okX (Fp (K i).tx [] n c.1 c.2) j:=by
 have d:∀p∈Ix,(K i).tx=p->Da K self m i=bX (Au K (i+1)) fun n j=>bX (Gs K self m p j) fun c j=>okX (Fp p [] n c.1 c.2) j:=by
  intro p a b;simp only[Ix,Ep,List.cons_append,List.nil_append,List.mem_cons,List.not_mem_nil,or_false] at a;unfold Da;rw[b];rcases a with rfl|rfl|rfl|rfl|rfl|rfl|rfl
  case inr.inr.inr.inr.inr.inl =>
   rw[if_neg (by decide),if_neg (by decide),if_neg (by decide),if_pos (by decide)];refine Ni fun n j hn=>?_;unfold Gs;rw[if_pos rfl,Rf]
   congr 1
   funext j
   rw[Rf]
   congr 1
   funext j
   rw[jC]
   congr 1
   funext l j
   rw[jD];unfold Fp;rw[if_pos rfl,if_neg (Jv hP hn),if_pos rfl];simp
  case inr.inr.inr.inr.inr.inr =>
   rw[if_neg (by decide),if_neg (by decide),if_neg (by decide),if_neg (by decide),if_pos (by decide)];refine Ni fun n j hn=>?_;unfold Gs;rw[if_neg (show ¬Aq=B2 by decide),if_pos (rfl:Aq=Aq)];cases e:(K j).tx==[40] with
   | true =>
    rw[if_pos rfl,if_pos rfl,jC];refine Ni fun l k hl=>?_;exact Vo (by decide) (Jv hP hn) (by rw[if_neg (by decide),if_pos ⟨rfl,Rg m _ _ l k hl⟩];simp) k
   | false =>
    rw[if_neg (by simp),if_neg (by simp)];exact Vo (by decide) (Jv hP hn) (by rw[if_neg (by decide),if_neg (by simp)];simp) j
  all_goals
   rw[if_neg (by decide),if_neg (by decide),if_neg (by decide),if_neg (by decide),if_neg (by decide),if_pos (by decide)];refine Ni fun n j hn=>?_;unfold Gs;rw[if_neg (by decide),if_neg (by decide)];exact Vo (by decide) (Jv hP hn) (by rw[if_neg (by decide),if_neg (by decide)];simp) j
 exact d _ h rfl
section
variable {K:Nat->Tk} {self:Nat->Nat->Nat->RX PX}
def wN (n:List UInt8):Nat:=n.length+10
theorem Rk (l:List (List UInt8)):(Bj l).length<=(l.map wN).sum:=by
 have b:∀(l:List (List UInt8))(i:Nat),(Bh Br i l).length<=(l.map wN).sum:=by
  intro l
  induction l with
  | nil=>intro i;simp[Bh]
  | cons a l ih =>
   intro i;have c:=ih (i+1);have d:=Ql i;simp only[Bh,List.length_append,List.map_cons,List.sum_cons,wN] at c |-;omega
 exact b l 0
theorem Mj (hs:∀n d i,CX i (self n d i))(p a:List UInt8)(i:Nat)(l:List UInt8)(j:Nat)(h:Em K self p a i=some (.ok (l,j))):i+1<j/\l.length+6<=a.length+(j-i)*10000:=by
 unfold Em at h;obtain⟨x,k,b,c⟩:=Cn (Dm h);have q:=hs _ _ _ x k b;obtain⟨rfl,rfl⟩:=Ct c;have e:(Bq p).length<=2:=by
  unfold Bq
  repeat' split
  all_goals decide
 simp only[List.length_append,List.length_cons,List.length_nil];omega
theorem fR (hT:∀i,(K i).tx.length<=4000)(hs:∀n d i,CX i (self n d i))(m i:Nat)(l:List UInt8)(j:Nat)(h:Da K self m i=some (.ok (l,j))):i<j/\l.length+1<=(j-i)*10000:=by
 unfold Da at h;split at h
 ·obtain⟨x,k,b,a⟩:=Cn h;have q:=hs _ _ _ x k b;obtain⟨rfl,rfl⟩:=Ct a;simp only[Ea,List.length_append,List.length_cons,List.length_nil];omega
 split at h
 ·split at h
  ·obtain⟨n,k,b,a⟩:=Cn h;obtain⟨rfl,f⟩:=Ej b;obtain⟨rfl,rfl⟩:=Ct a;have:=hT (i+1);simp only[Ew,List.length_append,List.length_cons,List.length_nil];omega
  ·simp[Dg] at h
 split at h
 ·obtain⟨n,k,b,a⟩:=Cn h;obtain⟨rfl,f⟩:=Ej b;obtain⟨rfl,rfl⟩:=Ct a;simp only[B1,List.length_append,List.length_cons,List.length_nil];omega
 split at h
 ·obtain⟨n,k,b,a⟩:=Cn h;obtain⟨rfl,f⟩:=Ej b;obtain⟨p,r,g,o⟩:=Cn (Dm (Dm a));have q:=Ia wN (fun i x j e=>by have:=Ej e;unfold wN;omega) _ _ _ _ _ g;obtain⟨rfl,rfl⟩:=Ct o;have:=Rk p;simp only[B2,List.length_append,List.length_cons,List.length_nil,List.map_nil,List.sum_nil] at q |-;omega
 split at h
 ·obtain⟨n,k,b,a⟩:=Cn h;obtain⟨rfl,f⟩:=Ej b;split at a
  ·obtain⟨p,r,g,o⟩:=Cn a;have q:=Ia wN (fun i x j e=>by have:=Ej e;unfold wN;omega) _ _ _ _ _ g;have:=Rk p;have c:=Mj hs _ _ _ _ _ o;simp only[Aq,List.length_append,List.length_cons,List.length_nil,List.map_nil,List.sum_nil] at q c;omega
  ·have c:=Mj hs _ _ _ _ _ a;simp only[Aq,List.length_append,List.length_cons,List.length_nil] at c;omega
 split at h
 ·obtain⟨n,k,b,a⟩:=Cn h;obtain⟨rfl,f⟩:=Ej b;have c:=Mj hs _ _ _ _ _ a;have:=hT i;simp only[List.length_append,List.length_cons,List.length_nil] at c;omega
 ·simp[Dg] at h
theorem Rl (hT:∀i,(K i).tx.length<=4000)(hs:∀n d i,CX i (self n d i))(M:Nat):∀m acc i l j,Fo K self M m acc i=some (.ok (l,j))->i<=j/\acc.length<=l.length/\l.length<=acc.length+(j-i)*10000
 | 0,_,_,_,_,h=>by simp[Fo] at h
 | m+1,acc,i,l,j,h=>by
  rw[Fo] at h;split at h
  ·obtain⟨rfl,rfl⟩:=Ct h;omega
  ·obtain⟨d,k,h1,h2⟩:=Cn h;have q1:=fR hT hs M i d k h1;have q2:=Rl hT hs M m _ _ l j h2;simp only[List.length_append,List.length_cons,List.length_nil] at q2;omega
theorem jH (hT:∀i,(K i).tx.length<=4000)(hs:∀n d i,CX i (self n d i))(m i:Nat)(l:List UInt8)(j:Nat)(h:N6 K self m i=some (.ok (l,j))):i<j/\0<l.length/\l.length<=(j-i)*10000:=by
 unfold N6 at h;obtain⟨n,k,a,b⟩:=Cn (Dm h);obtain⟨rfl,c⟩:=Ej a;have q:=Rl hT hs m m _ _ l j b;simp only[Cq,List.length_append,List.length_cons,List.length_nil] at q;omega
end
end Go.Proofs.YtjbfcadeapphbaaGreatDoor.Sx
