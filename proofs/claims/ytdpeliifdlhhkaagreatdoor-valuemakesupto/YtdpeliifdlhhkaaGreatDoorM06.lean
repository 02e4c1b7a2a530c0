/- Rows of pairs: exchanges. -/
import Derived.Test.YtdpeliifdlhhkaaGreatDoorM03
import Derived.Test.YtdpeliifdlhhkaaGreatDoorM01
import Derived.Shelf.SlSortCmp.QuietGrown
namespace Go.Proofs.YtdpeliifdlhhkaaGreatDoor.Sx
open Go.RowKit Go.Sort Tryz
set_option maxRecDepth 100000
set_option maxHeartbeats 4000000
/-- a value and its tree, in a world, none of it in the block g -/
structure lE (n g:Nat)(W:World) where
 x:AV n
 v:Value
 h:Aj (·≠g) W n x v
theorem lE.one {n g:Nat}{W:World}(a:lE n g W):a.v.oneCell'=true:=(a.h.rep _ _ _).one
structure PH (n g:Nat)(W:World) where
 k:lE n g W
 u:lE n g W
def Np {n γ:Nat}{W:World}(a:PH n γ W):List Value:=[a.k.v,a.u.v]
def cP {n γ:Nat}{W:World}(a b:PH n γ W):Int:=Al n a.k.x b.k.x
theorem N2 (n γ:Nat)(W:World):Er (cP (n:=n) (γ:=γ) (W:=W)):=(ord n).pull (fun a:PH n γ W=>a.k.x)
def Cf {n γ:Nat}{W0:World}[Inhabited (PH n γ W0)](w:World)(g:Nat)(d:Array (PH n γ W0)):Prop :=
 g<w.heap.size/\∀i,i<d.size->w.cell? ⟨g,i*2,none⟩=some d[i]!.k.v/\w.cell? ⟨g,i*2+1,none⟩=some d[i]!.u.v/\w.frozen? ⟨g,i*2,none⟩=false/\w.frozen? ⟨g,i*2+1,none⟩=false
def swW (w:World)(g i j:Nat)(vi ui vj uj:Value):World:=((((w.setCell ⟨g,i*2,none⟩ vj).setCell ⟨g,i*2+1,none⟩ uj).setCell ⟨g,j*2,none⟩ vi).setCell ⟨g,j*2+1,none⟩ ui).drew
theorem Fr.swapD {a b:World}{g:Nat}(h:Fr (·≠g) a b)(i j:Nat)(vi ui vj uj:Value):Fr (·≠g) a (swW b g i j vi ui vj uj) :=
 ((((h.set (by simp) _).set (by simp) _).set (by simp) _).set (by simp) _).drew
theorem mV {α:Type}[Inhabited α]{d e:Array α}{a b m k:Nat}(hab:a+m<=b)(hk:k<m)(hb:b+m<=e.size)(HE:∀t,e[t]! = if a<=t/\t<a+k then d[t+(b-a)]! else if b<=t/\t<b+k then d[t-(b-a)]! else d[t]!) :
  ∀t,(swp e (a+k) (b+k))[t]! = if a<=t/\t<a+(k+1) then d[t+(b-a)]! else if b<=t/\t<b+(k+1) then d[t-(b-a)]! else d[t]!:=by
 intro t;rw[swp_get e (by omega) (by omega)];have i:e[a+k]! = d[a+k]!:=by rw[HE,if_neg (by omega),if_neg (by omega)]
 have j:e[b+k]! = d[b+k]!:=by rw[HE,if_neg (by omega),if_neg (by omega)]
 by_cases c:t=b+k
 ·subst c;rw[if_pos rfl,if_neg (by omega),if_pos (by omega),i,show b+k-(b-a)=a+k from by omega]
 ·rw[if_neg c];by_cases f:t=a+k
  ·subst f;rw[if_pos rfl,if_pos (by omega),j,show a+k+(b-a)=b+k from by omega]
  ·rw[if_neg f,HE];by_cases g:a<=t/\t<a+k
   ·rw[if_pos g,if_pos (by omega)]
   ·rw[if_neg g];by_cases h:b<=t/\t<b+k
    ·rw[if_pos h,if_neg (by omega),if_pos (by omega)]
    ·rw[if_neg h,if_neg (by omega),if_neg (by omega)]
section
variable {n γ:Nat} {W0:World} [Inhabited (PH n γ W0)]
theorem Cf.fr {w w':World}{g:Nat}{d:Array (PH n γ W0)}(h:Cf w g d){P:Nat->Prop}(f:Fr P w w')(hg:P g):Cf w' g d:=by
 have j:=f.block g h.1 hg;refine⟨Ad8 h.1 f.size,fun i hi=>?_⟩;obtain⟨a,b,c,e⟩:=h.2 i hi;exact⟨(World.cell?_of_block (w:=w) j).trans a,(World.cell?_of_block (w:=w) j).trans b,(World.frozen?_of_block (w:=w) j).trans c,(World.frozen?_of_block (w:=w) j).trans e⟩
theorem Cf.drew {w:World}{g:Nat}{d:Array (PH n γ W0)}(h:Cf w g d):Cf w.drew g d:=h.fr (P:=fun _=>True) ((Fr.refl _ w).drew) trivial
theorem Cf.put {w:World}{g:Nat}{d:Array (PH n γ W0)}(h:Cf w g d)(i:Nat)(hi:i<d.size)(x:PH n γ W0):Cf ((w.setCell ⟨g,i*2,none⟩ x.k.v).setCell ⟨g,i*2+1,none⟩ x.u.v) g (d.setIfInBounds i x):=by
 refine⟨by simpa using h.1,fun t ht=>?_⟩;rw[Array.size_setIfInBounds] at ht;obtain⟨a,b,c,e⟩:=h.2 t ht;have f:∀(w:World)(o j:Nat)(v:Value),j≠o->(w.setCell ⟨g,o,none⟩ v).cell? _=w.cell? ⟨g,j,none⟩:=fun w o j v q=>World.cell?_setCell_other _ _ _ _ (fun e=>q (congrArg Addr.off e).symm);refine⟨?_,?_,by simpa using c,by simpa using e⟩
 ·by_cases q:t=i
  ·subst q;rw[f _ _ _ _ (by omega),World.cell?_setCell_same _ _ _ a,getElem!_pos _ t (by simpa using ht),Array.getElem_setIfInBounds_self]
  ·rw[f _ _ _ _ (by omega),f _ _ _ _ (by omega),a,getElem!_pos (d.setIfInBounds i x) t (by simpa using ht),Array.getElem_setIfInBounds_ne _ (Ne.symm q),getElem!_pos d t ht]
 ·by_cases q:t=i
  ·subst q;rw[World.cell?_setCell_same _ _ _ ((f _ _ _ _ (by omega)).trans b),getElem!_pos _ t (by simpa using ht),Array.getElem_setIfInBounds_self]
  ·rw[f _ _ _ _ (by omega),f _ _ _ _ (by omega),b,getElem!_pos (d.setIfInBounds i x) t (by simpa using ht),Array.getElem_setIfInBounds_ne _ (Ne.symm q),getElem!_pos d t ht]
theorem Cf.put2 {w:World}{g:Nat}{d:Array (PH n γ W0)}(h:Cf w g d)(i:Nat)(hi:i<d.size)(x:PH n γ W0):Cf (w.setCells g (i*2) (Np x)) g (d.setIfInBounds i x):=h.put i hi x
theorem Cf.store {w:World}{g:Nat}{d:Array (PH n γ W0)}(h:Cf w g d)(i:Nat)(hi:i<d.size)(x:PH n γ W0):Sem.run prog (storeCells ⟨g,i*2,none⟩ (Np x) 0) w=.ok () (w.setCells g (i*2) (Np x)):=by
 obtain⟨a,b,c,e⟩:=h.2 i hi;have f:=run_storeCells_cells (P:=prog) g (i*2) (Np x) 0 w (fun j hj=>?_) (fun j hj=>?_) (fun v hv=>?_)
 ·simpa using f
 ·match j,hj with
  | 0,_=>simp[a]
  | 1,_=>simp[b]
  | j+2,hj=>exact absurd hj (by simp[Np])
 ·match j,hj with
  | 0,_=>simpa using c
  | 1,_=>simpa using e
  | j+2,hj=>exact absurd hj (by simp[Np])
 ·simp only[Np,List.mem_cons,List.not_mem_nil,or_false] at hv;rcases hv with rfl|rfl
  ·exact x.k.one
  ·exact x.u.one
theorem Cf.swap {w:World}{g:Nat}{d:Array (PH n γ W0)}(h:Cf w g d)(i j:Nat)(hi:i<d.size)(hj:j<d.size) :
  Cf ((w.setCells g (i*2) (Np d[j]!)).setCells g (j*2) (Np d[i]!)) g (swp d i j) :=
 (h.put2 i hi d[j]!).put2 j (by simpa using hj) d[i]!
theorem Cf.swapD {w:World}{g:Nat}{d:Array (PH n γ W0)}(h:Cf w g d)(i j:Nat)(hi:i<d.size)(hj:j<d.size):Cf (swW w g i j d[i]!.k.v d[i]!.u.v d[j]!.k.v d[j]!.u.v) g (swp d i j):=(h.swap i j hi hj).drew
theorem Xr (w:World)(g len cap a b m:Nat)(fv:Value)(d:Array (PH n γ W0))(hd:d.size=len)(hrow:Cf w g d)(hl:len<=4294967296)(hab:a+m<=b)(hb:b+m<=len) :
  Calls prog 356 #[.slice (some ⟨g,0,none⟩) len cap,.int .i64 a,.int .i64 b,.int .i64 m,fv] w fun e w'=>e=.returned (.tuple #[])/\∃d':Array (PH n γ W0),d'.size=len/\Cf w' g d'/\Fr (·≠g) w w' /\
   ∀t,d'[t]! = if a<=t/\t<a+m then d[t+(b-a)]! else if b<=t/\t<b+m then d[t-(b-a)]! else d[t]!:=by
 have I:Hid (Cf w g d):=hrow;clear hrow;have X:=follows;go_enter func356,ntmps356
 go_wp2_with fail
 go_loopw [10] (fun s wr=>∃(k:Nat)(e:Array (PH n γ W0)),k<=m/\s=.int .i64 k/\e.size=len/\Hid (Cf wr g e)/\Hid (Fr (·≠g) w wr)/\Hid (∀t,e[t]! = if a<=t/\t<a+k then d[t+(b-a)]! else if b<=t/\t<b+k then d[t-(b-a)]! else d[t]!)) (fun s _=>m-(intOf s).toNat)
 case atStart=>exact⟨0,d,Ae1 _,rfl,hd,I,Fr.refl _ _,fun t=>by rw[if_neg (by omega),if_neg (by omega)]⟩
 case round =>
  obtain⟨k,e,W,rfl,x,c,l,j⟩:=hrel;by_cases o:k<m
  ·obtain⟨p,y⟩:∃p,p=a+k:=⟨_,rfl⟩;obtain⟨q,z⟩:∃q,q=b+k:=⟨_,rfl⟩;obtain⟨E,F,M,N⟩:=c.out.drew.2 p (by omega);obtain⟨G,H,O,P⟩:=c.out.drew.2 q (by omega);have U:((a:Int)+(k:Int)).toNat=p:=by omega
   have Y:(0:Int)<=(a:Int)+(k:Int):=by omega
   have S:(a:Int)+(k:Int)<(len:Int):=by omega
   have ra:IntKind.i64.wrap ((a:Int)+(k:Int))=(a:Int)+(k:Int):=by rw[IntKind.wrap_i64];omega
   have V:((b:Int)+(k:Int)).toNat=q:=by omega
   have Z:(0:Int)<=(b:Int)+(k:Int):=by omega
   have T:(b:Int)+(k:Int)<(len:Int):=by omega
   have rc:IntKind.i64.wrap ((b:Int)+(k:Int))=(b:Int)+(k:Int):=by rw[IntKind.wrap_i64];omega
   obtain⟨_,_,Q,R⟩:=c.out.2 p (by omega);obtain⟨_,_,K,L⟩:=c.out.2 q (by omega);have A:=Ae e[p]!.k.one;have B:=Ae e[p]!.u.one;have C:=Ae e[q]!.k.one;have D:=Ae e[q]!.u.one;have f:Hid (Cf _ g _):=c.out.swapD p q (by omega) (by omega);have i:Hid (Fr _ w (swW wr g p q e[p]!.k.v e[p]!.u.v e[q]!.k.v e[q]!.u.v)):=l.out.swapD _ _ _ _ _ _;have r:Hid (∀t,(swp e p q)[t]! = if a<=t/\t<a+(k+1) then d[t+(b-a)]! else if b<=t/\t<b+(k+1) then d[t-(b-a)]! else d[t]!):=by
    rw[y,z];exact mV hab o (by omega) j.out
   have h:(swp e p q).size=len:=by rw[swp_size];exact x
   have J:p<q:=by omega
   clear y z c l j;generalize swp e p q=e2 at f r h;generalize e[p]! = zp at E F A B f i;generalize e[q]! = zq at G H C D f i;go_wp2_with fail
   go_big_region_o
   change Exit.inBlock _ _ _ _ (swW wr g p q zp.k.v zp.u.v zq.k.v zq.u.v);clear E F M N G H O P Q R K L A B C D;generalize swW wr g p q zp.k.v zp.u.v zq.k.v zq.u.v=W1 at f i |-;go_wp2_with fail
   go_roundw
   case rel=>exact⟨k+1,e2,by omega,by go_num,h,f,i,r⟩
   case measure=>simp[intOf];omega
  ·obtain rfl:k=m:=by omega
   go_wp2_with fail
   go_end0
   exact⟨rfl,e,x,c.out,l.out,j.out⟩
end
section
variable {α:Type} [Inhabited α]
def Ti (d e:Array α)(a b m:Nat):Prop:=e.size=d.size/\∀t,e[t]! = if a<=t/\t<a+m then d[t+(b-a)]! else if b<=t/\t<b+m then d[t-(b-a)]! else d[t]!
theorem Ti.list {d e:Array α}{P X M Y Q:List α}{m:Nat}(h:Ti d e P.length (P.length+m+M.length) m)(hd:d.toList=P++(X++(M++(Y++Q))))(hx:X.length=m)(hy:Y.length=m):e.toList=P++(Y++(M++(X++Q))):=by
 have b:=congrArg List.length hd;simp at b;refine aE (by rw[h.1];simp;omega) fun t ht=>?_;rw[h.2 t,Fw,Fw,Fw,hd];by_cases a:t<P.length
 ·rw[if_neg (by omega),if_neg (by omega),List.getElem?_append_left a,List.getElem?_append_left a]
 ·by_cases c:t<P.length+m
  ·rw[if_pos (by omega)]
   congr 1
   rw[List.getElem?_append_right (by omega),List.getElem?_append_right (by omega),List.getElem?_append_right (by omega),List.getElem?_append_left (by omega),List.getElem?_append_right (by omega),List.getElem?_append_left (by omega)]
   congr 1;omega
  ·rw[if_neg (by omega)];by_cases f:t<P.length+m+M.length
   ·rw[if_neg (by omega)]
    congr 1
    rw[List.getElem?_append_right (by omega),List.getElem?_append_right (by omega),List.getElem?_append_left (by omega),List.getElem?_append_right (by omega),List.getElem?_append_right (by omega),List.getElem?_append_left (by omega)]
    congr 1;omega
   ·by_cases g:t<P.length+m+M.length+m
    ·rw[if_pos (by omega)]
     congr 1
     rw[List.getElem?_append_right (by omega),List.getElem?_append_left (by omega),List.getElem?_append_right (by omega),List.getElem?_append_right (by omega),List.getElem?_append_right (by omega),List.getElem?_append_left (by omega)]
     congr 1;omega
    ·rw[if_neg (by omega)]
     congr 1
     rw[List.getElem?_append_right (by omega),List.getElem?_append_right (by omega),List.getElem?_append_right (by omega),List.getElem?_append_right (by omega),List.getElem?_append_right (by omega),List.getElem?_append_right (by omega),List.getElem?_append_right (by omega),List.getElem?_append_right (by omega)]
     congr 1;omega
def Uf (e:Array α)(tg:List α)(i j m:Nat):Prop:=∃P X Y Q:List α,e.toList=P++(X++(Y++Q))/\tg=P++(Y++(X++Q))/\P.length+i=m/\X.length=i/\Y.length=j
theorem Uf.gt {e e':Array α}{tg:List α}{i j m:Nat}(h:Uf e tg i j m)(hij:j<i)(hs:Ti e e' (m-i) m j):Uf e' tg (i-j) j m:=by
 obtain⟨P,X,Y,Q,f,g,l,n,k⟩:=h;obtain⟨a,b,rfl,c,d⟩:∃a b,X=a++b/\a.length=j/\b.length=i-j:=⟨_,_,(List.take_append_drop j X).symm,by simp;omega,by simp;omega⟩;have:=Ti.list (P:=P) (Q:=Q) (by rw[d,show P.length=m-i from by omega,show m-i+j+(i-j)=m from by omega];exact hs) (by rw[f];simp) c k;exact⟨P++Y,b,a,Q,by rw[this];simp,by rw[g];simp,by simp;omega,d,c⟩
theorem Uf.lt {e e':Array α}{tg:List α}{i j m:Nat}(h:Uf e tg i j m)(hij:i<j)(hs:Ti e e' (m-i) (m+j-i) i):Uf e' tg i (j-i) m:=by
 obtain⟨P,X,Y,Q,f,g,k,l,n⟩:=h;obtain⟨a,b,rfl,c,d⟩:∃a b,Y=a++b/\a.length=j-i/\b.length=i:=⟨_,_,(List.take_append_drop (j-i) Y).symm,by simp;omega,by simp;omega⟩;have:=Ti.list (P:=P) (Q:=Q) (by rw[c,show P.length=m-i from by omega,show m-i+i+(j-i)=m+j-i from by omega];exact hs) (by rw[f];simp) l d;exact⟨P,b,a,X++Q,this,by rw[g];simp,k,d,c⟩
theorem Uf.eq {e e':Array α}{tg:List α}{i m:Nat}(h:Uf e tg i i m)(hs:Ti e e' (m-i) m i):e'.toList=tg:=by
 obtain⟨P,X,Y,Q,a,b,f,c,d⟩:=h;have:=Ti.list (M:=[]) (Q:=Q) (by rw[show P.length=m-i from by omega,show m-i+i+([]:List α).length=m from by simp;omega];exact hs) (by rw[a];simp) c d;rw[this,b];simp
end
section
variable {n γ:Nat} {W0:World} [Inhabited (PH n γ W0)]
theorem gW (w:World)(g len cap a m b:Nat)(fv:Value)(d:Array (PH n γ W0))(hd:d.size=len)(hrow:Cf w g d)(hl:len<=4294967296)(h1:a<m)(h2:m<b)(h3:b<=len) :
  Calls prog 353 #[.slice (some ⟨g,0,none⟩) len cap,.int .i64 a,.int .i64 m,.int .i64 b,fv] w fun e w'=>e=.returned (.tuple #[])/\∃d':Array (PH n γ W0),Cf w' g d'/\Fr (·≠g) w w'/\Fp d d' a m b:=by
 obtain⟨P,A,B,Q,G,M,N,O⟩:=yL d a m b (by omega) (by omega) (by omega);have J:Hid (Uf d _ (m-a) (b-m) m):=⟨P,A,B,Q,G,rfl,by omega,by omega,by omega⟩;have K:Hid (∀e:_,_=P++_->Fp d e a m b):=fun e he=>⟨P,A,B,Q,G,he,M,N,O⟩;clear G M N O;generalize P++(B++(A++Q))=tg at J K;have R:Hid (Cf w g d):=hrow;have F:Hid (∀(W:World)(e:Array (PH n γ W0))(p q k:Nat),e.size=len->_->p+k<=q->q+k<=len->_):=fun W e p q k he hr hpq hq=>Xr W g len cap p q k fv e he hr hl hpq hq;clear hrow;go_enter func353,ntmps353
 go_wp2_with fail
 go_loopw [10,11] (fun s t wr=>∃(i j:Nat)(e:Array (PH n γ W0)),s=.int .i64 i/\t=.int .i64 j/\0<i/\0<j/\i<=m/\m+j<=b/\e.size=len/\Hid (Uf e tg i j m)/\Hid (Cf wr g e)/\Hid (Fr (·≠g) w wr)) (fun s t _=>(intOf s).toNat+(intOf t).toNat)
 case atStart=>exact⟨m-a,b-m,d,by go_num,by go_num,by omega,by omega,by omega,by omega,hd,J,R,Fr.refl _ _⟩
 case round =>
  obtain⟨i,j,e,rfl,rfl,S,T,H,I,he,y,v,u⟩:=hrel;rcases(show j<i\/i<j\/i=j from by omega) with q|q|q
  ·have L:((i:Int) != (j:Int))=true:=by rw[bne_iff_ne];omega
   have o:Hid (Calls _ 356 #[_,_,_,_,fv] wr _):=F.out wr e (m-i) m j he v.out (by omega) (by omega);rw[show((m-i:Nat):Int)=(m:Int)-(i:Int) from by omega] at o;go_wp2_with fail
   refine o.out.mono ?_;rintro x E ⟨rfl,r,l,f,c,h⟩;have D:Hid (Uf r tg (i-j) j m):=y.out.gt q ⟨l.trans he.symm,h⟩;have C:Hid (Cf E g r):=f;have z:Hid _:=u.out.trans c;clear f c h o y v u;go_wp2_with fail
   go_roundw
   case rel=>exact⟨i-j,j,r,by go_num,rfl,by omega,T,by omega,I,l,D,C,z⟩
   case measure=>simp[intOf];omega
  ·have L:((i:Int) != (j:Int))=true:=by rw[bne_iff_ne];omega
   have U:¬(j:Int)<(i:Int):=by omega
   have o:Hid (Calls _ 356 #[_,_,_,_,fv] wr _):=F.out wr e (m-i) (m+j-i) i he v.out (by omega) (by omega);rw[show((m-i:Nat):Int)=(m:Int)-(i:Int) from by omega,show((m+j-i:Nat):Int)=(m:Int)+(j:Int)-(i:Int) from by omega] at o;go_wp2_with fail
   refine o.out.mono ?_;rintro x E ⟨rfl,r,l,f,c,h⟩;have D:Hid (Uf r tg i (j-i) m):=y.out.lt q ⟨l.trans he.symm,h⟩;have C:Hid (Cf E g r):=f;have z:Hid _:=u.out.trans c;clear f c h o y v u;go_wp2_with fail
   go_roundw
   case rel=>exact⟨i,j-i,r,rfl,by go_num,S,by omega,H,by omega,l,D,C,z⟩
   case measure=>simp[intOf];omega
  ·subst q;have L:((i:Int) != (i:Int))=false:=by simp
   have o:Hid (Calls _ 356 #[_,_,_,_,fv] wr _):=F.out wr e (m-i) m i he v.out (by omega) (by omega);rw[show((m-i:Nat):Int)=(m:Int)-(i:Int) from by omega] at o;go_wp2_with fail
   refine o.out.mono ?_;rintro x E ⟨rfl,r,l,f,c,h⟩;have D:Hid _:=y.out.eq ⟨l.trans he.symm,h⟩;have C:Hid (Cf E g r):=f;have z:Hid _:=u.out.trans c;clear f c h o y v u;go_wp2_with fail
   go_end0
   exact⟨rfl,r,C.out,z.out,K.out r D.out⟩
end
theorem qS (n:Nat)(w:World)(a b:AV n)(va vb ua ub:Value)(ha:Rep w n a va)(hb:Rep w n b vb)(oa:ua.oneCell'=true)(ob:ub.oneCell'=true) :
  Calls prog 303 #[.agg #[va,ua],.agg #[vb,ub]] w fun e w'=>e=.returned (.int .i64 (Al n a b))/\Ac w w':=by
 have g:=Ae ha.one;have h:=Ae hb.one;have i:=Ae oa;have j:=Ae ob;have d:Hid _:=fun(W:World) (hW:_)=>Ia n W a b va vb (ha.grew hW) (hb.grew hW);clear ha hb;go_enter func303,ntmps303
 go_wp2_with (go_at_call 17;refine(d.out _ (((Ac.refl w).alloc _).alloc _)).mono ?_;rintro e w' ⟨rfl,c⟩;have f:Hid (Ac w w'):=(((Ac.refl w).alloc _).alloc _).trans c;clear c)
 go_ret
 exact⟨rfl,by assumption⟩
theorem mW (n:Nat)(w:World)(a b:AV n)(va vb ua ub:Value)(ha:Rep w n a va)(hb:Rep w n b vb)(oa:ua.oneCell'=true)(ob:ub.oneCell'=true) :
  Calls prog 305 #[.agg #[va,ua],.agg #[vb,ub]] w fun e w'=>e=.returned (.bool (Al n a b==0))/\Ac w w':=by
 have h:=Ae ha.one;have i:=Ae hb.one;have j:=Ae oa;have k:=Ae ob;have c:=fun(W:World) (hW:_)=>Qm n W a b va vb (ha.grew hW) (hb.grew hW);generalize (Al n a b==0)=B at c |-;have f:Hid _:=c;clear ha hb c;go_enter func305,ntmps305
 go_wp2_with (go_at_call 194;refine(f.out _ (((Ac.refl w).alloc _).alloc _)).mono ?_;rintro e w' ⟨rfl,d⟩;have g:Hid (Ac w w'):=(((Ac.refl w).alloc _).alloc _).trans d;clear d)
 go_ret
 exact⟨rfl,by assumption⟩
theorem O3 {n g:Nat}{W0:World}(W:World)(a b:PH n g W0)(hW:Fr (·≠g) W0 W):Calls prog 303 #[.agg #[a.k.v,a.u.v],.agg #[b.k.v,b.u.v]] W fun e w'=>e=.returned (.int .i64 (cP a b))/\Ac W w' :=
 qS n W a.k.x b.k.x a.k.v b.k.v a.u.v b.u.v ((a.k.h.keep hW).rep _ _ _) ((b.k.h.keep hW).rep _ _ _) a.u.one b.u.one
section
variable {n g:Nat} {W0:World} [Inhabited (PH n g W0)]
theorem Cf.grown {w:World}{d:Array (PH n g W0)}(h:Cf w g d)(i:Nat)(hi:i<d.size) :
  (∀q os,(grow (w.drewN q) os).cell? ⟨g,i*2,none⟩=some d[i]!.k.v)/\(∀q os,(grow (w.drewN q) os).cell? ⟨g,i*2+1,none⟩=some d[i]!.u.v):=by
 obtain⟨a,b,_,_⟩:=h.2 i hi;exact⟨cell_grown h.1 a,cell_grown h.1 b⟩
theorem mX (w:World)(len cap a b:Nat)(d:Array (PH n g W0))(hW:Fr (·≠g) W0 w)(hd:d.size=len)(hrow:Cf w g d)(hl:len<=4294967296)(h2:a+1<b)(h3:b<=len)(hs:Srt cP d (a+1) b) :
  Calls prog 341 #[.slice (some ⟨g,0,none⟩) len cap,.int .i64 a,.int .i64 ((a+1:Nat):Int),.int .i64 b,.func (.func 303) #[] #[]] w fun e w'=>e=.returned (.tuple #[])/\∃d':Array (PH n g W0),Stb cP a b d d'/\Srt cP d' a b/\Cf w' g d'/\Fr (·≠g) w w':=by
 have Q:Hid (Cf w g d):=hrow;have HB:Hid (Fr (·≠g) W0 w):=hW;have T:Hid (Srt cP d (a+1) b):=hs;clear hrow hW hs;have mo:=follows;obtain⟨f,M⟩:∃z,z=d[a]!:=⟨_,rfl⟩;have K:Hid (f=d[a]!):=M;obtain⟨m,hm⟩:∃m,m=a+1:=⟨_,rfl⟩;rw[<- hm];have b1:((m:Int)-(a:Int)==1)=true:=by simp;omega
 have b0:a<m:=by omega
 have S:Hid (m=a+1):=hm;have b2:m<b:=by omega
 clear hm M;go_enter func341,ntmps341
 go_wp2_with fail
 go_loopw [10,11] (fun s t wr=>∃(i j:Nat),s=.int .i64 i/\t=.int .i64 j/\m<=i/\i<=j/\j<=b/\Hid (∀t,m<=t->t<i->cP d[t]! f<0)/\Hid (∀t,j<=t->t<b->0<=cP d[t]! f)/\Hid (Ac w wr)) (fun s t _=>(intOf t).toNat-(intOf s).toNat)
 case atStart=>exact⟨m,b,rfl,rfl,Ad9 _,by omega,Ad9 _,fun t h1 h2=>by omega,fun t h1 h2=>by omega,Ac.refl w⟩
 case round =>
  obtain⟨i,j,rfl,rfl,hi,a6,hj,H,G,l⟩:=hrel;by_cases a9:i<j
  ·obtain⟨h,hh⟩:∃h,h=(i+j) / 2:=⟨_,rfl⟩;obtain⟨y,A⟩:=(Q.out.fr (P:=fun _=>True) (Fr.grew l.out) trivial).grown h (by omega);obtain⟨B,C⟩:=(Q.out.fr (P:=fun _=>True) (Fr.grew l.out) trivial).grown a (by omega);rw[<- K.out] at B C;have W:(((i:Int)+(j:Int)) / 2).toNat=h:=by omega
   have pa:(0:Int)<=((i:Int)+(j:Int)) / 2:=by omega
   have U:((i:Int)+(j:Int)) / 2<(len:Int):=by omega
   have ra:IntKind.i64.wrap (((i:Int)+(j:Int)) / 2)=((i:Int)+(j:Int)) / 2:=by rw[IntKind.wrap_i64];omega
   have X:((a:Int)).toNat=a:=by omega
   have pc:(0:Int)<=(a:Int):=by omega
   have V:(a:Int)<(len:Int):=by omega
   have rc:IntKind.i64.wrap ((a:Int))=(a:Int):=by rw[IntKind.wrap_i64];omega
   have x:Hid (∀q os,Calls _ 303 #[_,_] _ fun e w'=>e=.returned (.int .i64 (cP d[h]! f))/\_):=fun q os=>O3 _ _ _ (HB.out.trans (Fr.grew (l.out.grown q os)));have I:Hid (cP d[h]! f<0->∀t,m<=t->t<h+1->cP d[t]! f<0):=by
    intro q t q1 q2;have:=S.out;exact cM (N2 n g W0) (T.out.le (N2 n g W0) (by omega) (show t<=h by omega) (by omega)) q
   have F:Hid (0<=cP d[h]! f->∀t,h<=t->t<b->0<=cP d[t]! f):=by
    intro q t q1 q2;have:=S.out;by_cases q3:cP d[t]! f<0
    ·have:=cM (N2 n g W0) (T.out.le (N2 n g W0) (by omega) q1 q2) q3;omega
    ·omega
   generalize cP d[h]! f=cv at x I F;generalize d[h]! = zh at y A x;have a4:i<=h:=by omega
   have a5:h<j:=by omega
   have N:Hid (h=(i+j) / 2):=hh;clear hh;by_cases Y:cv<0
   ·have Z:decide (cv<0)=true:=by simp[Y]
    go_wp2_with fail
    go_quiet_grown (first|(go_at_call 303;refine Ae3 (x.out _ _)))
    have D:Hid (Ac w (grow (wr.drewN nq) osq)):=l.out.grown _ _;clear y A B C l x W pa U ra X pc V rc;generalize grow (wr.drewN nq) osq=W1 at D |-;clear nq osq;go_wp2_with fail
    go_roundw
    case rel=>exact⟨h+1,j,by rw[show((i:Int)+(j:Int)) / 2+1=((h+1:Nat):Int) from by have:=N.out;omega],rfl,by omega,by omega,hj,I.out Y,G,D⟩
    case measure=>have:=N.out;simp[intOf];omega
   ·have Z:decide (cv<0)=false:=by simp[Y]
    go_wp2_with fail
    go_quiet_grown (first|(go_at_call 303;refine Ae3 (x.out _ _)))
    have D:Hid (Ac w (grow (wr.drewN nq) osq)):=l.out.grown _ _;clear y A B C l x W pa U ra X pc V rc;generalize grow (wr.drewN nq) osq=W1 at D |-;clear nq osq;go_wp2_with fail
    go_roundw
    case rel=>exact⟨i,h,rfl,by rw[show((i:Int)+(j:Int)) / 2=((h:Nat):Int) from by have:=N.out;omega],hi,by omega,by omega,H,F.out (by omega),D⟩
    case measure=>have:=N.out;simp[intOf];omega
  ·obtain rfl:i=j:=by omega
   have J:Hid (Cf wr g d):=Q.out.fr (P:=fun _=>True) (Fr.grew l.out) trivial;have E:Hid (Fr (·≠g) w wr):=Fr.grew l.out;have c:Hid (Fp d d a (a+1) (a+1)):=Ac5 d a (a+1) (by omega) (by omega);go_wp2_with fail
   go_loopw [13] (fun s wr=>∃(k:Nat)(e:Array (PH n g W0)),s=.int .i64 k/\a<=k/\k+1<=i/\Hid (Fp d e a (a+1) (k+1))/\Hid (Cf wr g e)/\Hid (Fr (·≠g) w wr)) (fun s _=>i-(intOf s).toNat)
   case atStart=>exact⟨a,d,rfl,Ad9 _,by omega,c,J,E⟩
   case round =>
    clear J E c;obtain⟨k,e,rfl,a3,a7,c,r,R⟩:=hrel;by_cases a2:k+1<i
    ·obtain⟨q,hq⟩:∃q,q=k+1:=⟨_,rfl⟩;have a0:e.size=len:=c.out.size.trans hd;obtain⟨y,A,x3,x4⟩:=r.out.drew.2 k (by omega);obtain⟨B,C,y3,y4⟩:=r.out.drew.2 q (by omega);obtain⟨_,_,z3,z4⟩:=r.out.2 k (by omega);obtain⟨_,_,r3,r4⟩:=r.out.2 q (by omega);have W:((k:Int)).toNat=k:=by omega
     have pa:(0:Int)<=(k:Int):=by omega
     have U:(k:Int)<(len:Int):=by omega
     have ra:IntKind.i64.wrap ((k:Int))=(k:Int):=by rw[IntKind.wrap_i64];omega
     have X:((k:Int)+1).toNat=q:=by omega
     have pc:(0:Int)<=(k:Int)+1:=by omega
     have V:(k:Int)+1<(len:Int):=by omega
     have rc:IntKind.i64.wrap ((k:Int)+1)=(k:Int)+1:=by rw[IntKind.wrap_i64];omega
     have a1:(k:Int)<(i:Int)-1:=by omega
     have s1:=Ae e[k]!.k.one;have s2:=Ae e[k]!.u.one;have s3:=Ae e[q]!.k.one;have s4:=Ae e[q]!.u.one;have L:Hid (Cf _ g _):=r.out.swapD k q (by omega) (by omega);have O:Hid (Fr _ w (swW wr g k q e[k]!.k.v e[k]!.u.v e[q]!.k.v e[q]!.u.v)):=R.out.swapD _ _ _ _ _ _;have SR:Hid (Fp d (swp e k q) a (a+1) (k+2)):=by rw[hq];exact c.out.up (by omega)
     have a8:k<q:=by omega
     clear hq r R c a0;generalize swp e k q=e2 at L SR;generalize e[k]! = zp at y A s1 s2 L O;generalize e[q]! = zq at B C s3 s4 L O;go_wp2_with fail
     go_big_region_o
     change Exit.inBlock _ _ _ _ (swW wr g k q zp.k.v zp.u.v zq.k.v zq.u.v);clear y A x3 x4 B C y3 y4 z3 z4 r3 r4 s1 s2 s3 s4;generalize swW wr g k q zp.k.v zp.u.v zq.k.v zq.u.v=W1 at L O |-;go_wp2_with fail
     go_roundw
     case rel=>exact⟨k+1,e2,by go_num,by omega,by omega,SR,L,O⟩
     case measure=>simp[intOf];omega
    ·have p:k+1=i:=by omega
     have o:Hid (Stb cP a b d e/\Srt cP e a b):=by
      have hr:=c.out;rw[p] at hr;have:=S.out;have hz:=K.out;exact cO (N2 n g W0) T.out (by omega) hj (fun t q1 q2=>by rw[<- hz];exact H.out t (by omega) q2) (fun t q1 q2=>by rw[<- hz];have:=G.out t q1 q2;omega) hr
     have a1:¬(k:Int)<(i:Int)-1:=by omega
     clear p;go_wp2_with fail
     refine Ae2 (results_none rfl _ _ _) rfl ?_;exact⟨rfl,e,o.out.1,o.out.2,r.out,R.out⟩
end
section
variable {n g:Nat} {W0:World} [Inhabited (PH n g W0)]
theorem qT (w:World)(len cap a m:Nat)(d:Array (PH n g W0))(hW:Fr (·≠g) W0 w)(hd:d.size=len)(hrow:Cf w g d)(hl:len<=4294967296)(h2:a+1<m)(h3:m+1<=len)(hs:Srt cP d a m) :
  Calls prog 341 #[.slice (some ⟨g,0,none⟩) len cap,.int .i64 a,.int .i64 m,.int .i64 ((m+1:Nat):Int),.func (.func 303) #[] #[]] w fun e w'=>e=.returned (.tuple #[])/\∃d':Array (PH n g W0),Stb cP a (m+1) d d'/\Srt cP d' a (m+1)/\Cf w' g d'/\Fr (·≠g) w w':=by
 have O:Hid (Cf w g d):=hrow;have HB:Hid (Fr (·≠g) W0 w):=hW;have S:Hid (Srt cP d a m):=hs;clear hrow hW hs;have mo:=follows;obtain⟨f,L⟩:∃z,z=d[m]!:=⟨_,rfl⟩;have J:Hid (f=d[m]!):=L;obtain⟨b,Y⟩:∃b,b=m+1:=⟨_,rfl⟩;rw[<- Y];have b1:((m:Int)-(a:Int)==1)=false:=by simp;omega
 have b2:((b:Int)-(m:Int)==1)=true:=by simp;omega
 have Q:Hid (b=m+1):=Y;have b4:m<b:=by omega
 have a6:b<=len:=by omega
 have a5:a<len:=by omega
 clear Y L;go_enter func341,ntmps341
 go_wp2_with fail
 go_loopw [14,15] (fun s t wr=>∃(i j:Nat),s=.int .i64 i/\t=.int .i64 j/\a<=i/\i<=j/\j<=m/\Hid (∀t,a<=t->t<i->0<=cP f d[t]!)/\Hid (∀t,j<=t->t<m->cP f d[t]!<0)/\Hid (Ac w wr)) (fun s t _=>(intOf t).toNat-(intOf s).toNat)
 case atStart=>exact⟨a,m,rfl,rfl,Ad9 _,by omega,Ad9 _,fun t h1 h2=>by omega,fun t h1 h2=>by omega,Ac.refl w⟩
 case round =>
  obtain⟨i,j,rfl,rfl,hi,a9,hj,G,F,l⟩:=hrel;by_cases b3:i<j
  ·obtain⟨h,hh⟩:∃h,h=(i+j) / 2:=⟨_,rfl⟩;obtain⟨x,y⟩:=(O.out.fr (P:=fun _=>True) (Fr.grew l.out) trivial).grown h (by omega);obtain⟨A,B⟩:=(O.out.fr (P:=fun _=>True) (Fr.grew l.out) trivial).grown m (by omega);rw[<- J.out] at A B;have W:(((i:Int)+(j:Int)) / 2).toNat=h:=by omega
   have pa:(0:Int)<=((i:Int)+(j:Int)) / 2:=by omega
   have U:((i:Int)+(j:Int)) / 2<(len:Int):=by omega
   have ra:IntKind.i64.wrap (((i:Int)+(j:Int)) / 2)=((i:Int)+(j:Int)) / 2:=by rw[IntKind.wrap_i64];omega
   have X:((m:Int)).toNat=m:=by omega
   have pc:(0:Int)<=(m:Int):=by omega
   have V:(m:Int)<(len:Int):=by omega
   have rc:IntKind.i64.wrap ((m:Int))=(m:Int):=by rw[IntKind.wrap_i64];omega
   have r:Hid (∀q os,Calls _ 303 #[_,_] _ fun e w'=>e=.returned (.int .i64 (cP f d[h]!))/\_):=fun q os=>O3 _ _ _ (HB.out.trans (Fr.grew (l.out.grown q os)));have H:Hid (cP f d[h]!<0->∀t,h<=t->t<m->cP f d[t]!<0):=by
    intro q t q1 q2;exact Yo (N2 n g W0) q (S.out.le (N2 n g W0) (by omega) q1 q2)
   have E:Hid (0<=cP f d[h]!->∀t,a<=t->t<h+1->0<=cP f d[t]!):=by
    intro q t q1 q2;by_cases q3:cP f d[t]!<0
    ·have:=Yo (N2 n g W0) q3 (S.out.le (N2 n g W0) q1 (show t<=h by omega) (by omega));omega
    ·omega
   generalize cP f d[h]! = cv at r H E;generalize d[h]! = zh at x y r;have a7:i<=h:=by omega
   have a8:h<j:=by omega
   have M:Hid (h=(i+j) / 2):=hh;clear hh;by_cases Z:cv<0
   ·have a0:decide (cv<0)=true:=by simp[Z]
    go_wp2_with fail
    go_quiet_grown (first|(go_at_call 303;refine Ae3 (r.out _ _)))
    have C:Hid (Ac w (grow (wr.drewN nq) osq)):=l.out.grown _ _;clear x y A B l r W pa U ra X pc V rc;generalize grow (wr.drewN nq) osq=W1 at C |-;clear nq osq;go_wp2_with fail
    go_roundw
    case rel=>exact⟨i,h,rfl,by rw[show((i:Int)+(j:Int)) / 2=((h:Nat):Int) from by have:=M.out;omega],hi,by omega,by omega,G,H.out Z,C⟩
    case measure=>have:=M.out;simp[intOf];omega
   ·have a0:decide (cv<0)=false:=by simp[Z]
    go_wp2_with fail
    go_quiet_grown (first|(go_at_call 303;refine Ae3 (r.out _ _)))
    have C:Hid (Ac w (grow (wr.drewN nq) osq)):=l.out.grown _ _;clear x y A B l r W pa U ra X pc V rc;generalize grow (wr.drewN nq) osq=W1 at C |-;clear nq osq;go_wp2_with fail
    go_roundw
    case rel=>exact⟨h+1,j,by rw[show((i:Int)+(j:Int)) / 2+1=((h+1:Nat):Int) from by have:=M.out;omega],rfl,by omega,by omega,hj,E.out (by omega),F,C⟩
    case measure=>have:=M.out;simp[intOf];omega
  ·obtain rfl:i=j:=by omega
   have I:Hid (Cf wr g d):=O.out.fr (P:=fun _=>True) (Fr.grew l.out) trivial;have D:Hid (Fr (·≠g) w wr):=Fr.grew l.out;have c:Hid (Fp d d m m (m+1)):=Ac3 d m (m+1) (by omega) (by omega);go_wp2_with fail
   go_loopw [17] (fun s wr=>∃(k:Nat)(e:Array (PH n g W0)),s=.int .i64 k/\i<=k/\k<=m/\Hid (Fp d e k m (m+1))/\Hid (Cf wr g e)/\Hid (Fr (·≠g) w wr)) (fun s _=>(intOf s).toNat)
   case atStart=>exact⟨m,d,rfl,by omega,Ad9 _,c,I,D⟩
   case round =>
    clear I D c;obtain⟨k,e,rfl,a4,a2,c,p,R⟩:=hrel;by_cases a3:i<k
    ·obtain⟨q,rfl⟩:∃q,k=q+1:=⟨k-1,by omega⟩;have a1:e.size=len:=c.out.size.trans hd;have T:Hid (Fp d _ q m (m+1)):=c.out.down;obtain⟨k,hk⟩:∃k,k=q+1:=⟨_,rfl⟩;rw[<- hk] at T;rw[show((q+1:Nat):Int)=(q:Int)+1 from by omega];obtain⟨x,y,x3,x4⟩:=p.out.drew.2 k (by omega);obtain⟨A,B,y3,y4⟩:=p.out.drew.2 q (by omega);obtain⟨_,_,z3,z4⟩:=p.out.2 k (by omega);obtain⟨_,_,r3,r4⟩:=p.out.2 q (by omega);have W:((q:Int)+1).toNat=k:=by omega
     have pa:(0:Int)<=(q:Int)+1:=by omega
     have U:(q:Int)+1<(len:Int):=by omega
     have ra:IntKind.i64.wrap ((q:Int)+1)=(q:Int)+1:=by rw[IntKind.wrap_i64];omega
     have X:((q:Int)).toNat=q:=by omega
     have pc:(0:Int)<=(q:Int):=by omega
     have V:(q:Int)<(len:Int):=by omega
     have rc:IntKind.i64.wrap ((q:Int))=(q:Int):=by rw[IntKind.wrap_i64];omega
     have b5:(i:Int)<(q:Int)+1:=by omega
     have s1:=Ae e[k]!.k.one;have s2:=Ae e[k]!.u.one;have s3:=Ae e[q]!.k.one;have s4:=Ae e[q]!.u.one;have K:Hid (Cf _ g _):=p.out.swapD k q (by omega) (by omega);have N:Hid (Fr _ w (swW wr g k q e[k]!.k.v e[k]!.u.v e[q]!.k.v e[q]!.u.v)):=R.out.swapD _ _ _ _ _ _;have b0:q<k:=by omega
     clear hk p R c a1;generalize swp e k q=e2 at K T;generalize e[k]! = zp at x y s1 s2 K N;generalize e[q]! = zq at A B s3 s4 K N;go_wp2_with fail
     go_big_region_o
     change Exit.inBlock _ _ _ _ (swW wr g k q zp.k.v zp.u.v zq.k.v zq.u.v);clear x y x3 x4 A B y3 y4 z3 z4 r3 r4 s1 s2 s3 s4;generalize swW wr g k q zp.k.v zp.u.v zq.k.v zq.u.v=W1 at K N |-;go_wp2_with fail
     go_roundw
     case rel=>exact⟨q,e2,by go_num,by omega,by omega,T,K,N⟩
     case measure=>simp[intOf]
    ·obtain rfl:k=i:=by omega
     have o:Hid (Stb cP a (m+1) d e/\Srt cP e a (m+1)):=by
      have hz:=J.out;exact gN (N2 n g W0) S.out hi a2 (fun t q1 q2=>by rw[<- hz];have:=G.out t q1 q2;omega) (fun t q1 q2=>by rw[<- hz];exact F.out t q1 q2) c.out
     go_wp2_with fail
     refine Ae2 (results_none rfl _ _ _) rfl ?_;rw[Q.out];exact⟨rfl,e,o.out.1,o.out.2,p.out,R.out⟩
end
end Go.Proofs.YtdpeliifdlhhkaaGreatDoor.Sx
