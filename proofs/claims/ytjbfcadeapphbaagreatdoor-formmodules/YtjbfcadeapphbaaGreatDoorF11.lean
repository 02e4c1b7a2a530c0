/- A text is read whole. -/
import Derived.Test.YtjbfcadeapphbaaGreatDoorF10
import Derived.Recover
import Derived.Test.YtjbfcadeapphbaaGreatDoorF04
import Derived.Test.YtjbfcadeapphbaaGreatDoorShelf
namespace Go.Proofs.YtjbfcadeapphbaaGreatDoor.Sx
set_option maxRecDepth 100000
set_option maxHeartbeats 1000000
open Go.RowKit Go.Sort
theorem Um {br:Nat}{t:ByteArray}{self:Nat->Nat->Nat->RX PX}(hS:Ba br t self)(w:World)(d i m:Nat)(hd:d<=24)(ht:t.size<=4000)(hm:m<=1000000)(hI:Cd w br)(hr:RdF w br t i d)
  (r:Except (Nat×Nat) (PX×Nat)) (h:Cj (tkF t.data.toList) self m d i=some r) :
  Calls Tryz.prog 157 #[.pointer (some ⟨br,0,none⟩)] w (Dd w br t d r):=by
 by_cases a:txF t.data.toList i=[40]
 ·exact Ui hS w d i m hd ht hI hr a r h
 by_cases b:txF t.data.toList i=[123]
 ·exact Uj hS w d i m hd ht hm hI hr b r h
 by_cases c:txF t.data.toList i=[60,60]
 ·exact Uk hS w d i m hd ht hm hI hr c r h
 by_cases e:txF t.data.toList i=[91]
 ·exact Ul hS w d i m hd ht hm hI hr e r h
 exact Rx hS w d i m hd hI hr ⟨a,b,c,e⟩ r h
def mU (K:Nat->Tk)(i:Nat):RX PX:=okX (Fg (((K i).tx.take ((K i).tx.length-1)).drop 1)) (i+1)
theorem Zn {br:Nat}{t:ByteArray}(w:World)(d i:Nat)(ht:t.size<=4000)(hr:RdF w br t i d)(hc:clF t.data.toList i=3)
  (r:Except (Nat×Nat) (PX×Nat)) (h:mU (tkF t.data.toList) i=some r) :
  Calls Tryz.prog 148 #[.pointer (some ⟨br,0,none⟩)] w (Dd w br t d r):=by
 have C:2<=(pcF t i).size:=by
  have:=(Ns t.data.toList i).two hc;rw[Kr,<- G6];exact this
 have j:=Ji t.data.toList i;have B:t.data.toList.length=t.size:=by simp
 have f:=Kr t i;have H:(pcF t i).size<=4000:=by omega
 have g:Hid (RdF w br t i d):=hr;have D:=Ac hr;have z:=Aa hr 1;have A:=Aa hr 2;have q:=Aa hr 3;rw[hc] at q;have b:=RdF.of g.out (P:=fun _=>True) (Fr.grew (Ad.refl w).drew) trivial;have I:=Aa b 1;have J:=Aa b 2;have c:(pcF t i).data.toList=txF t.data.toList i:=Bm t i;have x:Hid (r=.ok (Fg ((((pcF t i).data.toList).take ((pcF t i).size-1)).drop 1),i+1)):=by
  show _=_;have l:(tkF t.data.toList i).tx=txF t.data.toList i:=rfl;simp only[mU,okX,l,Option.some.injEq] at h;rw[c,f,<- G6];exact h.symm
 clear hr b j B f h c;have K:=follows;have E:(((pcF t i).size:Int)-1).toNat=(pcF t i).size-1:=by omega
 have F:(1:Int)<=((pcF t i).size:Int)-1:=by omega
 have G:((pcF t i).size:Int)-1<=((pcF t i).size:Int):=by omega
 go_enter Tryz.func148,Tryz.ntmps148
 go_wp2_with fail
 go_big_region_o
 have a:Fr (fun _=>True) w (w.alloc (.cells #[.int .i64 1,.string ⟨#[]⟩,.string ((pcF t i).extract 1 ((pcF t i).size-1)),.int .i64 0,.int .i64 (atF t.data.toList i:Int),.slice none 0 0] 81)).drew:=((Fr.refl _ w).alloc _).drew;have n:Hid (Ar (w.alloc (.cells #[.int .i64 1,.string ⟨#[]⟩,.string ((pcF t i).extract 1 ((pcF t i).size-1)),.int .i64 0,.int .i64 (atF t.data.toList i:Int),.slice none 0 0] 81)).drew w.heap.size 1 ⟨#[]⟩ ((pcF t i).extract 1 ((pcF t i).size-1)) 0 (atF t.data.toList i) none 0 0):=Ar.of (w:=w.alloc (.cells #[.int .i64 1,.string ⟨#[]⟩,.string ((pcF t i).extract 1 ((pcF t i).size-1)),.int .i64 0,.int .i64 (atF t.data.toList i:Int),.slice none 0 0] 81)) (Af rfl) (P:=fun _=>True) (Fr.grew (Ad.refl _).drew) trivial;have o:Hid (Fr (·≠br) w _):=a.mono fun _ _=>trivial;have p:Hid (RdF _ br t i d):=RdF.of g.out a trivial;clear z A q I J g a;generalize (w.alloc (.cells #[.int .i64 1,.string ⟨#[]⟩,.string ((pcF t i).extract 1 ((pcF t i).size-1)),.int .i64 0,.int .i64 (atF t.data.toList i:Int),.slice none 0 0] 81)).drew=w1 at n o p |-;have v:Hid (Calls _ _ _ _ _):=Dc w1 br t i d p.out ht;go_wp2_with (go_at_call 60;refine v.out.mono ?_;rintro e m ⟨rfl,hr,k⟩;have y:Hid (RdF m br t (i+1) d):=hr;have u:Hid (Fr (·≠br) w m):=o.out.trans k;have s:Hid (Ar m w.heap.size 1 ⟨#[]⟩ ((pcF t i).extract 1 ((pcF t i).size-1)) 0 (atF t.data.toList i) none 0 0):=n.out.of k (by omega);clear hr k)
 go_ret
 rw[x.out];exact⟨u.out,⟨_,rfl,Ah.node ⟨w.heap.size,1,⟨#[]⟩,_,0,atF t.data.toList i,none,0,0,[],rfl,Nat.le_refl _,s.out,Hd _,.inr (.inl ⟨rfl,by rw[Fx]⟩)⟩⟩,y.out⟩
theorem Qj {br:Nat}{t:ByteArray}{self:Nat->Nat->Nat->RX PX}(hS:Ba br t self)(w:World)(d i m:Nat)(hd:d<=24)(ht:t.size<=4000)(hm:m<=1000000)(hI:Cd w br)(hr:RdF w br t i d)
  (r:Except (Nat×Nat) (PX×Nat)) (h:Gw (tkF t.data.toList) self m d i=some r) :
  Calls Tryz.prog 148 #[.pointer (some ⟨br,0,none⟩)] w (Dd w br t d r):=by
 have n:(tkF t.data.toList i).cl=clF t.data.toList i:=rfl;have q:=Aa hr 3;unfold Gw at h;rw[n] at h;clear n;have A:=follows;by_cases f:clF t.data.toList i=2
 ·rw[f] at q;rw[if_pos f] at h;have b:Hid (Calls _ _ _ _ _):=Wu w d i ht hI hr (fun v hv=>by have:=Lib.parseIntB_bounds hv;omega) r h;clear hS hr h hI f;go_enter Tryz.func148,Tryz.ntmps148
  go_wp2_with fail
  refine b.out.mono ?_;rintro e o ⟨a,hm⟩;rcases r with⟨c,p⟩|⟨x,j⟩
  ·obtain rfl:=hm;exact⟨rfl,a,rfl⟩
  ·obtain⟨⟨v,rfl,hv⟩,hr⟩:=hm;have l:Hid (Dd w br t d (.ok (x,j)) (.returned v) o):=⟨a,⟨v,rfl,hv⟩,hr⟩;clear a hv hr b;go_wp2_with fail
   go_ret
   exact l.out
 rw[if_neg f] at h;by_cases k:clF t.data.toList i=3
 ·rw[if_pos k] at h;exact Zn w d i ht hr k r h
 rw[if_neg k] at h;by_cases g:clF t.data.toList i=1
 ·rw[g] at q;rw[if_pos g] at h;have b:Hid (Calls _ _ _ _ _):=dM hS w d i m hd ht hm hI hr r h;clear hS hr h hI g f k;go_enter Tryz.func148,Tryz.ntmps148
  go_wp2_with fail
  refine b.out.mono ?_;rintro e o ⟨a,hm⟩;rcases r with⟨c,p⟩|⟨x,j⟩
  ·obtain rfl:=hm;exact⟨rfl,a,rfl⟩
  ·obtain⟨⟨v,rfl,hv⟩,hr⟩:=hm;have l:Hid (Dd w br t d (.ok (x,j)) (.returned v) o):=⟨a,⟨v,rfl,hv⟩,hr⟩;clear a hv hr b;go_wp2_with fail
   go_ret
   exact l.out
 ·rw[if_neg g] at h;have b:Hid (Calls _ _ _ _ _):=Um hS w d i m hd ht hm hI hr r h;obtain⟨c,s⟩:∃c,clF t.data.toList i=c:=⟨_,rfl⟩;rw[s] at q g f k;have u:((c:Int)==2)=false:=by simp;omega
  have y:((c:Int)==3)=false:=by simp;omega
  have z:((c:Int)==1)=false:=by simp;omega
  clear hS hr h hI g f k s;go_enter Tryz.func148,Tryz.ntmps148
  go_wp2_with fail
  refine b.out.mono ?_;rintro e o ⟨a,hm⟩;rcases r with⟨c,p⟩|⟨x,j⟩
  ·obtain rfl:=hm;exact⟨rfl,a,rfl⟩
  ·obtain⟨⟨v,rfl,hv⟩,hr⟩:=hm;have l:Hid (Dd w br t d (.ok (x,j)) (.returned v) o):=⟨a,⟨v,rfl,hv⟩,hr⟩;clear a hv hr b;go_wp2_with fail
   go_ret
   exact l.out
theorem Qk {br:Nat}{t:ByteArray}{self:Nat->Nat->Nat->RX PX}(hS:Ba br t self)(w:World)(lo d i:Nat)(x:PX)(v:Value)(hd:d<=24)(ht:t.size<=4000)(hI:Cd w br)(hr:RdF w br t i d)(hlo:lo<=w.heap.size)(hbl:br<lo)(hx:Ah (fun k=>lo<=k) w x v)
  (r:Except (Nat×Nat) (PX×Nat)) (h:Lx (tkF t.data.toList) self d x i=some r) :
  Calls Tryz.prog 149 #[.pointer (some ⟨br,0,none⟩),v] w (S2 lo w br t d r):=by
 cases a:self 0 (d+1) (i+1) with
 | none=>exact Nt hS w lo d i x v hd ht hI hr hlo hbl hx (fun y j e=>by rw[a] at e;simp at e) r h
 | some q =>
  rcases q with e|⟨y,j⟩
  ·exact Nt hS w lo d i x v hd ht hI hr hlo hbl hx (fun y j e=>by rw[a] at e;simp at e) r h
  ·cases b:txF t.data.toList j==[58,61] with
   | true=>exact Zl hS w lo d i x v hd ht hI hr hlo hbl hx (fun y' j' e=>by rw[a] at e;simp at e;rw[<- e.2];exact b) r h
   | false=>exact Nt hS w lo d i x v hd ht hI hr hlo hbl hx (fun y' j' e=>by rw[a] at e;simp at e;rw[<- e.2];exact b) r h
theorem Wv {γ δ:Type}(K:Nat->Tk)(m:List UInt8)(i:Nat)(k:Nat->RX γ)(l:γ->Nat->RX δ):bX (B7 K m i k) l=B7 K m i fun j=>bX (k j) l:=by
 unfold B7;split<;>rfl
theorem dP {γ δ:Type}(K:Nat->Tk)(d i:Nat)(k:Nat->RX γ)(l:γ->Nat->RX δ):bX (Dh K d i k) l=Dh K d i fun j=>bX (k j) l:=by
 unfold Dh;split<;>rfl
theorem Un (K:Nat->Tk)(self:Nat->Nat->Nat->RX PX)(M d m:Nat)(x:PX)(i:Nat):Ce K self M d (m+1) x i =
  if (K i).tx==[91] then bX (Lx K self d x i) fun y j=>Ce K self M d m y j
  else if (K i).tx==[46] then bX (bX (Au K (i+1)) fun n j=>okX (dAt x (Fg n)) j) fun y j=>Ce K self M d m y j
  else okX x i:=by
 rw[Ce];split
 ·unfold Lx;rw[dP]
  congr 1
  funext j
  rw[C8]
  congr 1
  funext k j
  split
  ·rw[C8];congr 1;funext v j;rw[Wv];rfl
  ·rw[Wv];rfl
 ·split
  ·rw[C8];rfl
  ·rfl
theorem Dd.L {w:World}{br:Nat}{t:ByteArray}{d:Nat}{r:Except (Nat×Nat) (PX×Nat)}{e:Ending}{w':World}(h:Dd w br t d r e w'):S2 w.heap.size w br t d r e w':=h
theorem Zo {br:Nat}{t:ByteArray}{self:Nat->Nat->Nat->RX PX}(hS:Ba br t self)(w:World)(d i m:Nat)(hd:d<=24)(ht:t.size<=4000)(hm:m<=1000000)(hI:Cd w br)(hr:RdF w br t i d)
  (r:Except (Nat×Nat) (PX×Nat)) (h:Gq (tkF t.data.toList) self m d i=some r) :
  Calls Tryz.prog 129 #[.pointer (some ⟨br,0,none⟩)] w (Dd w br t d r):=by
 have J:Hid (Ba br t self):=hS;have I:Hid (Cd w br):=hI;have M:Hid (RdF w br t i d):=hr;have s:=Ac hr;clear hS hI hr;have V:=follows;unfold Gq at h;go_enter Tryz.func129,Tryz.ntmps129
 go_wp2_with fail
 rcases Ax h with⟨⟨c,p⟩,g,rfl⟩|⟨x,j,g,C⟩
 ·refine(Qj J.out w d i m hd ht hm I.out M.out _ g).mono ?_;rintro e K ⟨b,rfl⟩;exact⟨rfl,b,rfl⟩
 refine(Qj J.out w d i m hd ht hm I.out M.out _ g).mono ?_;rintro e K ⟨b,⟨v,rfl,D⟩,hr⟩;have q:Hid (RdF K br t j d):=hr;have l:Hid (Fr (·≠br) w K):=b;have o:Hid (Ah (fun k=>w.heap.size<=k) K x v):=D;have B:Hid (Ce (tkF t.data.toList) self m d m x j=some r):=C;clear b hr D g h C M;obtain⟨U,rfl,-,-⟩:=o.out.ptr;go_wp2_with fail
 go_loopg [3] (m) (fun f s7 wr=>∃(j:Nat)(x:PX),Hid (RdF wr br t j d)/\Hid (Ah (fun k=>w.heap.size<=k) wr x s7)/\Hid (Ce (tkF t.data.toList) self m d f x j=some r)/\Hid (Fr (·≠br) w wr))
 case atStart=>exact⟨j,x,q,o,B,l⟩
 case round =>
  clear q o B l;obtain⟨j,x,q,o,B,l⟩:=hrel;obtain⟨f,rfl⟩:∃f,gk=f+1:=by
   cases gk with
   | zero=>exact absurd B.out (by simp[Ce])
   | succ f=>exact⟨f,rfl⟩
  have n:=B.out;rw[Un] at n;have u:(tkF t.data.toList j).tx=txF t.data.toList j:=rfl;rw[u] at n;have a:(pcF t j).toList=txF t.data.toList j:=by rw[ByteArray.toList_eq,Bm]
  have R:=Aa q.out 2;have z:=l.out.size;obtain⟨U,rfl,-,-⟩:=o.out.ptr;cases E:(txF t.data.toList j==[91]) with
  | true =>
   have Q:((pcF t j).toList==[91])=true:=by rw[a];exact E
   rw[E,if_pos rfl] at n;clear B u a E;go_wp2_with fail
   rcases Ax n with⟨⟨c,p⟩,g,rfl⟩|⟨y,H,g,C⟩
   ·refine(Qk J.out wr w.heap.size d j x _ hd ht (I.out.fr l.out) q.out z s o.out _ g).mono ?_;rintro e A ⟨b,rfl⟩;exact⟨rfl,l.out.trans b,rfl⟩
   refine(Qk J.out wr w.heap.size d j x _ hd ht (I.out.fr l.out) q.out z s o.out _ g).mono ?_;rintro e A ⟨b,⟨v,rfl,D⟩,hr⟩;have O:Hid (RdF A br t H d):=hr;have L:Hid (Fr (·≠br) w A):=l.out.trans b;have G:Hid (Ah (fun k=>w.heap.size<=k) A y v):=D;have N:Hid (_=some r):=C;clear b hr D g C n q l o R Q;obtain⟨P,rfl,-,-⟩:=G.out.ptr;go_wp2_with fail
   go_roundg f
   case measure=>omega
   case rel=>exact⟨H,y,O,G,N,L⟩
  | false =>
   have Q:((pcF t j).toList==[91])=false:=by rw[a];exact E
   rw[E,if_neg (by simp)] at n;cases F:(txF t.data.toList j==[46]) with
   | true =>
    have S:((pcF t j).toList==[46])=true:=by rw[a];exact F
    rw[F,if_pos rfl] at n;clear B u a E F;go_wp2_with fail
    rcases Ax n with⟨⟨c,p⟩,g,rfl⟩|⟨y,H,g,C⟩
    ·refine(Ol wr br t w.heap.size d j x _ ht q.out z s o.out _ g).mono ?_;rintro e A ⟨b,rfl⟩;exact⟨rfl,l.out.trans b,rfl⟩
    refine(Ol wr br t w.heap.size d j x _ ht q.out z s o.out _ g).mono ?_;rintro e A ⟨b,⟨v,rfl,D⟩,hr⟩;have O:Hid (RdF A br t H d):=hr;have L:Hid (Fr (·≠br) w A):=l.out.trans b;have G:Hid (Ah (fun k=>w.heap.size<=k) A y v):=D;have N:Hid (_=some r):=C;clear b hr D g C n q l o R Q S;obtain⟨P,rfl,-,-⟩:=G.out.ptr;go_wp2_with fail
    go_roundg f
    case measure=>omega
    case rel=>exact⟨H,y,O,G,N,L⟩
   | false =>
    have S:((pcF t j).toList==[46])=false:=by rw[a];exact F
    rw[F,if_neg (by simp)] at n;have T:Hid (r=.ok (x,j)):=by simp only[okX,Option.some.injEq] at n;exact n.symm
    clear B u a E F n;go_wp2_with fail
    go_ret
    rw[T.out];exact⟨l.out,⟨_,rfl,o.out⟩,q.out⟩
theorem Oo (l:List UInt8):C6 l=0/\Es.contains l=true\/C6 l=6/\Ek.contains l=true\/C6 l=12/\Df.contains l=true\/C6 l=14:=by
 unfold C6;cases a:Es.contains l with
 | true=>exact .inl ⟨by simp,rfl⟩
 | false =>
  cases b:Ek.contains l with
  | true=>exact .inr (.inl ⟨by simp,rfl⟩)
  | false =>
   cases c:Df.contains l with
   | true=>exact .inr (.inr (.inl ⟨by simp,rfl⟩))
   | false=>exact .inr (.inr (.inr (by simp)))
theorem Op {br:Nat}{t:ByteArray}{self:Nat->Nat->Nat->RX PX}(hS:Ba br t self)(w:World)(d i m:Nat)(hd:d<=24)(ht:t.size<=4000)(hm:m<=1000000)(hI:Cd w br)(hr:RdF w br t i d)
  (r:Except (Nat×Nat) (PX×Nat)) (h:Hc (tkF t.data.toList) self m (C6 (txF t.data.toList i)) d i=some r) :
  Calls Tryz.prog 93 #[.pointer (some ⟨br,0,none⟩),.int .i64 (C6 (txF t.data.toList i):Int)] w (Dd w br t d r):=by
 unfold Hc at h;have n:=follows;rcases Oo (txF t.data.toList i) with⟨q,g⟩|⟨q,g⟩|⟨q,g⟩|q
 ·have b:Hid (Calls _ _ _ _ _):=Ug hS w d i hd ht hI hr g r (by rw[q,if_pos rfl] at h;exact h);rw[q];clear hS hr h hI g q;go_enter Tryz.func93,Tryz.ntmps93
  go_wp2_with fail
  refine b.out.mono ?_;rintro e l ⟨a,hm⟩;rcases r with⟨c,p⟩|⟨x,j⟩
  ·obtain rfl:=hm;exact⟨rfl,a,rfl⟩
  ·obtain⟨⟨v,rfl,f⟩,hr⟩:=hm;have k:Hid (Dd w br t d (.ok (x,j)) (.returned v) l):=⟨a,⟨v,rfl,f⟩,hr⟩;clear a f hr b;go_wp2_with fail
   go_ret
   exact k.out
 ·have b:Hid (Calls _ _ _ _ _):=Qd hS w d i 6 hd ht hI hr (.inl ⟨rfl,g⟩) r (by rw[q,if_neg (by decide),if_pos (by decide)] at h;exact h);rw[q];clear hS hr h hI g q;go_enter Tryz.func93,Tryz.ntmps93
  go_wp2_with fail
  refine b.out.mono ?_;rintro e l ⟨a,hm⟩;rcases r with⟨c,p⟩|⟨x,j⟩
  ·obtain rfl:=hm;exact⟨rfl,a,rfl⟩
  ·obtain⟨⟨v,rfl,f⟩,hr⟩:=hm;have k:Hid (Dd w br t d (.ok (x,j)) (.returned v) l):=⟨a,⟨v,rfl,f⟩,hr⟩;clear a f hr b;go_wp2_with fail
   go_ret
   exact k.out
 ·have b:Hid (Calls _ _ _ _ _):=Qd hS w d i 12 hd ht hI hr (.inr ⟨rfl,g⟩) r (by rw[q,if_neg (by decide),if_pos (by decide)] at h;exact h);rw[q];clear hS hr h hI g q;go_enter Tryz.func93,Tryz.ntmps93
  go_wp2_with fail
  refine b.out.mono ?_;rintro e l ⟨a,hm⟩;rcases r with⟨c,p⟩|⟨x,j⟩
  ·obtain rfl:=hm;exact⟨rfl,a,rfl⟩
  ·obtain⟨⟨v,rfl,f⟩,hr⟩:=hm;have k:Hid (Dd w br t d (.ok (x,j)) (.returned v) l):=⟨a,⟨v,rfl,f⟩,hr⟩;clear a f hr b;go_wp2_with fail
   go_ret
   exact k.out
 ·have b:Hid (Calls _ _ _ _ _):=Zo hS w d i m hd ht hm hI hr r (by rw[q,if_neg (by decide),if_neg (by decide)] at h;exact h);rw[q];clear hS hr h hI q;go_enter Tryz.func93,Tryz.ntmps93
  go_wp2_with fail
  refine b.out.mono ?_;rintro e l ⟨a,hm⟩;rcases r with⟨c,p⟩|⟨x,j⟩
  ·obtain rfl:=hm;exact⟨rfl,a,rfl⟩
  ·obtain⟨⟨v,rfl,f⟩,hr⟩:=hm;have k:Hid (Dd w br t d (.ok (x,j)) (.returned v) l):=⟨a,⟨v,rfl,f⟩,hr⟩;clear a f hr b;go_wp2_with fail
   go_ret
   exact k.out
theorem Uo {br:Nat}{t:ByteArray}{self:Nat->Nat->Nat->RX PX}(hS:Ba br t self)(w:World)(d i m n:Nat)(hd:d<=24)(hn:n<=12)(ht:t.size<=4000)(hm:m<=1000000)(hI:Cd w br)(hr:RdF w br t i d)
  (r:Except (Nat×Nat) (PX×Nat)) (h:bX (Ii (tkF t.data.toList) self m n d i) (fun x j=>okX x.1 j)=some r) :
  Calls Tryz.prog 62 #[.pointer (some ⟨br,0,none⟩),.int .i64 (n:Int)] w (Dd w br t d r):=by
 have HS:Hid (Ba br t self):=hS;have HI:Hid (Cd w br):=hI;have HR:Hid (RdF w br t i d):=hr;have a4:=Ac hr;have h2:=Aa hr 2;have HO:Hid (∀W:World,_):=fun W=>Fh (pcF t i) W;rw[Bm] at HO;have D:(tkF t.data.toList i).tx=txF t.data.toList i:=rfl;unfold Ii at h;simp only[D] at h;have HP:Hid (Calls _ _ _ _ _):=HO.out w;clear hS hI hr D HO;have mo:=follows;obtain⟨o,ho⟩:∃o,C6 (txF t.data.toList i)=o:=⟨_,rfl⟩;have V:Hid (C6 (txF t.data.toList i)=o):=ho;rw[ho] at h HP;clear ho;by_cases K:o<n
 ·rw[if_pos K] at h;have R:Hid (r=.error (1,atF t.data.toList i)):=by simp only[Dg,bX,Option.some.injEq] at h;exact h.symm
  have N:(o:Int)<(n:Int):=by omega
  have HF:Hid (Calls _ _ _ _ _):=Fy w br t i d 1 HR.out;clear h K;go_enter Tryz.func62,Tryz.ntmps62
  go_wp2_with (first|(go_at_call 65;refine HP.out.mono ?_;rintro e w' ⟨rfl,rfl⟩)|(go_at_call 61;refine HF.out.mono ?_;rintro e w' ⟨rfl,rfl⟩;unfold Flt))
  rw[R.out];exact⟨rfl,Fr.refl _ _,rfl⟩
 rw[if_neg K] at h;have N:¬(o:Int)<(n:Int):=by omega
 clear K;rw[C8] at h;go_enter Tryz.func62,Tryz.ntmps62
 go_wp2_with (go_at_call 65;refine HP.out.mono ?_;rintro e w' ⟨rfl,rfl⟩)
 have A:Hid (C6 (txF t.data.toList i)=o):=V;rcases Ax h with⟨⟨c,p⟩,L,rfl⟩|⟨x,j,L,Z⟩
 ·have s:=Op HS.out w' d i m hd ht hm HI.out HR.out _ (by rw[A.out];exact L);rw[A.out] at s;refine s.mono ?_;rintro e w1 ⟨G,rfl⟩;exact⟨rfl,G,rfl⟩
 have s:=Op HS.out w' d i m hd ht hm HI.out HR.out _ (by rw[A.out];exact L);rw[A.out] at s;refine s.mono ?_;rintro e w1 ⟨G,⟨v,rfl,hv⟩,hr⟩;have E:Hid (RdF w1 br t j d):=hr;have H:Hid (Fr (·≠br) w' w1):=G;have F:Hid (Ah (fun k=>w'.heap.size<=k) w1 x v):=hv;have T:Hid (bX (Cr (tkF t.data.toList) self n d m o x j) (fun x j=>okX x.1 j)=some r):=Z;have C:o<=14:=by rcases Oo (txF t.data.toList i) with⟨q,-⟩|⟨q,-⟩|⟨q,-⟩|q<;>(have:=A.out;omega)
 clear G hr hv L h Z s HR h2 HP N A V;obtain⟨bx,rfl,-,-⟩:=F.out.ptr;go_wp2_with fail
 go_loopg [5,6] (m) (fun f s5 s6 wr=>∃(j o:Nat)(x:PX),s5=.int .i64 (o:Int)/\o<=14/\Hid (RdF wr br t j d)/\Hid (Ah (fun k=>w'.heap.size<=k) wr x s6)/\Hid (bX (Cr (tkF t.data.toList) self n d f o x j) (fun x j=>okX x.1 j)=some r)/\Hid (Fr (·≠br) w' wr))
 case atStart=>exact⟨j,o,x,rfl,C,E,F,T,H⟩
 case round =>
  clear E F T H C;obtain⟨j,o,x,rfl,C,E,F,T,H⟩:=hrel;obtain⟨f,rfl⟩:∃f,gk=f+1:=by
   cases gk with
   | zero=>exact absurd T.out (by simp[Cr,bX])
   | succ f=>exact⟨f,rfl⟩
  have g:=T.out;rw[Cr] at g;have D:(tkF t.data.toList j).tx=txF t.data.toList j:=rfl;simp only[D] at g;have h2:=Aa E.out 2;have b0:=H.out.size;obtain⟨bx,rfl,-,-⟩:=F.out.ptr;have HJ:Hid (∀W:World,_):=fun W=>H7 (pcF t j) W;rw[Bm] at HJ;obtain⟨a,S⟩:∃a,Ak (txF t.data.toList j)=a:=⟨_,rfl⟩;have Q:Hid (Ak (txF t.data.toList j)=a):=S;rw[S] at g HJ;have a9:a<=11:=by have:=Gk (txF t.data.toList j);omega
  have J:Hid (Calls _ _ _ _ _):=HJ.out wr;clear D S T HJ;by_cases O:a=0
  ·subst O;rw[if_pos (.inl rfl)] at g;have R:Hid (r=.ok (x,j)):=by simp only[okX,bX,Option.some.injEq] at g;exact g.symm
   have a0:(-1:Int)<(n:Int):=by omega
   clear g;have u:Hid (Calls Tryz.prog 67 #[.string (pcF t j)] wr fun e w'=>e=.returned (.agg #[.int .i64 (-1),.int .i64 0,.int .i64 0])/\Ad wr w'):=J.out;clear J;go_wp2_with (go_at_call 67;refine u.out.mono ?_;rintro e l ⟨rfl,B⟩;have I:Hid (Ad wr l):=B;clear B)
   go_ret
   rw[R.out];have b:Fr (fun _=>True) wr (l.alloc (.cells #[.int .i64 (-1),.int .i64 0,.int .i64 0] 130)):=(Fr.grew I.out).alloc _;exact⟨H.out.trans (b.mono fun _ _=>trivial),⟨_,rfl,F.out.fr (b.mono fun _ _=>trivial) fun _ _ q=>q⟩,RdF.of E.out b trivial⟩
  have u:Hid (Calls Tryz.prog 67 #[.string (pcF t j)] wr fun e w'=>e=.returned (.agg #[.int .i64 (a:Int),.int .i64 (Cv a:Int),.int .i64 (Ca a:Int)])/\Ad wr w'):=by
   have:=J.out;unfold Kf at this;rw[if_neg O] at this;exact this
  clear J;by_cases q1:a<n
  ·rw[if_pos (.inr (.inl q1))] at g;have R:Hid (r=.ok (x,j)):=by simp only[okX,bX,Option.some.injEq] at g;exact g.symm
   have a0:(a:Int)<(n:Int):=by omega
   clear g q1 O;go_wp2_with (go_at_call 67;refine u.out.mono ?_;rintro e l ⟨rfl,B⟩;have I:Hid (Ad wr l):=B;clear B)
   go_ret
   rw[R.out];have b:Fr (fun _=>True) wr (l.alloc (.cells #[.int .i64 (a:Int),.int .i64 (Cv a:Int),.int .i64 (Ca a:Int)] 130)):=(Fr.grew I.out).alloc _;exact⟨H.out.trans (b.mono fun _ _=>trivial),⟨_,rfl,F.out.fr (b.mono fun _ _=>trivial) fun _ _ q=>q⟩,RdF.of E.out b trivial⟩
  have a5:¬(a:Int)<(n:Int):=by omega
  by_cases q2:o<Cv a
  ·rw[if_pos (.inr (.inr q2))] at g;have R:Hid (r=.ok (x,j)):=by simp only[okX,bX,Option.some.injEq] at g;exact g.symm
   have a0:(o:Int)<(Cv a:Int):=by omega
   clear g q1 O q2;go_wp2_with (go_at_call 67;refine u.out.mono ?_;rintro e l ⟨rfl,B⟩;have I:Hid (Ad wr l):=B;clear B)
   go_ret
   rw[R.out];have b:Fr (fun _=>True) wr (l.alloc (.cells #[.int .i64 (a:Int),.int .i64 (Cv a:Int),.int .i64 (Ca a:Int)] 130)):=(Fr.grew I.out).alloc _;exact⟨H.out.trans (b.mono fun _ _=>trivial),⟨_,rfl,F.out.fr (b.mono fun _ _=>trivial) fun _ _ q=>q⟩,RdF.of E.out b trivial⟩
  have a6:¬(o:Int)<(Cv a:Int):=by omega
  rw[if_neg (fun q=>by omega),C8] at g;have a1:bX (bX (self (Ca a) d (j+1)) fun y j'=>okX (B8 (txF t.data.toList j) x y) j') (fun z j=>bX (Cr (tkF t.data.toList) self n d f a z j) fun x j=>okX x.1 j)=some r:=by rw[C8];exact g
  have HG:Hid (Kf a=.agg #[.int .i64 (a:Int),.int .i64 (Cv a:Int),.int .i64 (Ca a:Int)]):=by show _=_;unfold Kf;rw[if_neg O]
  clear g q1 q2;go_wp2_with (go_at_call 67;refine u.out.mono ?_;rintro e l ⟨rfl,B⟩;have I:Hid (Ad wr l):=B;clear B)
  have U:Hid ((l.alloc (.cells #[.int .i64 (a:Int),.int .i64 (Cv a:Int),.int .i64 (Ca a:Int)] 130)).heap[l.heap.size]?=some (.cells #[.int .i64 (a:Int),.int .i64 (Cv a:Int),.int .i64 (Ca a:Int)] 130 (0,0))):=Af rfl;have b:Fr (fun _=>True) wr (l.alloc (.cells #[.int .i64 (a:Int),.int .i64 (Cv a:Int),.int .i64 (Ca a:Int)] 130)):=(Fr.grew I.out).alloc _;have P:Hid (Fr (·≠br) w' _):=H.out.trans (b.mono fun _ _=>trivial);have T2:Hid (Ah (fun k=>w'.heap.size<=k) _ x _):=F.out.fr (b.mono fun _ _=>trivial) fun _ _ q=>q;have R2:Hid (RdF _ br t j d):=RdF.of E.out b trivial;have a7:=I.out.below.size;have a8:br<wr.heap.size:=Ac E.out;clear b H F E h2 I;generalize l.alloc (.cells #[.int .i64 (a:Int),.int .i64 (Cv a:Int),.int .i64 (Ca a:Int)] 130)=w3 at P T2 R2 U |-;obtain⟨bg,X⟩:∃bg,l.heap.size=bg:=⟨_,rfl⟩;rw[X] at U a7 |-;clear X;have a2:=P.out.size;have Y:bg≠br:=by omega
  have M:br<w'.heap.size:=a4;have a3:a<=14:=by omega
  rcases Ax a1 with⟨⟨c,p⟩,L,rfl⟩|⟨z,j2,L,Z⟩
  ·have s:=Oj HS.out w3 w'.heap.size d j a x _ hd ht (HI.out.fr P.out) R2.out a2 M T2.out Q.out O _ L;rw[HG.out] at s;refine s.mono ?_;rintro e w4 ⟨G,rfl⟩;exact⟨rfl,P.out.trans G,rfl⟩
  have s:=Oj HS.out w3 w'.heap.size d j a x _ hd ht (HI.out.fr P.out) R2.out a2 M T2.out Q.out O _ L;rw[HG.out] at s;refine s.mono ?_;rintro e w4 ⟨G,⟨v,rfl,hv⟩,hr⟩;have R4:Hid (RdF w4 br t j2 d):=hr;have F4:Hid (Fr (·≠br) w' w4):=P.out.trans G;have T4:Hid (Ah (fun k=>w'.heap.size<=k) w4 z v):=hv;have P4:Hid (_=some r):=Z;have c0:=Aa ((G.block bg (Ac U.out) Y).trans U.out) 0;clear G hr hv L Z a1 s P T2 R2 U u HG Q a5 a6 O;obtain⟨bz,rfl,-,-⟩:=T4.out.ptr;go_wp2_with fail
  go_roundg f
  case measure=>omega
  case rel=>exact⟨j2,a,z,rfl,a3,R4,T4,P4,F4⟩
theorem Ly (br:Nat)(t:ByteArray)(ht:t.size<=4000):∀f,f<=1000000->Ba br t (Ht (tkF t.data.toList) f)
 | 0,_=>fun w n d i r hn hd hI hr h=>by simp[Ht] at h
 | f+1,hf=>fun w n d i r hn hd hI hr h=>by
  rw[Ht,show min n 12=n from by omega] at h;exact Uo (Ly br t ht f (by omega)) w d i f n hd hn ht (by omega) hI hr r h
end Go.Proofs.YtjbfcadeapphbaaGreatDoor.Sx
namespace Go.Proofs.YtjbfcadeapphbaaGreatDoor.Sx
open Go.RowKit Go.Sort
theorem M7 (x:Value)(w:World):(Instr.typeAssert (.iface 119 x) 20 119 true).run Tryz.prog w=.ok (.tuple #[x,.bool true]) w:=by kernel_rfl
attribute [local go_sem] M7
end Go.Proofs.YtjbfcadeapphbaaGreatDoor.Sx
namespace Go.Proofs.YtjbfcadeapphbaaGreatDoor.Sx
set_option maxRecDepth 100000
open Go.RowKit Go.Sort
theorem Uq (s:ByteArray)(w:World)(hs:s.size<=4000):Calls Tryz.prog 59 #[.string s] w fun e w'=>e=.returned (.string s)/\Below w.heap.size w w':=by
 have c:Hid (Calls _ _ _ _ _):=Tryz.stringslite_Clone s w (by omega);go_enter Tryz.func59,Tryz.ntmps59
 go_wp2_with (go_at_call 90;refine c.out.mono ?_;rintro e w' ⟨rfl,a⟩;have b:Hid (Below w.heap.size w w'):=a;clear a)
 go_ret
 exact⟨rfl,b.out⟩
theorem Fr.newer {P:Nat->Prop}{w w0 w':World}(h:Fr (fun _=>True) w w0)(f:Fr P w0 w')(hp:∀k,k<w.heap.size->P k):Fr (fun _=>True) w w' :=
 ⟨f.os.trans h.os,f.tape.trans h.tape,f.output.trans h.output,Nat.le_trans h.size f.size,fun k hk _=>(f.block k (Nat.lt_of_lt_of_le hk h.size) (hp k hk)).trans (h.block k hk trivial)⟩
theorem Cd.at {w w':World}{br:Nat}(h:Cd w w.heap.size)(f:Fr (fun _=>True) w w')(hb:w.heap.size<=br):Cd w' br:=by
 obtain⟨j,a,⟨b,d,e⟩,k,c,g,i⟩:=h;exact⟨by omega,Nat.lt_of_lt_of_le a f.size,⟨b,(World.cell?_of_block (w:=w) (f.block 6 a trivial)).trans d,e⟩,by omega,c,(World.cell?_of_block (w:=w) (f.block 5 (by omega) trivial)).trans g,i⟩
end Go.Proofs.YtjbfcadeapphbaaGreatDoor.Sx
