/- What holds tightest. -/
import Derived.Test.YtjbfcadeapphbaaGreatDoorK14
namespace Go.Proofs.YtjbfcadeapphbaaGreatDoor.Sx
set_option maxRecDepth 100000
set_option maxHeartbeats 1000000
open Go.RowKit Go.Sort
theorem S7 {br:Nat}{t:ByteArray}{self:Nat->Nat->Nat->RX PX}(hS:Ax br t self)(w:World)(d i m:Nat)(hd:d<=24)(ht:t.size<=4000)(hm:m<=1000000)(hI:Bl w br)(hr:RdF w br t i d)
  (r:Except (Nat×Nat) (PX×Nat)) (h:Bp (tkF t.data.toList) self m d i=some r) :
  Calls Tryz.prog 157 #[.pointer (some ⟨br,0,none⟩)] w (Cr w br t d r):=by
 by_cases a:txF t.data.toList i=[40]
 ·exact S3 hS w d i m hd ht hI hr a r h
 by_cases b:txF t.data.toList i=[123]
 ·exact S4 hS w d i m hd ht hm hI hr b r h
 by_cases c:txF t.data.toList i=[60,60]
 ·exact S5 hS w d i m hd ht hm hI hr c r h
 by_cases e:txF t.data.toList i=[91]
 ·exact S6 hS w d i m hd ht hm hI hr e r h
 exact Qt hS w d i m hd hI hr ⟨a,b,c,e⟩ r h
def kB (K:Nat->Tk)(i:Nat):RX PX:=okX (Ee (((K i).tx.take ((K i).tx.length-1)).drop 1)) (i+1)
theorem Xi {br:Nat}{t:ByteArray}(w:World)(d i:Nat)(ht:t.size<=4000)(hr:RdF w br t i d)(hc:clF t.data.toList i=3)
  (r:Except (Nat×Nat) (PX×Nat)) (h:kB (tkF t.data.toList) i=some r) :
  Calls Tryz.prog 148 #[.pointer (some ⟨br,0,none⟩)] w (Cr w br t d r):=by
 have C:2<=(pcF t i).size:=by
  have:=(Mc t.data.toList i).two hc;rw[Jx,<- Gy];exact this
 have j:=Hw t.data.toList i;have B:t.data.toList.length=t.size:=by simp
 have f:=Jx t i;have H:(pcF t i).size<=4000:=by omega
 have g:Hid (RdF w br t i d):=hr;have D:=Ab hr;have z:=Aa hr 1;have A:=Aa hr 2;have q:=Aa hr 3;rw[hc] at q;have b:=RdF.of g.out (P:=fun _=>True) (Fr.grew (Ag.refl w).drew) trivial;have I:=Aa b 1;have J:=Aa b 2;have c:(pcF t i).data.toList=txF t.data.toList i:=A5 t i;have x:Hid (r=.ok (Ee ((((pcF t i).data.toList).take ((pcF t i).size-1)).drop 1),i+1)):=by
  show _=_;have l:(tkF t.data.toList i).tx=txF t.data.toList i:=rfl;simp only[kB,okX,l,Option.some.injEq] at h;rw[c,f,<- Gy];exact h.symm
 clear hr b j B f h c;have K:=follows;have E:(((pcF t i).size:Int)-1).toNat=(pcF t i).size-1:=by omega
 have F:(1:Int)<=((pcF t i).size:Int)-1:=by omega
 have G:((pcF t i).size:Int)-1<=((pcF t i).size:Int):=by omega
 go_enter Tryz.func148,Tryz.ntmps148
 go_wp2_with fail
 go_big_region_o
 have a:Fr (fun _=>True) w (w.alloc (.cells #[.int .i64 1,.string ⟨#[]⟩,.string ((pcF t i).extract 1 ((pcF t i).size-1)),.int .i64 0,.int .i64 (atF t.data.toList i:Int),.slice none 0 0] 81)).drew:=((Fr.refl _ w).alloc _).drew;have n:Hid (Ao (w.alloc (.cells #[.int .i64 1,.string ⟨#[]⟩,.string ((pcF t i).extract 1 ((pcF t i).size-1)),.int .i64 0,.int .i64 (atF t.data.toList i:Int),.slice none 0 0] 81)).drew w.heap.size 1 ⟨#[]⟩ ((pcF t i).extract 1 ((pcF t i).size-1)) 0 (atF t.data.toList i) none 0 0):=Ao.of (w:=w.alloc (.cells #[.int .i64 1,.string ⟨#[]⟩,.string ((pcF t i).extract 1 ((pcF t i).size-1)),.int .i64 0,.int .i64 (atF t.data.toList i:Int),.slice none 0 0] 81)) (Aj rfl) (P:=fun _=>True) (Fr.grew (Ag.refl _).drew) trivial;have o:Hid (Fr (·≠br) w _):=a.mono fun _ _=>trivial;have p:Hid (RdF _ br t i d):=RdF.of g.out a trivial;clear z A q I J g a;generalize (w.alloc (.cells #[.int .i64 1,.string ⟨#[]⟩,.string ((pcF t i).extract 1 ((pcF t i).size-1)),.int .i64 0,.int .i64 (atF t.data.toList i:Int),.slice none 0 0] 81)).drew=w1 at n o p |-;have v:Hid (Calls _ _ _ _ _):=Co w1 br t i d p.out ht;go_wp2_with (go_at_call 60;refine v.out.mono ?_;rintro e m ⟨rfl,hr,k⟩;have y:Hid (RdF m br t (i+1) d):=hr;have u:Hid (Fr (·≠br) w m):=o.out.trans k;have s:Hid (Ao m w.heap.size 1 ⟨#[]⟩ ((pcF t i).extract 1 ((pcF t i).size-1)) 0 (atF t.data.toList i) none 0 0):=n.out.of k (by omega);clear hr k)
 go_ret
 rw[x.out];exact⟨u.out,⟨_,rfl,Af.node ⟨w.heap.size,1,⟨#[]⟩,_,0,atF t.data.toList i,none,0,0,[],rfl,Nat.le_refl _,s.out,Ih _,.inr (.inl ⟨rfl,by rw[Gq]⟩)⟩⟩,y.out⟩
theorem Pc {br:Nat}{t:ByteArray}{self:Nat->Nat->Nat->RX PX}(hS:Ax br t self)(w:World)(d i m:Nat)(hd:d<=24)(ht:t.size<=4000)(hm:m<=1000000)(hI:Bl w br)(hr:RdF w br t i d)
  (r:Except (Nat×Nat) (PX×Nat)) (h:C7 (tkF t.data.toList) self m d i=some r) :
  Calls Tryz.prog 148 #[.pointer (some ⟨br,0,none⟩)] w (Cr w br t d r):=by
 have n:(tkF t.data.toList i).cl=clF t.data.toList i:=rfl;have q:=Aa hr 3;unfold C7 at h;rw[n] at h;clear n;have A:=follows;by_cases f:clF t.data.toList i=2
 ·rw[f] at q;rw[if_pos f] at h;have b:Hid (Calls _ _ _ _ _):=U0 w d i ht hI hr (fun v hv=>by have:=Lib.parseIntB_bounds hv;omega) r h;clear hS hr h hI f;go_enter Tryz.func148,Tryz.ntmps148
  go_wp2_with fail
  refine b.out.mono ?_;rintro e o ⟨a,hm⟩;rcases r with⟨c,p⟩|⟨x,j⟩
  ·obtain rfl:=hm;exact⟨rfl,a,rfl⟩
  ·obtain⟨⟨v,rfl,hv⟩,hr⟩:=hm;have l:Hid (Cr w br t d (.ok (x,j)) (.returned v) o):=⟨a,⟨v,rfl,hv⟩,hr⟩;clear a hv hr b;go_wp2_with fail
   go_ret
   exact l.out
 rw[if_neg f] at h;by_cases k:clF t.data.toList i=3
 ·rw[if_pos k] at h;exact Xi w d i ht hr k r h
 rw[if_neg k] at h;by_cases g:clF t.data.toList i=1
 ·rw[g] at q;rw[if_pos g] at h;have b:Hid (Calls _ _ _ _ _):=aL hS w d i m hd ht hm hI hr r h;clear hS hr h hI g f k;go_enter Tryz.func148,Tryz.ntmps148
  go_wp2_with fail
  refine b.out.mono ?_;rintro e o ⟨a,hm⟩;rcases r with⟨c,p⟩|⟨x,j⟩
  ·obtain rfl:=hm;exact⟨rfl,a,rfl⟩
  ·obtain⟨⟨v,rfl,hv⟩,hr⟩:=hm;have l:Hid (Cr w br t d (.ok (x,j)) (.returned v) o):=⟨a,⟨v,rfl,hv⟩,hr⟩;clear a hv hr b;go_wp2_with fail
   go_ret
   exact l.out
 ·rw[if_neg g] at h;have b:Hid (Calls _ _ _ _ _):=S7 hS w d i m hd ht hm hI hr r h;obtain⟨c,s⟩:∃c,clF t.data.toList i=c:=⟨_,rfl⟩;rw[s] at q g f k;have u:((c:Int)==2)=false:=by simp;omega
  have y:((c:Int)==3)=false:=by simp;omega
  have z:((c:Int)==1)=false:=by simp;omega
  clear hS hr h hI g f k s;go_enter Tryz.func148,Tryz.ntmps148
  go_wp2_with fail
  refine b.out.mono ?_;rintro e o ⟨a,hm⟩;rcases r with⟨c,p⟩|⟨x,j⟩
  ·obtain rfl:=hm;exact⟨rfl,a,rfl⟩
  ·obtain⟨⟨v,rfl,hv⟩,hr⟩:=hm;have l:Hid (Cr w br t d (.ok (x,j)) (.returned v) o):=⟨a,⟨v,rfl,hv⟩,hr⟩;clear a hv hr b;go_wp2_with fail
   go_ret
   exact l.out
theorem Pd {br:Nat}{t:ByteArray}{self:Nat->Nat->Nat->RX PX}(hS:Ax br t self)(w:World)(lo d i:Nat)(x:PX)(v:Value)(hd:d<=24)(ht:t.size<=4000)(hI:Bl w br)(hr:RdF w br t i d)(hlo:lo<=w.heap.size)(hbl:br<lo)(hx:Af (fun k=>lo<=k) w x v)
  (r:Except (Nat×Nat) (PX×Nat)) (h:Ky (tkF t.data.toList) self d x i=some r) :
  Calls Tryz.prog 149 #[.pointer (some ⟨br,0,none⟩),v] w (Rl lo w br t d r):=by
 cases a:self 0 (d+1) (i+1) with
 | none=>exact Md hS w lo d i x v hd ht hI hr hlo hbl hx (fun y j e=>by rw[a] at e;simp at e) r h
 | some q =>
  rcases q with e|⟨y,j⟩
  ·exact Md hS w lo d i x v hd ht hI hr hlo hbl hx (fun y j e=>by rw[a] at e;simp at e) r h
  ·cases b:txF t.data.toList j==[58,61] with
   | true=>exact Xg hS w lo d i x v hd ht hI hr hlo hbl hx (fun y' j' e=>by rw[a] at e;simp at e;rw[<- e.2];exact b) r h
   | false=>exact Md hS w lo d i x v hd ht hI hr hlo hbl hx (fun y' j' e=>by rw[a] at e;simp at e;rw[<- e.2];exact b) r h
theorem U1 {γ δ:Type}(K:Nat->Tk)(m:List UInt8)(i:Nat)(k:Nat->RX γ)(l:γ->Nat->RX δ):bX (Bv K m i k) l=Bv K m i fun j=>bX (k j) l:=by
 unfold Bv;split<;>rfl
theorem aO {γ δ:Type}(K:Nat->Tk)(d i:Nat)(k:Nat->RX γ)(l:γ->Nat->RX δ):bX (Bw K d i k) l=Bw K d i fun j=>bX (k j) l:=by
 unfold Bw;split<;>rfl
theorem S8 (K:Nat->Tk)(self:Nat->Nat->Nat->RX PX)(M d m:Nat)(x:PX)(i:Nat):Bs K self M d (m+1) x i =
  if (K i).tx==[91] then bX (Ky K self d x i) fun y j=>Bs K self M d m y j
  else if (K i).tx==[46] then bX (bX (Bo K (i+1)) fun n j=>okX (dAt x (Ee n)) j) fun y j=>Bs K self M d m y j
  else okX x i:=by
 rw[Bs];split
 ·unfold Ky;rw[aO]
  congr 1
  funext j
  rw[Cl]
  congr 1
  funext k j
  split
  ·rw[Cl];congr 1;funext v j;rw[U1];rfl
  ·rw[U1];rfl
 ·split
  ·rw[Cl];rfl
  ·rfl
theorem Cr.L {w:World}{br:Nat}{t:ByteArray}{d:Nat}{r:Except (Nat×Nat) (PX×Nat)}{e:Ending}{w':World}(h:Cr w br t d r e w'):Rl w.heap.size w br t d r e w':=h
theorem Xj {br:Nat}{t:ByteArray}{self:Nat->Nat->Nat->RX PX}(hS:Ax br t self)(w:World)(d i m:Nat)(hd:d<=24)(ht:t.size<=4000)(hm:m<=1000000)(hI:Bl w br)(hr:RdF w br t i d)
  (r:Except (Nat×Nat) (PX×Nat)) (h:Eo (tkF t.data.toList) self m d i=some r) :
  Calls Tryz.prog 129 #[.pointer (some ⟨br,0,none⟩)] w (Cr w br t d r):=by
 have J:Hid (Ax br t self):=hS;have I:Hid (Bl w br):=hI;have M:Hid (RdF w br t i d):=hr;have s:=Ab hr;clear hS hI hr;have V:=follows;unfold Eo at h;go_enter Tryz.func129,Tryz.ntmps129
 go_wp2_with fail
 rcases Aq h with⟨⟨c,p⟩,g,rfl⟩|⟨x,j,g,C⟩
 ·refine(Pc J.out w d i m hd ht hm I.out M.out _ g).mono ?_;rintro e K ⟨b,rfl⟩;exact⟨rfl,b,rfl⟩
 refine(Pc J.out w d i m hd ht hm I.out M.out _ g).mono ?_;rintro e K ⟨b,⟨v,rfl,D⟩,hr⟩;have q:Hid (RdF K br t j d):=hr;have l:Hid (Fr (·≠br) w K):=b;have o:Hid (Af (fun k=>w.heap.size<=k) K x v):=D;have B:Hid (Bs (tkF t.data.toList) self m d m x j=some r):=C;clear b hr D g h C M;obtain⟨U,rfl,-,-⟩:=o.out.ptr;go_wp2_with fail
 go_loopg [3] (m) (fun f s7 wr=>∃(j:Nat)(x:PX),Hid (RdF wr br t j d)/\Hid (Af (fun k=>w.heap.size<=k) wr x s7)/\Hid (Bs (tkF t.data.toList) self m d f x j=some r)/\Hid (Fr (·≠br) w wr))
 case atStart=>exact⟨j,x,q,o,B,l⟩
 case round =>
  clear q o B l;obtain⟨j,x,q,o,B,l⟩:=hrel;obtain⟨f,rfl⟩:∃f,gk=f+1:=by
   cases gk with
   | zero=>exact absurd B.out (by simp[Bs])
   | succ f=>exact⟨f,rfl⟩
  have n:=B.out;rw[S8] at n;have u:(tkF t.data.toList j).tx=txF t.data.toList j:=rfl;rw[u] at n;have a:(pcF t j).toList=txF t.data.toList j:=by rw[ByteArray.toList_eq,A5]
  have R:=Aa q.out 2;have z:=l.out.size;obtain⟨U,rfl,-,-⟩:=o.out.ptr;cases E:(txF t.data.toList j==[91]) with
  | true =>
   have Q:((pcF t j).toList==[91])=true:=by rw[a];exact E
   rw[E,if_pos rfl] at n;clear B u a E;go_wp2_with fail
   rcases Aq n with⟨⟨c,p⟩,g,rfl⟩|⟨y,H,g,C⟩
   ·refine(Pd J.out wr w.heap.size d j x _ hd ht (I.out.fr l.out) q.out z s o.out _ g).mono ?_;rintro e A ⟨b,rfl⟩;exact⟨rfl,l.out.trans b,rfl⟩
   refine(Pd J.out wr w.heap.size d j x _ hd ht (I.out.fr l.out) q.out z s o.out _ g).mono ?_;rintro e A ⟨b,⟨v,rfl,D⟩,hr⟩;have O:Hid (RdF A br t H d):=hr;have L:Hid (Fr (·≠br) w A):=l.out.trans b;have G:Hid (Af (fun k=>w.heap.size<=k) A y v):=D;have N:Hid (_=some r):=C;clear b hr D g C n q l o R Q;obtain⟨P,rfl,-,-⟩:=G.out.ptr;go_wp2_with fail
   go_roundg f
   case measure=>omega
   case rel=>exact⟨H,y,O,G,N,L⟩
  | false =>
   have Q:((pcF t j).toList==[91])=false:=by rw[a];exact E
   rw[E,if_neg (by simp)] at n;cases F:(txF t.data.toList j==[46]) with
   | true =>
    have S:((pcF t j).toList==[46])=true:=by rw[a];exact F
    rw[F,if_pos rfl] at n;clear B u a E F;go_wp2_with fail
    rcases Aq n with⟨⟨c,p⟩,g,rfl⟩|⟨y,H,g,C⟩
    ·refine(M7 wr br t w.heap.size d j x _ ht q.out z s o.out _ g).mono ?_;rintro e A ⟨b,rfl⟩;exact⟨rfl,l.out.trans b,rfl⟩
    refine(M7 wr br t w.heap.size d j x _ ht q.out z s o.out _ g).mono ?_;rintro e A ⟨b,⟨v,rfl,D⟩,hr⟩;have O:Hid (RdF A br t H d):=hr;have L:Hid (Fr (·≠br) w A):=l.out.trans b;have G:Hid (Af (fun k=>w.heap.size<=k) A y v):=D;have N:Hid (_=some r):=C;clear b hr D g C n q l o R Q S;obtain⟨P,rfl,-,-⟩:=G.out.ptr;go_wp2_with fail
    go_roundg f
    case measure=>omega
    case rel=>exact⟨H,y,O,G,N,L⟩
   | false =>
    have S:((pcF t j).toList==[46])=false:=by rw[a];exact F
    rw[F,if_neg (by simp)] at n;have T:Hid (r=.ok (x,j)):=by simp only[okX,Option.some.injEq] at n;exact n.symm
    clear B u a E F n;go_wp2_with fail
    go_ret
    rw[T.out];exact⟨l.out,⟨_,rfl,o.out⟩,q.out⟩
end Go.Proofs.YtjbfcadeapphbaaGreatDoor.Sx
