/- A text is read. -/
import Derived.Test.YtjbfcadeapphbaaGreatDoorK15
import Derived.Recover
import Derived.Test.YtjbfcadeapphbaaGreatDoorK04
import Derived.Test.YtjbfcadeapphbaaGreatDoorShelf
namespace Go.Proofs.YtjbfcadeapphbaaGreatDoor.Sx
set_option maxRecDepth 100000
set_option maxHeartbeats 1000000
open Go.RowKit Go.Sort
theorem Na (l:List UInt8):Bd l=0/\Dm.contains l=true\/Bd l=6/\De.contains l=true\/Bd l=12/\Cf.contains l=true\/Bd l=14:=by
 unfold Bd;cases a:Dm.contains l with
 | true=>exact .inl ⟨by simp,rfl⟩
 | false =>
  cases b:De.contains l with
  | true=>exact .inr (.inl ⟨by simp,rfl⟩)
  | false =>
   cases c:Cf.contains l with
   | true=>exact .inr (.inr (.inl ⟨by simp,rfl⟩))
   | false=>exact .inr (.inr (.inr (by simp)))
theorem Nb {br:Nat}{t:ByteArray}{self:Nat->Nat->Nat->RX PX}(hS:Ax br t self)(w:World)(d i m:Nat)(hd:d<=24)(ht:t.size<=4000)(hm:m<=1000000)(hI:Bl w br)(hr:RdF w br t i d)
  (r:Except (Nat×Nat) (PX×Nat)) (h:Ep (tkF t.data.toList) self m (Bd (txF t.data.toList i)) d i=some r) :
  Calls Tryz.prog 93 #[.pointer (some ⟨br,0,none⟩),.int .i64 (Bd (txF t.data.toList i):Int)] w (Cr w br t d r):=by
 unfold Ep at h;have n:=follows;rcases Na (txF t.data.toList i) with⟨q,g⟩|⟨q,g⟩|⟨q,g⟩|q
 ·have b:Hid (Calls _ _ _ _ _):=S1 hS w d i hd ht hI hr g r (by rw[q,if_pos rfl] at h;exact h);rw[q];clear hS hr h hI g q;go_enter Tryz.func93,Tryz.ntmps93
  go_wp2_with fail
  refine b.out.mono ?_;rintro e l ⟨a,hm⟩;rcases r with⟨c,p⟩|⟨x,j⟩
  ·obtain rfl:=hm;exact⟨rfl,a,rfl⟩
  ·obtain⟨⟨v,rfl,f⟩,hr⟩:=hm;have k:Hid (Cr w br t d (.ok (x,j)) (.returned v) l):=⟨a,⟨v,rfl,f⟩,hr⟩;clear a f hr b;go_wp2_with fail
   go_ret
   exact k.out
 ·have b:Hid (Calls _ _ _ _ _):=O3 hS w d i 6 hd ht hI hr (.inl ⟨rfl,g⟩) r (by rw[q,if_neg (by decide),if_pos (by decide)] at h;exact h);rw[q];clear hS hr h hI g q;go_enter Tryz.func93,Tryz.ntmps93
  go_wp2_with fail
  refine b.out.mono ?_;rintro e l ⟨a,hm⟩;rcases r with⟨c,p⟩|⟨x,j⟩
  ·obtain rfl:=hm;exact⟨rfl,a,rfl⟩
  ·obtain⟨⟨v,rfl,f⟩,hr⟩:=hm;have k:Hid (Cr w br t d (.ok (x,j)) (.returned v) l):=⟨a,⟨v,rfl,f⟩,hr⟩;clear a f hr b;go_wp2_with fail
   go_ret
   exact k.out
 ·have b:Hid (Calls _ _ _ _ _):=O3 hS w d i 12 hd ht hI hr (.inr ⟨rfl,g⟩) r (by rw[q,if_neg (by decide),if_pos (by decide)] at h;exact h);rw[q];clear hS hr h hI g q;go_enter Tryz.func93,Tryz.ntmps93
  go_wp2_with fail
  refine b.out.mono ?_;rintro e l ⟨a,hm⟩;rcases r with⟨c,p⟩|⟨x,j⟩
  ·obtain rfl:=hm;exact⟨rfl,a,rfl⟩
  ·obtain⟨⟨v,rfl,f⟩,hr⟩:=hm;have k:Hid (Cr w br t d (.ok (x,j)) (.returned v) l):=⟨a,⟨v,rfl,f⟩,hr⟩;clear a f hr b;go_wp2_with fail
   go_ret
   exact k.out
 ·have b:Hid (Calls _ _ _ _ _):=Xj hS w d i m hd ht hm hI hr r (by rw[q,if_neg (by decide),if_neg (by decide)] at h;exact h);rw[q];clear hS hr h hI q;go_enter Tryz.func93,Tryz.ntmps93
  go_wp2_with fail
  refine b.out.mono ?_;rintro e l ⟨a,hm⟩;rcases r with⟨c,p⟩|⟨x,j⟩
  ·obtain rfl:=hm;exact⟨rfl,a,rfl⟩
  ·obtain⟨⟨v,rfl,f⟩,hr⟩:=hm;have k:Hid (Cr w br t d (.ok (x,j)) (.returned v) l):=⟨a,⟨v,rfl,f⟩,hr⟩;clear a f hr b;go_wp2_with fail
   go_ret
   exact k.out
theorem S9 {br:Nat}{t:ByteArray}{self:Nat->Nat->Nat->RX PX}(hS:Ax br t self)(w:World)(d i m n:Nat)(hd:d<=24)(hn:n<=12)(ht:t.size<=4000)(hm:m<=1000000)(hI:Bl w br)(hr:RdF w br t i d)
  (r:Except (Nat×Nat) (PX×Nat)) (h:bX (Fa (tkF t.data.toList) self m n d i) (fun x j=>okX x.1 j)=some r) :
  Calls Tryz.prog 62 #[.pointer (some ⟨br,0,none⟩),.int .i64 (n:Int)] w (Cr w br t d r):=by
 have HS:Hid (Ax br t self):=hS;have HI:Hid (Bl w br):=hI;have HR:Hid (RdF w br t i d):=hr;have a4:=Ab hr;have h2:=Aa hr 2;have HO:Hid (∀W:World,_):=fun W=>Er (pcF t i) W;rw[A5] at HO;have D:(tkF t.data.toList i).tx=txF t.data.toList i:=rfl;unfold Fa at h;simp only[D] at h;have HP:Hid (Calls _ _ _ _ _):=HO.out w;clear hS hI hr D HO;have mo:=follows;obtain⟨o,ho⟩:∃o,Bd (txF t.data.toList i)=o:=⟨_,rfl⟩;have V:Hid (Bd (txF t.data.toList i)=o):=ho;rw[ho] at h HP;clear ho;by_cases K:o<n
 ·rw[if_pos K] at h;have R:Hid (r=.error (1,atF t.data.toList i)):=by simp only[Ck,bX,Option.some.injEq] at h;exact h.symm
  have N:(o:Int)<(n:Int):=by omega
  have HF:Hid (Calls _ _ _ _ _):=Ey w br t i d 1 HR.out;clear h K;go_enter Tryz.func62,Tryz.ntmps62
  go_wp2_with (first|(go_at_call 65;refine HP.out.mono ?_;rintro e w' ⟨rfl,rfl⟩)|(go_at_call 61;refine HF.out.mono ?_;rintro e w' ⟨rfl,rfl⟩;unfold Flt))
  rw[R.out];exact⟨rfl,Fr.refl _ _,rfl⟩
 rw[if_neg K] at h;have N:¬(o:Int)<(n:Int):=by omega
 clear K;rw[Cl] at h;go_enter Tryz.func62,Tryz.ntmps62
 go_wp2_with (go_at_call 65;refine HP.out.mono ?_;rintro e w' ⟨rfl,rfl⟩)
 have A:Hid (Bd (txF t.data.toList i)=o):=V;rcases Aq h with⟨⟨c,p⟩,L,rfl⟩|⟨x,j,L,Z⟩
 ·have s:=Nb HS.out w' d i m hd ht hm HI.out HR.out _ (by rw[A.out];exact L);rw[A.out] at s;refine s.mono ?_;rintro e w1 ⟨G,rfl⟩;exact⟨rfl,G,rfl⟩
 have s:=Nb HS.out w' d i m hd ht hm HI.out HR.out _ (by rw[A.out];exact L);rw[A.out] at s;refine s.mono ?_;rintro e w1 ⟨G,⟨v,rfl,hv⟩,hr⟩;have E:Hid (RdF w1 br t j d):=hr;have H:Hid (Fr (·≠br) w' w1):=G;have F:Hid (Af (fun k=>w'.heap.size<=k) w1 x v):=hv;have T:Hid (bX (Bb (tkF t.data.toList) self n d m o x j) (fun x j=>okX x.1 j)=some r):=Z;have C:o<=14:=by rcases Na (txF t.data.toList i) with⟨q,-⟩|⟨q,-⟩|⟨q,-⟩|q<;>(have:=A.out;omega)
 clear G hr hv L h Z s HR h2 HP N A V;obtain⟨bx,rfl,-,-⟩:=F.out.ptr;go_wp2_with fail
 go_loopg [5,6] (m) (fun f s5 s6 wr=>∃(j o:Nat)(x:PX),s5=.int .i64 (o:Int)/\o<=14/\Hid (RdF wr br t j d)/\Hid (Af (fun k=>w'.heap.size<=k) wr x s6)/\Hid (bX (Bb (tkF t.data.toList) self n d f o x j) (fun x j=>okX x.1 j)=some r)/\Hid (Fr (·≠br) w' wr))
 case atStart=>exact⟨j,o,x,rfl,C,E,F,T,H⟩
 case round =>
  clear E F T H C;obtain⟨j,o,x,rfl,C,E,F,T,H⟩:=hrel;obtain⟨f,rfl⟩:∃f,gk=f+1:=by
   cases gk with
   | zero=>exact absurd T.out (by simp[Bb,bX])
   | succ f=>exact⟨f,rfl⟩
  have g:=T.out;rw[Bb] at g;have D:(tkF t.data.toList j).tx=txF t.data.toList j:=rfl;simp only[D] at g;have h2:=Aa E.out 2;have b0:=H.out.size;obtain⟨bx,rfl,-,-⟩:=F.out.ptr;have HJ:Hid (∀W:World,_):=fun W=>Hd (pcF t j) W;rw[A5] at HJ;obtain⟨a,S⟩:∃a,Ae (txF t.data.toList j)=a:=⟨_,rfl⟩;have Q:Hid (Ae (txF t.data.toList j)=a):=S;rw[S] at g HJ;have a9:a<=11:=by have:=Gg (txF t.data.toList j);omega
  have J:Hid (Calls _ _ _ _ _):=HJ.out wr;clear D S T HJ;by_cases O:a=0
  ·subst O;rw[if_pos (.inl rfl)] at g;have R:Hid (r=.ok (x,j)):=by simp only[okX,bX,Option.some.injEq] at g;exact g.symm
   have a0:(-1:Int)<(n:Int):=by omega
   clear g;have u:Hid (Calls Tryz.prog 67 #[.string (pcF t j)] wr fun e w'=>e=.returned (.agg #[.int .i64 (-1),.int .i64 0,.int .i64 0])/\Ag wr w'):=J.out;clear J;go_wp2_with (go_at_call 67;refine u.out.mono ?_;rintro e l ⟨rfl,B⟩;have I:Hid (Ag wr l):=B;clear B)
   go_ret
   rw[R.out];have b:Fr (fun _=>True) wr (l.alloc (.cells #[.int .i64 (-1),.int .i64 0,.int .i64 0] 130)):=(Fr.grew I.out).alloc _;exact⟨H.out.trans (b.mono fun _ _=>trivial),⟨_,rfl,F.out.fr (b.mono fun _ _=>trivial) fun _ _ q=>q⟩,RdF.of E.out b trivial⟩
  have u:Hid (Calls Tryz.prog 67 #[.string (pcF t j)] wr fun e w'=>e=.returned (.agg #[.int .i64 (a:Int),.int .i64 (Bh a:Int),.int .i64 (Bg a:Int)])/\Ag wr w'):=by
   have:=J.out;unfold Jn at this;rw[if_neg O] at this;exact this
  clear J;by_cases q1:a<n
  ·rw[if_pos (.inr (.inl q1))] at g;have R:Hid (r=.ok (x,j)):=by simp only[okX,bX,Option.some.injEq] at g;exact g.symm
   have a0:(a:Int)<(n:Int):=by omega
   clear g q1 O;go_wp2_with (go_at_call 67;refine u.out.mono ?_;rintro e l ⟨rfl,B⟩;have I:Hid (Ag wr l):=B;clear B)
   go_ret
   rw[R.out];have b:Fr (fun _=>True) wr (l.alloc (.cells #[.int .i64 (a:Int),.int .i64 (Bh a:Int),.int .i64 (Bg a:Int)] 130)):=(Fr.grew I.out).alloc _;exact⟨H.out.trans (b.mono fun _ _=>trivial),⟨_,rfl,F.out.fr (b.mono fun _ _=>trivial) fun _ _ q=>q⟩,RdF.of E.out b trivial⟩
  have a5:¬(a:Int)<(n:Int):=by omega
  by_cases q2:o<Bh a
  ·rw[if_pos (.inr (.inr q2))] at g;have R:Hid (r=.ok (x,j)):=by simp only[okX,bX,Option.some.injEq] at g;exact g.symm
   have a0:(o:Int)<(Bh a:Int):=by omega
   clear g q1 O q2;go_wp2_with (go_at_call 67;refine u.out.mono ?_;rintro e l ⟨rfl,B⟩;have I:Hid (Ag wr l):=B;clear B)
   go_ret
   rw[R.out];have b:Fr (fun _=>True) wr (l.alloc (.cells #[.int .i64 (a:Int),.int .i64 (Bh a:Int),.int .i64 (Bg a:Int)] 130)):=(Fr.grew I.out).alloc _;exact⟨H.out.trans (b.mono fun _ _=>trivial),⟨_,rfl,F.out.fr (b.mono fun _ _=>trivial) fun _ _ q=>q⟩,RdF.of E.out b trivial⟩
  have a6:¬(o:Int)<(Bh a:Int):=by omega
  rw[if_neg (fun q=>by omega),Cl] at g;have a1:bX (bX (self (Bg a) d (j+1)) fun y j'=>okX (I0 (txF t.data.toList j) x y) j') (fun z j=>bX (Bb (tkF t.data.toList) self n d f a z j) fun x j=>okX x.1 j)=some r:=by rw[Cl];exact g
  have HG:Hid (Jn a=.agg #[.int .i64 (a:Int),.int .i64 (Bh a:Int),.int .i64 (Bg a:Int)]):=by show _=_;unfold Jn;rw[if_neg O]
  clear g q1 q2;go_wp2_with (go_at_call 67;refine u.out.mono ?_;rintro e l ⟨rfl,B⟩;have I:Hid (Ag wr l):=B;clear B)
  have U:Hid ((l.alloc (.cells #[.int .i64 (a:Int),.int .i64 (Bh a:Int),.int .i64 (Bg a:Int)] 130)).heap[l.heap.size]?=some (.cells #[.int .i64 (a:Int),.int .i64 (Bh a:Int),.int .i64 (Bg a:Int)] 130 (0,0))):=Aj rfl;have b:Fr (fun _=>True) wr (l.alloc (.cells #[.int .i64 (a:Int),.int .i64 (Bh a:Int),.int .i64 (Bg a:Int)] 130)):=(Fr.grew I.out).alloc _;have P:Hid (Fr (·≠br) w' _):=H.out.trans (b.mono fun _ _=>trivial);have T2:Hid (Af (fun k=>w'.heap.size<=k) _ x _):=F.out.fr (b.mono fun _ _=>trivial) fun _ _ q=>q;have R2:Hid (RdF _ br t j d):=RdF.of E.out b trivial;have a7:=I.out.below.size;have a8:br<wr.heap.size:=Ab E.out;clear b H F E h2 I;generalize l.alloc (.cells #[.int .i64 (a:Int),.int .i64 (Bh a:Int),.int .i64 (Bg a:Int)] 130)=w3 at P T2 R2 U |-;obtain⟨bg,X⟩:∃bg,l.heap.size=bg:=⟨_,rfl⟩;rw[X] at U a7 |-;clear X;have a2:=P.out.size;have Y:bg≠br:=by omega
  have M:br<w'.heap.size:=a4;have a3:a<=14:=by omega
  rcases Aq a1 with⟨⟨c,p⟩,L,rfl⟩|⟨z,j2,L,Z⟩
  ·have s:=M6 HS.out w3 w'.heap.size d j a x _ hd ht (HI.out.fr P.out) R2.out a2 M T2.out Q.out O _ L;rw[HG.out] at s;refine s.mono ?_;rintro e w4 ⟨G,rfl⟩;exact⟨rfl,P.out.trans G,rfl⟩
  have s:=M6 HS.out w3 w'.heap.size d j a x _ hd ht (HI.out.fr P.out) R2.out a2 M T2.out Q.out O _ L;rw[HG.out] at s;refine s.mono ?_;rintro e w4 ⟨G,⟨v,rfl,hv⟩,hr⟩;have R4:Hid (RdF w4 br t j2 d):=hr;have F4:Hid (Fr (·≠br) w' w4):=P.out.trans G;have T4:Hid (Af (fun k=>w'.heap.size<=k) w4 z v):=hv;have P4:Hid (_=some r):=Z;have c0:=Aa ((G.block bg (Ab U.out) Y).trans U.out) 0;clear G hr hv L Z a1 s P T2 R2 U u HG Q a5 a6 O;obtain⟨bz,rfl,-,-⟩:=T4.out.ptr;go_wp2_with fail
  go_roundg f
  case measure=>omega
  case rel=>exact⟨j2,a,z,rfl,a3,R4,T4,P4,F4⟩
theorem Hz (br:Nat)(t:ByteArray)(ht:t.size<=4000):∀f,f<=1000000->Ax br t (A3 (tkF t.data.toList) f)
 | 0,_=>fun w n d i r hn hd hI hr h=>by simp[A3] at h
 | f+1,hf=>fun w n d i r hn hd hI hr h=>by
  rw[A3,show min n 12=n from by omega] at h;exact S9 (Hz br t ht f (by omega)) w d i f n hd hn ht (by omega) hI hr r h
end Go.Proofs.YtjbfcadeapphbaaGreatDoor.Sx
namespace Go.Proofs.YtjbfcadeapphbaaGreatDoor.Sx
set_option maxRecDepth 100000
set_option maxHeartbeats 1000000
open Go.RowKit Go.Sort
theorem Xk (p q:Addr)(w:World) :
  CallsD Tryz.prog 58 #[.pointer (some p),.pointer (some q)] .returning w fun e u' w'=>e=.returned (.tuple #[])/\u'=.returning/\w'=w:=by
 refine callsD_of_wpS Tryz.func58 rfl fun c₀ cs hu=>?_;apply wpS_seq;apply wpS_region;simp[wpOpsS,go_sem,recoverD,hu,Tryz.ntmps58,Exit.thenS];refine wpS_of_wp ?_;go_wp2_with fail
 cases c₀
 simp_all[bodyPostS,results,Tryz.results58]
theorem Lo (x:Value)(w:World):(Instr.typeAssert (.iface 119 x) 20 119 true).run Tryz.prog w=.ok (.tuple #[x,.bool true]) w:=by kernel_rfl
attribute [local go_sem] Lo
theorem Nc (bp bq:Nat)(c a:Nat)(w:World)(hp:w.heap[bp]?=some (.cells #[.int .i64 0] 3 (0,0)))(hq:w.heap[bq]?=some (.cells #[.nilIface] 23 (0,0)))(hne:bp≠bq) :
  CallsD Tryz.prog 58 #[.pointer (some ⟨bp,0,none⟩),.pointer (some ⟨bq,0,none⟩)] (.panicking [{ v:=.iface 119 (.agg #[.int .i64 (a:Int),.int .i64 (c:Int)]),recovered:=false }]) w fun e u' w' =>
   e=.returned (.tuple #[])/\u'=.panicking [{ v:=.iface 119 (.agg #[.int .i64 (a:Int),.int .i64 (c:Int)]),recovered:=true }]/\Fr (fun k=>k≠bp/\k≠bq) w w'/\w'.cell? ⟨bp,0,none⟩=some (.int .i64 (a:Int))/\w'.cell? ⟨bq,0,none⟩=some (.iface 58 (.int .i64 (c:Int))):=by
 refine callsD_of_wpS Tryz.func58 rfl fun c₀ cs hu=>?_;apply wpS_seq;apply wpS_region;simp[wpOpsS,go_sem,recoverD,hu,Tryz.ntmps58,Exit.thenS];refine wpS_of_wp (a:={ tmps:=#[.pointer (some ⟨bp,0,none⟩),.pointer (some ⟨bq,0,none⟩),undef,undef,undef,.iface 119 (.agg #[.int .i64 (a:Int),.int .i64 (c:Int)]),undef,undef,undef,undef,undef,undef,undef,undef,undef,undef],defers:=[] }) ?_;have L:=follows;have h:Fr (fun _=>True) w (w.alloc (.cells #[.int .i64 (a:Int),.int .i64 (c:Int)] 119)):=(Fr.refl _ w).alloc _;have f:Hid (_=_):=(h.block bp (Ab hp) trivial).trans hp;have g:Hid (_=_):=(h.block bq (Ab hq) trivial).trans hq;have d:Hid ((w.alloc (.cells #[.int .i64 (a:Int),.int .i64 (c:Int)] 119)).heap[w.heap.size]?=some (.cells #[.int .i64 (a:Int),.int .i64 (c:Int)] 119 (0,0))):=Aj rfl;have o:Hid (Fr _ w (w.alloc _)):=h;have r:=Ab hp;have s:=Ab hq;clear hp hq h;go_wp2_with fail
 generalize w.alloc (.cells #[.int .i64 (a:Int),.int .i64 (c:Int)] 119)=W1 at f g d o |-;obtain⟨i,l⟩:∃i,w.heap.size=i:=⟨_,rfl⟩;rw[l] at d r s |-;clear l;have b:Fr (fun _=>True) W1 W1.drew:=Fr.grew (Ag.refl W1).drew;have A:=Aa d.out 0;have B:=Aa d.out 1;have C:=Aa ((b.block i (Ab d.out) trivial).trans d.out) 0;have D:=Aa ((b.block i (Ab d.out) trivial).trans d.out) 1;have G:=Aa f.out 0;have t:=Aa ((b.block bp (Ab f.out) trivial).trans f.out) 0;have H:=Aa g.out 0;have u:=Aa ((b.block bq (Ab g.out) trivial).trans g.out) 0;have E:=Ac f.out 0;have p:=Ac ((b.block bp (Ab f.out) trivial).trans f.out) 0;have F:=Ac g.out 0;have q:=Ac ((b.block bq (Ab g.out) trivial).trans g.out) 0;clear b;have M:bp≠i:=by omega
 have N:bq≠i:=by omega
 go_big_region_o
 have x:Hid (Fr (fun k=>k≠bp/\k≠bq) w ((W1.setCell ⟨bp,0,none⟩ (.int .i64 (a:Int))).setCell ⟨bq,0,none⟩ (.iface 58 (.int .i64 (c:Int)))).drew):=(((o.out.mono fun _ _=>trivial).set (by simp) _).set (by simp) _).drew;have n:(W1.setCell ⟨bp,0,none⟩ (.int .i64 (a:Int))).heap[bq]?=some (.cells #[.nilIface] 23 (0,0)):=(Below.heap_setCell _ _ _ bq (by simp;omega)).trans g.out;have m:(W1.setCell ⟨bp,0,none⟩ (.int .i64 (a:Int))).heap[bp]?=some (.cells #[.int .i64 (a:Int)] 3 (0,0)):=by have:=Ah f.out 0 (.int .i64 (a:Int));simpa using this
 have y:Hid (((W1.setCell ⟨bp,0,none⟩ (.int .i64 (a:Int))).setCell ⟨bq,0,none⟩ (.iface 58 (.int .i64 (c:Int)))).drew.cell? ⟨bp,0,none⟩=some (.int .i64 (a:Int))):=by
  have j:=(Below.heap_setCell (W1.setCell ⟨bp,0,none⟩ (.int .i64 (a:Int))) ⟨bq,0,none⟩ (.iface 58 (.int .i64 (c:Int))) bp (by simp;omega)).trans m;exact Aa (((Fr.grew (P:=fun _=>True) (Ag.refl _).drew).block bp (Ab j) trivial).trans j) 0
 have z:Hid (((W1.setCell ⟨bp,0,none⟩ (.int .i64 (a:Int))).setCell ⟨bq,0,none⟩ (.iface 58 (.int .i64 (c:Int)))).drew.cell? ⟨bq,0,none⟩=some (.iface 58 (.int .i64 (c:Int)))):=by
  have j:=Ah n 0 (.iface 58 (.int .i64 (c:Int)));exact Aa (((Fr.grew (P:=fun _=>True) (Ag.refl _).drew).block bq (Ab j) trivial).trans j) 0
 clear A B C D G t H u E p F q n m f g d o;generalize ((W1.setCell ⟨bp,0,none⟩ (.int .i64 (a:Int))).setCell ⟨bq,0,none⟩ (.iface 58 (.int .i64 (c:Int)))).drew=W2 at x y z |-;have I:=x.out;have J:=y.out;have K:=z.out;simp(config:={ zetaDelta:=true }) [Exit.inBlock,bodyPostS,results,Tryz.results58,I,J,K]
end Go.Proofs.YtjbfcadeapphbaaGreatDoor.Sx
namespace Go.Proofs.YtjbfcadeapphbaaGreatDoor.Sx
set_option maxRecDepth 100000
set_option maxHeartbeats 2000000
open Go.RowKit Go.Sort
theorem Lp (s:ByteArray)(w:World)(hs:s.size<=4000):Calls Tryz.prog 59 #[.string s] w fun e w'=>e=.returned (.string s)/\Below w.heap.size w w':=by
 have c:Hid (Calls _ _ _ _ _):=Tryz.stringslite_Clone s w (by omega);go_enter Tryz.func59,Tryz.ntmps59
 go_wp2_with (go_at_call 90;refine c.out.mono ?_;rintro e w' ⟨rfl,a⟩;have b:Hid (Below w.heap.size w w'):=a;clear a)
 go_ret
 exact⟨rfl,b.out⟩
theorem Fr.newer {P:Nat->Prop}{w w0 w':World}(h:Fr (fun _=>True) w w0)(f:Fr P w0 w')(hp:∀k,k<w.heap.size->P k):Fr (fun _=>True) w w' :=
 ⟨f.os.trans h.os,f.tape.trans h.tape,f.output.trans h.output,Nat.le_trans h.size f.size,fun k hk _=>(f.block k (Nat.lt_of_lt_of_le hk h.size) (hp k hk)).trans (h.block k hk trivial)⟩
def Ea (K:Nat->Tk)(f:Nat):RX PX:=bX (A3 K f 0 0 0) fun x j=>if (K j).cl=0 then okX x j else Ck 1 (K j).at'
def Eg (w:World)(r:Except (Nat×Nat) (PX×Nat))(e:Ending)(w':World):Prop :=
 Fr (fun _=>True) w w'/\match r with
  | .ok (x,_)=>∃v,e=.returned (.tuple #[v,.int .i64 0,.nilIface])/\Af (fun k=>w.heap.size<=k) w' x v
  | .error (c,p)=>e=.returned (.tuple #[.pointer none,.int .i64 (p:Int),.iface 58 (.int .i64 (c:Int))])
theorem Bl.at {w w':World}{br:Nat}(h:Bl w w.heap.size)(f:Fr (fun _=>True) w w')(hb:w.heap.size<=br):Bl w' br:=by
 obtain⟨j,a,⟨b,d,e⟩,k,c,g,i⟩:=h;exact⟨by omega,Nat.lt_of_lt_of_le a f.size,⟨b,(World.cell?_of_block (w:=w) (f.block 6 a trivial)).trans d,e⟩,by omega,c,(World.cell?_of_block (w:=w) (f.block 5 (by omega) trivial)).trans g,i⟩
theorem Xl (t:ByteArray)(w:World)(ht:t.size<=1000)(hI:Bl w w.heap.size)(f:Nat)(hf:f<=1000000)(r:Except (Nat×Nat) (PX×Nat))(h:Ea (tkF t.data.toList) f=some r) :
  Calls Tryz.prog 28 #[.string t,.int .i64 1000,.func (.func 29) #[] #[]] w (Eg w r):=by
 have a2:∀(fn:Fn)(first cap:Array Value)(w:World),(Instr.makeFunc fn first cap).run Tryz.prog w=.ok (.func fn first cap) w:=fun _ _ _ _=>rfl;have a3:¬(1000:Int)<(t.size:Int):=by omega
 have mo:=follows;have HI:Hid (Bl w w.heap.size):=hI;have HC:Hid (∀W:World,_):=fun W=>Lp t W (by omega);have d:Hid (((w.alloc (.cells #[.int .i64 0] 3)).alloc (.cells #[.nilIface] 23)).heap[w.heap.size]?=some (.cells #[.int .i64 0] 3 (0,0))):=by
  have h1:(w.alloc (.cells #[.int .i64 0] 3)).heap[w.heap.size]?=some (.cells #[.int .i64 0] 3 (0,0)):=Aj rfl;exact(((Fr.refl (fun _=>True) _).alloc _).block _ (Ab h1) trivial).trans h1
 have g:Hid (((w.alloc (.cells #[.int .i64 0] 3)).alloc (.cells #[.nilIface] 23)).heap[w.heap.size+1]?=some (.cells #[.nilIface] 23 (0,0))):=Aj (by simp);have l:Hid (Fr (fun _=>True) w ((w.alloc (.cells #[.int .i64 0] 3)).alloc (.cells #[.nilIface] 23))):=((Fr.refl _ w).alloc _).alloc _;clear hI;unfold Ea at h;go_enter_defers Tryz.func28,Tryz.ntmps28
 go_wp2_with fail
 generalize (w.alloc (.cells #[.int .i64 0] 3)).alloc (.cells #[.nilIface] 23)=w0 at d g l |-;obtain⟨a,K⟩:∃a,w.heap.size=a:=⟨_,rfl⟩;rw[K] at d g |-;have a4:w.heap.size<=a:=by omega
 clear K;refine(HC.out w0).mono ?_;rintro e G ⟨rfl,hb⟩;have C:=Ab d.out;have D:=Ab g.out;have o:Hid (Fr (fun _=>True) w0 G):=Fr.below hb;clear hb HC;have R:Hid (RdB (G.alloc (.cells #[.string t,.int .i64 0,.string ⟨#[]⟩,.int .i64 0,.int .i64 0] 123)) G.heap.size t 0 ⟨#[]⟩ 0 0):=Aj rfl;have s:Hid (Fr (fun _=>True) w0 (G.alloc (.cells #[.string t,.int .i64 0,.string ⟨#[]⟩,.int .i64 0,.int .i64 0] 123))):=o.out.alloc _;have V:=o.out.size;go_wp2_with fail
 generalize G.alloc (.cells #[.string t,.int .i64 0,.string ⟨#[]⟩,.int .i64 0,.int .i64 0] 123)=w2 at R s |-;obtain⟨i,L⟩:∃i,G.heap.size=i:=⟨_,rfl⟩;rw[L] at R V |-;clear L o;refine(Jc w2 i t ⟨#[]⟩ 0 0 0 0 R.out (by omega) rfl).mono ?_;rintro e H ⟨rfl,E,N⟩;have R3:Hid (RdF H i t 0 0):=E;have Q:Hid (Fr (fun k=>k≠i) w0 H):=(s.out.mono fun _ _=>trivial).trans N;clear E N R s;have I:Hid (Bl H i):=Bl.at HI.out (l.out.newer Q.out fun k hk=>by omega) (by omega);go_wp2_with fail
 rcases Aq h with⟨⟨c,p⟩,S,rfl⟩|⟨x,j,S,hk⟩
 ·refine(Aw (Hz i t (by omega) f hf) H 0 0 _ (by omega) I.out R3.out S).mono ?_;rintro e b ⟨m,rfl⟩;have n:Hid (Fr (fun k=>k≠i) w0 b):=Q.out.trans m;unfold Flt;refine leaves_cons (f:=58) (args:=#[.pointer (some ⟨a,0,none⟩),.pointer (some ⟨a+1,0,none⟩)]) (by simp) (by simp[go_sem]) ?_;refine(Nc a (a+1) _ _ b ((n.out.block a C (by omega)).trans d.out) ((n.out.block (a+1) D (by omega)).trans g.out) (by omega)).mono ?_;rintro e u' T ⟨rfl,rfl,Y,A,B⟩;have F:Eg w (.error (c,p)) (.returned (.tuple #[.pointer none,.int .i64 (p:Int),.iface 58 (.int .i64 (c:Int))])) T:=⟨(l.out.newer n.out fun k hk=>by omega).newer Y fun k hk=>by omega,rfl⟩;simpa [Leaves,settle,results,Tryz.results28,go_sem,A,B] using F
 refine(Aw (Hz i t (by omega) f hf) H 0 0 _ (by omega) I.out R3.out S).mono ?_;rintro e b ⟨m,⟨v,rfl,hv⟩,E⟩;have n:Hid (Fr (fun k=>k≠i) w0 b):=Q.out.trans m;have R4:Hid (RdF b i t j 0):=E;have T4:Hid (Af (fun k=>H.heap.size<=k) b x v):=hv;have M:(tkF t.data.toList j).cl=clF t.data.toList j:=rfl;have J:(tkF t.data.toList j).at'=atF t.data.toList j:=rfl;rw[M,J] at hk;have X:=Aa E 3;have a0:=Q.out.size;have a1:=m.size;have Z:Hid (Fr (fun _=>True) w b):=l.out.newer n.out fun k hk=>by omega
 have U:Hid (Calls _ _ _ _ _):=Ey b i t j 0 1 E;clear m hv E S M J;obtain⟨bx,rfl,-,-⟩:=T4.out.ptr;by_cases q:clF t.data.toList j=0
 ·rw[q] at X;rw[if_pos q] at hk;have HQ:Hid (r=.ok (x,j)):=by simp only[okX,Option.some.injEq] at hk;exact hk.symm
  have u:Hid (b.heap[a]?=_):=(n.out.block a C (by omega)).trans d.out;have y:Hid (b.heap[a+1]?=_):=(n.out.block (a+1) D (by omega)).trans g.out;have p0:=Aa u.out 0;have f0:=Ac u.out 0;have q0:=Aa y.out 0;have g0:=Ac y.out 0;clear hk q h;go_wp2_with fail
  have z:Fr (fun k=>k≠a/\k≠a+1) b ((b.setCell ⟨a,0,none⟩ (.int .i64 0)).setCell ⟨a+1,0,none⟩ .nilIface):=((Fr.refl _ b).set (by simp) _).set (by simp) _;have P:(b.setCell ⟨a,0,none⟩ (.int .i64 0)).heap[a+1]?=some (.cells #[.nilIface] 23 (0,0)):=(Below.heap_setCell _ _ _ (a+1) (by simp)).trans y.out;have O:(b.setCell ⟨a,0,none⟩ (.int .i64 0)).heap[a]?=some (.cells #[.int .i64 0] 3 (0,0)):=by have:=Ah u.out 0 (.int .i64 0);simpa using this
  have c0:((b.setCell ⟨a,0,none⟩ (.int .i64 0)).setCell ⟨a+1,0,none⟩ .nilIface).cell? ⟨a,0,none⟩=some (.int .i64 0):=Aa ((Below.heap_setCell _ ⟨a+1,0,none⟩ .nilIface a (by simp)).trans O) 0;have c1:((b.setCell ⟨a,0,none⟩ (.int .i64 0)).setCell ⟨a+1,0,none⟩ .nilIface).cell? ⟨a+1,0,none⟩=some .nilIface:=Aa (Ah P 0 .nilIface) 0;have F:Eg w (.ok (x,j)) (.returned (.tuple #[.pointer (some ⟨bx,0,none⟩),.int .i64 0,.nilIface])) ((b.setCell ⟨a,0,none⟩ (.int .i64 0)).setCell ⟨a+1,0,none⟩ .nilIface) :=
   ⟨Z.out.newer z fun k hk=>by omega,_,rfl,T4.out.fr (z.mono fun k q=>by omega) fun k _ q=>by omega⟩
  rw[HQ.out];clear O P z p0 f0 q0 g0 X;generalize (b.setCell ⟨a,0,none⟩ (.int .i64 0)).setCell ⟨a+1,0,none⟩ .nilIface=T at c0 c1 F |-;refine leaves_cons (f:=58) (args:=#[.pointer (some ⟨a,0,none⟩),.pointer (some ⟨a+1,0,none⟩)]) (by simp) (by simp[go_sem]) ?_;refine(Xk _ _ _).mono ?_;rintro e u' w6 ⟨rfl,rfl,hw⟩;cases hw
  simpa [Leaves,settle,results,Tryz.results28,go_sem,c0,c1] using F
 ·rw[if_neg q] at hk;obtain rfl:r=.error (1,atF t.data.toList j):=by simp only[Ck,Option.some.injEq] at hk;exact hk.symm
  obtain⟨c,hc⟩:∃c,clF t.data.toList j=c:=⟨_,rfl⟩;rw[hc] at X q;have g1:((c:Int) != 0)=true:=by simp;omega
  clear hk q hc h;go_wp2_with (go_at_call 61;refine U.out.mono ?_;rintro e w' ⟨rfl,hw⟩;cases hw;unfold Flt)
  refine leaves_cons (f:=58) (args:=#[.pointer (some ⟨a,0,none⟩),.pointer (some ⟨a+1,0,none⟩)]) (by simp) (by simp[go_sem]) ?_;refine(Nc a (a+1) _ _ b ((n.out.block a C (by omega)).trans d.out) ((n.out.block (a+1) D (by omega)).trans g.out) (by omega)).mono ?_;rintro e u' T ⟨rfl,rfl,Y,A,B⟩;have F:Eg w (.error (1,atF t.data.toList j)) (.returned (.tuple #[.pointer none,.int .i64 (atF t.data.toList j:Int),.iface 58 (.int .i64 ((1:Nat):Int))])) T:=⟨(l.out.newer n.out fun k hk=>by omega).newer Y fun k hk=>by omega,rfl⟩;simpa [Leaves,settle,results,Tryz.results28,go_sem,A,B] using F
theorem U3 (t:ByteArray)(w:World)(ht:1000<t.size)(hs:t.size<=9223372036854775807):Calls Tryz.prog 28 #[.string t,.int .i64 1000,.func (.func 29) #[] #[]] w (Eg w (.error (6,0))):=by
 have e:(1000:Int)<(t.size:Int):=by omega
 have f:=follows;go_enter_defers Tryz.func28,Tryz.ntmps28
 go_wp2_with fail
 have b:Eg w (.error (6,0)) (.returned (.tuple #[.pointer none,.int .i64 ((0:Nat):Int),.iface 58 (.int .i64 ((6:Nat):Int))])) ((w.alloc (.cells #[.int .i64 0] 3)).alloc (.cells #[.iface 58 (.int .i64 6)] 23)):=⟨((Fr.refl _ w).alloc _).alloc _,rfl⟩;have a:(w.alloc (.cells #[.int .i64 0] 3)).heap[w.heap.size]?=some (.cells #[.int .i64 0] 3 (0,0)):=Aj rfl;have c:((w.alloc (.cells #[.int .i64 0] 3)).alloc (.cells #[.iface 58 (.int .i64 6)] 23)).cell? ⟨w.heap.size,0,none⟩=some (.int .i64 0):=Aa ((((Fr.refl (fun _=>True) _).alloc _).block _ (Ab a) trivial).trans a) 0;have d:((w.alloc (.cells #[.int .i64 0] 3)).alloc (.cells #[.iface 58 (.int .i64 6)] 23)).cell? ⟨w.heap.size+1,0,none⟩=some (.iface 58 (.int .i64 6)):=Aa (Aj (by simp)) 0;clear a;generalize (w.alloc (.cells #[.int .i64 0] 3)).alloc (.cells #[.iface 58 (.int .i64 6)] 23)=w5 at c d b |-;simpa [bodyPostD,Leaves,settle,results,Tryz.results28,go_sem,c,d] using b
theorem Lq (t:ByteArray)(w:World)(r:Except (Nat×Nat) (PX×Nat))(HC:Hid (Calls Tryz.prog 28 #[.string t,.int .i64 1000,.func (.func 29) #[] #[]] w (Eg w r))) :
  Calls Tryz.prog 14 #[.string t] w (Eg w r):=by
 go_enter Tryz.func14,Tryz.ntmps14
 go_wp2_with fail
 refine HC.out.mono ?_;rintro e h ⟨a,g⟩;rcases r with⟨c,p⟩|⟨x,j⟩
 ·obtain rfl:=g;have b:Hid (Eg w (.error (c,p)) _ h):=⟨a,rfl⟩;clear a HC;go_wp2_with fail
  refine bodyPost_ret (v:=.tuple #[.pointer none,.int .i64 (p:Int),.iface 58 (.int .i64 (c:Int))]) (by simp[results,Tryz.results14,go_sem]) rfl b.out
 ·obtain⟨v,rfl,d⟩:=g;obtain⟨f,rfl,-,-⟩:=d.ptr;have b:Hid (Eg w (.ok (x,j)) (.returned (.tuple #[.pointer (some ⟨f,0,none⟩),.int .i64 0,.nilIface])) h):=⟨a,_,rfl,d⟩;clear a d HC;go_wp2_with fail
  refine bodyPost_ret (v:=.tuple #[.pointer (some ⟨f,0,none⟩),.int .i64 0,.nilIface]) (by simp[results,Tryz.results14,go_sem]) rfl b.out
end Go.Proofs.YtjbfcadeapphbaaGreatDoor.Sx
