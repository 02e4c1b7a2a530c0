/- The reference: flat. -/
import Derived.Test.YtdpeliifdlhhkaaGreatDoorM27
import Derived.Test.YtdpeliifdlhhkaaGreatDoorM24
namespace Go.Proofs.YtdpeliifdlhhkaaGreatDoor.Sx
open Go.RowKit Go.Sort Tryz
set_option maxRecDepth 100000
set_option maxHeartbeats 4000000
def Om (n:Nat)(e:AV (n+1)):Nat:=Ag.kind e
def Ez (n:Nat)(e:AV (n+1)):List (AV n):=Ag.keys e
theorem Zt {n:Nat}{es:List (AV (n+1))}{k:Nat}{e:AV (n+1)}(h:es[k]?=some e):(es.take (k+1)).flatMap (Ez n)=(es.take k).flatMap (Ez n)++Ez n e:=by
 rw[List.take_add_one,h,Option.toList_some,List.flatMap_append];simp
theorem Pz {n:Nat}(es:List (AV (n+1)))(k:Nat):((es.take k).flatMap (Ez n)).length<=(es.flatMap (Ez n)).length:=by
 have h:es.flatMap (Ez n)=(es.take k).flatMap (Ez n)++(es.drop k).flatMap (Ez n):=by rw[<- List.flatMap_append,List.take_append_drop]
 rw[h,List.length_append];omega
theorem pE (n:Nat)(P:Nat->Prop)(w:World)(x:Ag (AV (n+1)))(u:Value)(hx:Ref P w (n+2) x u)(z:AV (n+1))(hP:∀k,w.heap.size<=k->P k)(hl:(x.keys.flatMap (Ez n)).length<=1048576)(hW:∀t∈x.keys.flatMap (Ez n),Wgt n t)
  (H0:(∃e∈x.keys,Om n e≠5)->z=(Ar:Ag (AV n))) (H1:(∀e∈x.keys,Om n e=5)->z=(mkS (wt n) (Eo (Al n) (x.keys.flatMap (Ez n))):Ag (AV n))) :
  Calls prog 89 #[u] w (Aw P w (n+1) z):=by
 obtain⟨s,ka,B,kc,va,vl,vc,rfl,t1,r1,q1,cv⟩:=id hx;have mo:=follows;obtain⟨G0,A0,R0⟩:=jV w #[.int .i64 x.kind,.int .i64 x.int,.string s,.slice ka B kc,.slice va vl vc] #[.int .i64 0,.int .i64 0,.string ⟨#[]⟩,.slice none 0 0,.slice none 0 0] 30;have z0:((w.alloc (.cells #[.int .i64 x.kind,.int .i64 x.int,.string s,.slice ka B kc,.slice va vl vc] 30)).alloc (.cells #[.int .i64 0,.int .i64 0,.string ⟨#[]⟩,.slice none 0 0,.slice none 0 0] 30)).heap.size=w.heap.size+2:=by simp
 have X0:Hid (Bm (fun k=>P k/\k≠w.heap.size+1) _ (Ref (fun k=>P k/\k≠w.heap.size+1) _ (n+1)) ka B x.keys):=r1.fr (Fr.grew G0.out) (fun x v=>Ref.fr (Fr.grew G0.out) (fun k hk hp=>⟨hp,by omega⟩) (n+1) x v) (fun k hk hp=>⟨hp,by omega⟩);have E:Hid _:=H0;have F:Hid _:=H1;have HP:Hid _:=hP;have R:Hid _:=hW;have X:Hid (B=x.keys.length):=r1.1;have c9:B<=4294967296:=r1.2.1;clear hx H0 H1 hP hW t1 r1 q1 cv;go_enter func89,ntmps89
 go_wp2_with fail
 generalize (w.alloc _).alloc _=W0 at G0 A0 R0 X0 z0 |-;go_loopw [3,4] (fun l i wr=>∃k:Nat,k<=B/\i=.int .i64 k/\Hid (I5 (fun k=>P k/\k≠w.heap.size+1) W0 wr n (w.heap.size+2) ((x.keys.take k).flatMap (Ez n)) l)/\Hid (∀e∈x.keys.take k,Om n e=5)) (fun _ i _=>B-(intOf i).toNat)
 case atStart=>exact⟨0,Ae1 _,rfl,⟨⟨[],Ca _ _,rfl,by simp⟩,Below.refl _ _⟩,(by simp:∀e∈_,_=5)⟩
 case round =>
  obtain⟨k,hk,rfl,c,g⟩:=hrel;have A1:Hid _:=Ac1 c.out.low A0.out;have R1:Hid _:=Ac1 c.out.low R0.out;have L1:Hid _:=G0.out.below.trans (c.out.low.mono (by omega));have i3:=Ab A1.out 3;have za:=Aa A1.out;by_cases d5:k<B
  ·have a6:k<x.keys.length:=by have:=X.out;omega
   obtain⟨b,a0,a5,K,a4,U⟩:=X0.out.2.2.resolve_left (by omega);have j:=List.getElem?_eq_getElem a6;obtain⟨v,hf,M⟩:=U k x.keys[k] j;obtain⟨c0,c1,c2,c3,c4,rfl,d0,d1,d2,d3,d4⟩:=hf;obtain⟨sb,N,o,Z,b9,c6,c5,Y,-,C,-,-⟩:=id M;simp only[Value.agg.injEq,Array.mk.injEq,List.cons.injEq,and_true] at Y;obtain⟨rfl,rfl,rfl,rfl,rfl⟩:=Y;have f:Hid (_=_):=Zt (n:=n) j;have d:Hid _:=Ae4 j;have y:Hid (∀e∈x.keys.take (k+1),e∈x.keys.take k\/e=x.keys[k]):=by
    intro e he;rw[List.take_add_one,j,Option.toList_some,List.mem_append,List.mem_singleton] at he;exact he
   have G:Hid _:=Ae0 (Pz x.keys (k+1)) hl;subst a5;generalize x.keys[k]=e at M d0 d3 C f d y;have m0:=(c.out.low.cell (p:=⟨b,a0+k*5,none⟩) K).trans d0;have m3:=(c.out.low.cell (p:=⟨b,a0+k*5+3,none⟩) K).trans d3;have zv:=Ad8 K c.out.low.size;obtain⟨A,S2,V2⟩:=Jm C;have SW:Hid (Hl wr N o A):=S2.below c.out.low;have H:Hid (Are _ W0 n (Ez n e) A):=V2;have r:Hid (o=(Ez n e).length):=C.1;clear U a4 j M d0 d1 d2 d3 d4 C S2 V2;by_cases T:Ag.kind e=5
   ·have b5:(((Ag.kind e:Nat):Int)==5)=true:=by rw[T];rfl
    have a1:Hid (Om n e=5):=T;clear T;obtain⟨hs,O,D⟩:=c.out.own;have KV:Hid (Are _ W0 n _ hs):=D;obtain⟨L,I⟩:∃L,((x.keys.take k).flatMap (Ez n)).length=L:=⟨_,rfl⟩;have Q:Hid _:=I;rw[I] at O;have OW:Hid (wr.ownsRow _ 30 5 u3 L _):=O;have J:w.heap.size+2<=wr.heap.size:=by have:=c.out.low.size;omega
    have c8:L+o<=1048576:=by have:=G.out;rw[f.out,List.length_append,I] at this;have:=r.out;omega
    clear O D I;go_wp2_with (at_builtin;refine Az _ rfl _ _ rfl _ u3 _ hs rfl OW.out N o Z A rfl SW.out (by omega) J ?_)
    intro l4 w4 O V;have HN:Hid (I5 (fun k=>P k/\k≠w.heap.size+1) W0 w4 n (w.heap.size+2) ((x.keys.take (k+1)).flatMap (Ez n)) l4):=by
     refine⟨⟨hs++A,?_,?_⟩,B8 c.out.low (by omega) OW.out V⟩
     ·rw[f.out,List.length_append,<- r.out,Q.out];exact O
     ·rw[f.out];exact KV.out.app H.out
    have a2:Hid _:=fun e' he=>(y.out e' he).elim (g.out e') (fun q=>by rw[q];exact a1.out);clear O V OW KV H SW c g f y G r Q d A1 R1 L1 m0 m3;go_wp2_with fail
    go_roundw
    case rel=>exact⟨k+1,by omega,by go_num,HN,a2⟩
    case measure=>simp[intOf];omega
   ·have b5:(((Ag.kind e:Nat):Int)==5)=false:=by simp;omega
    have K0:Hid (∀W:World,Ref (fun k=>P k/\k≠w.heap.size+1) W (n+1) z Bk):=fun W=>by rw[E.out ⟨e,d.out,T⟩];exact Cm _ W n
    clear E F H SW f y G r d g T A1;obtain⟨HE,a8,a9,b0,b1,b2,b3,b4,b6,b7,b8,c7,XF⟩:=Bg R1.out (by omega) L1.out (K0.out wr);clear c;go_wp2_with fail
    obtain⟨k0,k1,k2,k3,k4⟩:=Ah XF.out;change bodyPost _ _ _ _ _ (Ao _ _ 0 _ _ _ _ _);exact Ae2 (by simp[results,results89,go_sem,k0,k1,k2,k3,k4]) rfl HE.out
  ·obtain rfl:k=B:=by omega
   have HT:Hid (x.keys.take k=x.keys):=by
    show _=_;rw[X.out];exact List.take_length
   rw[HT.out] at c g;obtain⟨L,I⟩:∃L,(x.keys.flatMap (Ez n)).length=L:=⟨_,rfl⟩;obtain⟨a,S,rfl,m⟩:=c.out.row (by omega) (fun k hk=>⟨HP.out k (by omega),by omega⟩);rw[I] at m |-;have a7:=c.out.low.size;have HN:Hid (Calls prog 44 #[.slice a L S] wr (Aw (fun k=>P k/\k≠w.heap.size+1) wr (n+1) z)):=by
    have:=G6 n _ wr a L S _ m (by omega) R.out;rw[F.out g.out];refine Calls.mono this ?_;intro e w' h;exact Ek (fun k hk=>⟨HP.out k (by omega),by omega⟩) h
   clear m R E F g c a7 HT X0 hl I;go_wp2_with fail
   refine HN.out.mono ?_;rintro e w5 ⟨t,rfl,hb,M⟩;obtain⟨d6,N,o,Z,b9,c6,c5,rfl,-,-,-,-⟩:=id M;have RZ:Hid _:=Ac1 hb R1.out;have LZ:Hid _:=(L1.out).trans (hb.mono (L1.out).size);have a3:Hid (Ref _ w5 (n+1) z _):=M;clear hb M;obtain⟨HE,a8,a9,b0,b1,b2,b3,b4,b6,b7,b8,c7,XF⟩:=Bg RZ.out (by omega) LZ.out a3.out;go_wp2_with fail
   obtain⟨k0,k1,k2,k3,k4⟩:=Ah XF.out;change bodyPost _ _ _ _ _ (Ao _ _ 0 _ _ _ _ _);exact Ae2 (by simp[results,results89,go_sem,k0,k1,k2,k3,k4]) rfl HE.out
def tE (i:Int):H5:=⟨.int .i64 2,.int .i64 i,.string ⟨#[]⟩,.slice none 0 0,.slice none 0 0,rfl,rfl,rfl,rfl,rfl⟩
def P1 (i:Int)(k:Nat):List H5:=(List.range k).map fun(t:Nat)=>tE (i+(t:Int))
theorem jW (i:Int)(k:Nat):P1 i (k+1)=P1 i k++[tE (i+(k:Int))]:=by
 unfold P1;rw[List.range_succ,List.map_append];rfl
theorem Pd (i:Int)(k:Nat):(P1 i k).length=k:=by simp[P1]
theorem pF (P:Nat->Prop)(w:World)(n:Nat)(i:Int)(k:Nat):Are P w (n+1) (Cs n i k) (P1 i k):=by
 refine⟨by rw[Pd,Fx],fun t x h hx hh=>?_⟩;have b:=by have:=(List.getElem?_eq_some_iff.1 hx).1;rw[Fx] at this;exact this
 rw[Tw n i k t b] at hx;obtain rfl:=Ae5 hx;have a:(P1 i k)[t]?=some (tE (i+(t:Int))):=by simp[P1,b]
 rw[a] at hh;obtain rfl:=Ae5 hh;exact O6 P w n _
theorem Jc {w:World}{base n:Nat}{sl:Value}{xs:List Value}(h:w.ownsRow base 30 5 sl n xs):∃a c,sl=.slice a n c:=by
 rcases h.2 with⟨rfl,rfl⟩|⟨g,b,d,rfl,_⟩
 ·exact⟨_,_,rfl⟩
 ·exact⟨_,_,rfl⟩
def tF (w wr:World)(i:Int)(k:Nat):Prop:=∃sl,wr.heap[w.heap.size+1]?=some (.cells #[.int .i64 5,.int .i64 0,.string ⟨#[]⟩,sl,.slice none 0 0] 30 (0,0))/\wr.ownsRow (w.heap.size+2) 30 5 sl k (Bi (P1 i k))/\wr.heap[w.heap.size]?=some (.cells #[.int .i64 0,.int .i64 0,.string ⟨#[]⟩,.slice none 0 0,.slice none 0 0] 30 (0,0))/\Below w.heap.size w wr
theorem jX (n:Nat)(P:Nat->Prop)(w:World)(i j:Int)(hij:i<=j)(hi:-9223372036854775808<=i/\i<=9223372036854775807)(hj:-9223372036854775808<=j/\j<=9223372036854775807)(hd:j-i<=1100)(hP:∀k,w.heap.size<=k->P k)(z:AV (n+2))(hz:z=(mkS (wt (n+1)) (Cs n i (Fd i j)):Ag (AV (n+1)))) :
  Calls prog 91 #[.int .i64 i,.int .i64 j] w (Aw P w (n+2) z):=by
 have mo:=follows;have HZ:Hid _:=hz;clear hz;have a1:decide (i > j)=false:=by simp;omega
 have hu:¬(1100:Int)<(j % 18446744073709551616-i % 18446744073709551616) % 18446744073709551616:=by omega
 go_enter func91,ntmps91
 go_wp2_with fail
 have S:Hid (tF w _ i 0):=⟨_,Af (by simp),Ca _ _,Ac1 ((Ac.refl _).alloc _).below (Af rfl),(((Ac.refl w).alloc _).alloc _).below⟩;generalize (w.alloc _).alloc _=W0 at S |-;have HN:Hid _:=fun i W=>Gq i W;go_loopw [6] (fun t wr=>∃k:Nat,(k:Int)<=j-i/\t=.int .i64 (i+(k:Int))/\Hid (tF w wr i k)) (fun t _=>(j-intOf t).toNat)
 case atStart=>exact⟨0,by omega,by simp,S⟩
 case round =>
  clear S;obtain⟨k,a2,rfl,HS⟩:=hrel;obtain⟨Z,L,p,m,o⟩:=HS.out;have V:Hid _:=L;have OW:Hid (wr.ownsRow _ 30 5 Z k _):=p;have BX:Hid (wr.heap[w.heap.size]?=_):=m;have Q:Hid (Below w.heap.size w wr):=o;clear L p m o HS;go_wp2_with fail
  refine(HN.out (i+(k:Int)) wr).mono ?_;rintro e r ⟨rfl,hg⟩;have G:Ac wr ((r.alloc (.cells #[.int .i64 2,.int .i64 (i+(k:Int)),.string ⟨#[]⟩,.slice none 0 0,.slice none 0 0] 30)).alloc (.cells #[.int .i64 2,.int .i64 (i+(k:Int)),.string ⟨#[]⟩,.slice none 0 0,.slice none 0 0] 30)):=(hg.alloc _).alloc _;have U:Hid _:=Ac1 G.below V.out;have N:Hid _:=Ac1 G.below BX.out;have C:Hid (((r.alloc (.cells #[.int .i64 2,.int .i64 (i+(k:Int)),.string ⟨#[]⟩,.slice none 0 0,.slice none 0 0] 30)).alloc (.cells #[.int .i64 2,.int .i64 (i+(k:Int)),.string ⟨#[]⟩,.slice none 0 0,.slice none 0 0] 30)).ownsRow _ 30 5 Z k _):=Bo OW.out (fun g _ hg=>G.below.block g hg);have LA:Hid _:=Q.out.trans (G.below.mono Q.out.size);have SA:Hid (Hl ((r.alloc (.cells #[.int .i64 2,.int .i64 (i+(k:Int)),.string ⟨#[]⟩,.slice none 0 0,.slice none 0 0] 30)).alloc (.cells #[.int .i64 2,.int .i64 (i+(k:Int)),.string ⟨#[]⟩,.slice none 0 0,.slice none 0 0] 30)) (some ⟨r.heap.size+1,0,none⟩) 1 [tE (i+(k:Int))]):=by
   have:=El (r.alloc (.cells #[.int .i64 2,.int .i64 (i+(k:Int)),.string ⟨#[]⟩,.slice none 0 0,.slice none 0 0] 30)) (tE (i+(k:Int)));have hz:(r.alloc (.cells #[.int .i64 2,.int .i64 (i+(k:Int)),.string ⟨#[]⟩,.slice none 0 0,.slice none 0 0] 30)).heap.size=r.heap.size+1:=by simp
   rw[hz] at this;exact this
  have v1:=Ac1 hg.below V.out;have v3:=Ab v1 3;have zv:=Aa v1;have c2:w.heap.size+2<=r.heap.size:=zv;clear v1 G hg V BX OW Q;go_wp2_with (at_builtin;refine Az _ rfl _ _ rfl _ Z k _ rfl C.out _ 1 1 _ rfl SA.out (by omega) ?q1 ?_)
  case q1=>first|omega|(simp;omega)
  intro l4 s ho f;have D:Hid _:=(Jn C.out f (by omega) (Aa U.out)).trans U.out;have B4:Hid _:=(Jn C.out f (by omega) (Aa N.out)).trans N.out;have L4:Hid _:=B8 LA.out (by omega) C.out f;have R:Hid (s.ownsRow (w.heap.size+2) 30 5 l4 (k+1) (Bi (P1 i (k+1)))):=by
   show s.ownsRow _ _ _ _ _ _;rw[jW];exact ho
  clear ho f U N C LA SA v3 zv;obtain⟨b,d,rfl⟩:∃a c,l4=.slice a (k+1) c:=Jc R.out;have E:Hid ((s.setCell ⟨w.heap.size+1,3,none⟩ (.slice b (k+1) d)).heap[_+1]?=some (.cells #[_,_,_,_,_] 30 (0,0))):=Ai D.out 3 _;have T:Hid (tF w (s.setCell ⟨w.heap.size+1,3,none⟩ (.slice b (k+1) d)) i (k+1)):=by
   have F:Fr (fun k=>k<_) w (s.setCell ⟨_+1,3,none⟩ (.slice b (k+1) d)):=(Fr.below L4.out).set (by show ¬w.heap.size+1<w.heap.size;omega) _;refine⟨_,E.out,Bo R.out (fun g hg _=>Below.heap_setCell _ _ _ _ (by simp;omega)),?_,⟨F.os,F.tape,F.output,F.size,fun i hi=>F.block i hi hi⟩⟩;exact(Below.heap_setCell _ _ _ _ (by simp)).trans B4.out
  have c3:=Ab D.out 3;have f3:=Ad D.out 3;have z4:=Aa D.out;by_cases he:i+(k:Int)=j
  ·have be:(i+(k:Int)==j)=true:=by simpa using he
   obtain⟨a0,A,u,H,J⟩:=T.out;rw[E.out] at A;obtain rfl:a0=.slice b (k+1) d:=by simpa using A.symm
   have I:k+1=Fd i j:=by unfold Fd;omega
   have l:=pF (fun k=>P k/\k≠w.heap.size) (s.setCell ⟨w.heap.size+1,3,none⟩ (.slice b (k+1) d)) n i (k+1);have v:=u;rw[<- Pd i (k+1)] at v;obtain⟨a',n',c',e',q⟩:=Bu (by rw[Pd] at v |-;exact u) l (by rw[Pd];omega) (Fr.refl _ _) (fun g hg=>⟨hP g (by omega),by omega⟩) (fun k _ h=>h);simp only[Value.slice.injEq] at e';obtain⟨rfl,rfl,rfl⟩:=e';have y:Ref _ _ (n+2) (Bt (Cs n i (k+1)):_) (.agg #[.int .i64 5,.int .i64 0,_,_,_]):=⟨⟨#[]⟩,b,k+1,d,none,0,0,rfl,rfl,q,B9 _ _ _ _,Ad9 _⟩;have B:wtR (n+2) (Bt (Cs n i (k+1)):_)=1+(k+1):=by
    show 1+wtL (wtR (n+1)) (Cs n i (k+1))+0=_;rw[Vf (wtR (n+1)) (Cs n i (k+1)) (fun x hx=>by obtain⟨t,_,rfl⟩:=List.mem_map.1 hx;rfl),Fx];omega
   have HL:Hid (Calls prog 85 #[.agg #[.int .i64 5,.int .i64 0,.string ⟨#[]⟩,.slice b (k+1) d,.slice none 0 0]] (s.setCell ⟨w.heap.size+1,3,none⟩ (.slice b (k+1) d)) (Aw (fun k=>P k/\k≠w.heap.size) (s.setCell ⟨w.heap.size+1,3,none⟩ (.slice b (k+1) d)) (n+2) z)):=by
    have K:=Lu (n+1) _ _ _ _ y (by rw[B];omega);rw[B] at K;refine K.mono ?_;rintro e w' ⟨rfl,hg⟩;rw[HZ.out,<- I];by_cases M:1+(k+1)<=1024
    ·rw[if_pos M];refine⟨_,rfl,hg.below,?_⟩;have:(mkS (wt (n+1)) (Cs n i (k+1)):_)=Bt (Cs n i (k+1)):=by unfold mkS;rw[if_pos (by rw[Jl];exact M)]
     rw[this];exact y.grew hg
    ·rw[if_neg M];refine⟨_,rfl,hg.below,?_⟩;have:(mkS (wt (n+1)) (Cs n i (k+1)):_)=Ar:=by unfold mkS;rw[if_neg (by rw[Jl];exact M)]
     rw[this];exact Cm _ _ _
   have R5:Hid _:=H;have L5:Hid _:=J;obtain⟨i0,i1,i2,i3,i4⟩:=Ah E.out;have c5:=Aa E.out;clear y B q l u v H J A T D B4 L4 R I;go_wp2_with fail
   refine HL.out.mono ?_;rintro e w6 ⟨t,rfl,X,Y⟩;obtain⟨b3,a5,a7,a6,b9,c1,c0,rfl,-,-,-,-⟩:=id Y;have RZ:Hid _:=Ac1 X R5.out;have LZ:Hid _:=(L5.out).trans (X.mono (L5.out).size);have O:Hid (Ref _ w6 (n+2) z _):=Y;clear X Y;obtain⟨HE,a8,a9,b0,b1,b2,b4,b5,b6,b7,b8,c6,XF⟩:=Bg RZ.out (by omega) LZ.out O.out;go_wp2_with fail
   obtain⟨k0,k1,k2,k3,k4⟩:=Ah XF.out;change bodyPost _ _ _ _ _ (Ao _ _ 0 _ _ _ _ _);exact Ae2 (by simp[results,results91,go_sem,k0,k1,k2,k3,k4]) rfl HE.out
  ·have be:(i+(k:Int)==j)=false:=by simpa using he
   have a3:wrap64 (i+(k:Int)+1)=i+((k+1:Nat):Int):=by unfold wrap64;omega
   clear E;go_wp2_with fail
   go_roundw
   case rel=>exact⟨k+1,by omega,by first|rfl|(simp;omega),T⟩
   case measure=>simp[intOf];omega
theorem pG (n:Nat)(P:Nat->Prop)(w:World)(i j:Int)(hi:-9223372036854775808<=i/\i<=9223372036854775807)(hj:-9223372036854775808<=j/\j<=9223372036854775807)(hP:∀k,w.heap.size<=k->P k)(z:AV (n+2))(hz:z=(mkS (wt (n+1)) (Cs n i (Fd i j)):Ag (AV (n+1)))) :
  Calls prog 91 #[.int .i64 i,.int .i64 j] w (Aw P w (n+2) z):=by
 by_cases e:i<=j
 ·by_cases h:j-i<=1100
  ·exact jX n P w i j e hi hj h hP z hz
  ·have a:z=(Ar:_):=by
    rw[hz];unfold mkS;rw[if_neg (by rw[Jl];unfold Fd;omega)]
   have d:decide (i > j)=false:=by simp;omega
   have l:(1100:Int)<(j % 18446744073709551616-i % 18446744073709551616) % 18446744073709551616:=by omega
   have b:Hid (Ac w ((w.alloc (.cells #[.int .i64 0,.int .i64 0,.string ⟨#[]⟩,.slice none 0 0,.slice none 0 0] 30)).alloc (.cells #[.int .i64 5,.int .i64 0,.string ⟨#[]⟩,.slice none 0 0,.slice none 0 0] 30))):=((Ac.refl w).alloc _).alloc _;have m:=follows;subst a;clear hz;go_enter func91,ntmps91
   go_wp2_with fail
   ·exact Ae2 (by simp[results,results91,go_sem,Bk]) rfl (Dj (n+1) b.out.below)
   ·rename_i hc
    exact absurd l (by rw[IntKind.wrap_u64,IntKind.wrap_u64,IntKind.wrap_u64] at hc;omega)
 ·have a:z=(Bt []:_):=by
   rw[hz];unfold mkS;rw[if_pos (by rw[Jl];unfold Fd;omega)];have:Fd i j=0:=by unfold Fd;omega
   rw[this];rfl
  have d:decide (i > j)=true:=by simp;omega
  obtain⟨b,o,p⟩:=jV w #[.int .i64 0,.int .i64 0,.string ⟨#[]⟩,.slice none 0 0,.slice none 0 0] #[.int .i64 5,.int .i64 0,.string ⟨#[]⟩,.slice none 0 0,.slice none 0 0] 30;have c:Hid (∀W,Ref (fun k=>P k/\k≠w.heap.size) W (n+2) z (.agg #[.int .i64 5,.int .i64 0,_,_,_])):=fun W=>by rw[a];exact⟨⟨#[]⟩,none,0,0,none,0,0,rfl,rfl,B9 _ _ _ _,B9 _ _ _ _,Ad9 _⟩
  have g:Hid (Aw P w (n+2) z _ _):=Kb (by omega) b.out.below (c.out _);have f:Ao ((w.alloc (.cells #[.int .i64 0,.int .i64 0,.string ⟨#[]⟩,.slice none 0 0,.slice none 0 0] 30)).alloc (.cells #[.int .i64 5,.int .i64 0,.string ⟨#[]⟩,.slice none 0 0,.slice none 0 0] 30)) (w.heap.size) 0 (.int .i64 5) (.int .i64 0) (.string ⟨#[]⟩) (.slice none 0 0) (.slice none 0 0)=((w.alloc (.cells #[.int .i64 5,.int .i64 0,.string ⟨#[]⟩,.slice none 0 0,.slice none 0 0] 30)).alloc (.cells #[.int .i64 5,.int .i64 0,.string ⟨#[]⟩,.slice none 0 0,.slice none 0 0] 30)):=by simp[Ao,go_sem]
  rw[f] at g;clear hz a hP f;have m:=follows;go_enter func91,ntmps91
  go_wp2_with fail
  exact Ae2 (by simp[results,results91,go_sem]) rfl g.out
theorem X6 (m n:Nat)(P:Nat->Prop)(w:World)(x y:Ag (AV m))(u v:Value)(hx:Ref P w (m+1) x u)(hy:Ref P w (m+1) y v)(hi:-9223372036854775808<=x.int/\x.int<=9223372036854775807)(hj:-9223372036854775808<=y.int/\y.int<=9223372036854775807)(hP:∀k,w.heap.size<=k->P k)(z:AV (n+2))
  (H0:¬(x.kind=2/\y.kind=2)->z=(Ar:Ag (AV (n+1)))) (H1:x.kind=2->y.kind=2->z=(mkS (wt (n+1)) (Cs n x.int (Fd x.int y.int)):Ag (AV (n+1)))) :
  Calls prog 50 #[.string ⟨#[46,46]⟩,u,v] w (Aw P w (n+2) z):=by
 obtain⟨s,L,Q,N,va,vl,vc,rfl,-,-,-,-⟩:=id hx;obtain⟨Y,i,l,j,o,q,p,rfl,-,-,-,-⟩:=id hy;clear hx hy;have mo:=follows;obtain⟨a,-,-,d⟩:=Qf w #[.int .i64 x.kind,.int .i64 x.int,.string s,.slice L Q N,.slice va vl vc] #[.int .i64 y.kind,.int .i64 y.int,.string Y,.slice i l j,.slice o q p] #[.int .i64 0,.int .i64 0,.string ⟨#[]⟩,.slice none 0 0,.slice none 0 0] 30;have b:Hid (x.kind=2->y.kind=2->∀W,Ac w W->w.heap.size+1+1<W.heap.size->Calls _ 91 #[_,_] W (Aw (fun k=>P k/\k≠w.heap.size+1+1) W (n+2) z)):=fun h1 h2 W hW hlt=>pG n _ W x.int y.int hi hj (fun k hk=>⟨hP k (by have:=hW.below.size;omega),by omega⟩) z (H1 h1 h2);by_cases h1:x.kind=2
 ·have E:(((x.kind:Nat):Int)==2)=true:=by rw[h1];rfl
  by_cases h2:y.kind=2
  ·have F:(((y.kind:Nat):Int)==2)=true:=by rw[h2];rfl
   have A:Hid _:=b.out h1 h2;clear b H0 H1 h1 h2 hi hj hP;go_enter func50,ntmps50
   go_wp2_with fail
   generalize ((w.alloc _).alloc _).alloc _=W0 at a d |-;have zz:=Aa d.out;refine(A.out W0 a.out zz).mono ?_;rintro e w5 ⟨t,rfl,f,g⟩;obtain⟨Z,M,R,O,a5,a7,a6,rfl,-,-,-,-⟩:=id g;have C:Hid _:=Ac1 f d.out;have B:Hid _:=(a.out.below).trans (f.mono (a.out.below).size);have c:Hid (Ref _ w5 (n+2) z _):=g;clear f g;obtain⟨r,S,T,U,V,X,a0,a1,a2,a3,a4,a8,D⟩:=Bg C.out (by omega) B.out c.out;go_wp2_with fail
   obtain⟨G,H,I,J,K⟩:=Ah D.out;change bodyPost _ _ _ _ _ (Ao _ _ 0 _ _ _ _ _);exact Ae2 (by simp[results,results50,go_sem,G,H,I,J,K]) rfl r.out
  ·have F:(((y.kind:Nat):Int)==2)=false:=by simp;omega
   obtain rfl:=H0 (fun h=>h2 h.2);clear b H0 H1 h1 h2 hi hj hP;go_enter func50,ntmps50
   go_wp2_with fail
   exact Ae2 (by simp[results,results50,go_sem,Bk]) rfl (Dj (n+1) a.out.below)
 ·have E:(((x.kind:Nat):Int)==2)=false:=by simp;omega
  obtain rfl:=H0 (fun h=>h1 h.1);clear b H0 H1 h1 hi hj hP;go_enter func50,ntmps50
  go_wp2_with fail
  exact Ae2 (by simp[results,results50,go_sem,Bk]) rfl (Dj (n+1) a.out.below)
end Go.Proofs.YtdpeliifdlhhkaaGreatDoor.Sx
