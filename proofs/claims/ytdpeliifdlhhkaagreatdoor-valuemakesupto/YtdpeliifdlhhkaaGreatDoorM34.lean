/- The reference: all sequences. -/
import Derived.Test.YtdpeliifdlhhkaaGreatDoorM33
namespace Go.Proofs.YtdpeliifdlhhkaaGreatDoor.Sx
open Go.RowKit Go.Sort Tryz
set_option maxRecDepth 100000
set_option maxHeartbeats 8000000
theorem pI {Q:Nat->Prop}{w:World}{n len c:Nat}{row:List (AV n)}{a:Option Addr}(h:H7 Q w n row (.slice a len c)):Bm Q w (Ref Q w n) a len row:=by
 obtain⟨d,f,e,_,b⟩:=h;simp only[Value.slice.injEq] at e;obtain⟨rfl,rfl,rfl⟩:=e;exact b
theorem Uh (n m:Nat)(P:Nat->Prop)(w:World)(x:Ag (AV (n+1)))(y:Ag (AV m))(u v:Value)(hx:Ref P w (n+2) x u)(hy:Ref P w (m+1) y v)(hP:∀k,w.heap.size<=k->P k)(hA:Asc (Al (n+1)) x.keys)(hl:x.keys.length<=1024)(hW:∀t∈x.keys,Wgt (n+1) t)(h1:x.kind=5)(h2:y.kind=2)(N:Nat)(hN:y.int=(N:Int))(hN9:N<=9223372036854775807)(z:AV (n+3))(hz:z=(Jh n x.keys N:Ag (AV (n+2)))) :
  Calls prog 52 #[u,v] w (Aw P w (n+3) z):=by
 obtain⟨s,ka,kl,kc,va,vl,vc,rfl,-,r1,-,-⟩:=id hx;obtain⟨s',b6,b8,b7,c1,c3,c2,rfl,-,-,-,-⟩:=id hy;have j8:Hid (Bm P w _ ka kl x.keys):=r1;have a2:Hid (kl=x.keys.length):=r1.1;have l6:kl<=1024:=by rw[r1.1];exact hl
 have HP:Hid _:=hP;have HA:Hid (Asc (Al (n+1)) x.keys):=hA;have HW:Hid _:=hW;have HZ:Hid _:=hz;have n0:¬((N:Int)<0):=by omega
 rw[h1,h2,hN];generalize x.int=xi;generalize x.keys=es at j8 a2 HA HW HZ;clear hx hy hP hA hl hW hz h1 h2 hN r1;have mo:=follows;go_enter func52,ntmps52
 go_wp2_with fail
 obtain⟨i0,o8,q2,q7,q8⟩:=info_parts eX;have p9:prog.underlying 147=some (.slice 28):=by kernel_rfl
 have A0:Hid ((((w.alloc (.cells #[.int .i64 5,.int .i64 xi,.string s,.slice ka kl kc,.slice va vl vc] 30)).alloc (.cells #[.int .i64 2,.int .i64 N,.string s',.slice b6 b8 b7,.slice c1 c3 c2] 30)).alloc (.cells #[.int .i64 0,.int .i64 0,.string ⟨#[]⟩,.slice none 0 0,.slice none 0 0] 30)).heap[w.heap.size]?=_):=Ac1 (((Ac.refl _).alloc _).alloc _).below (Af rfl);have B0:Hid ((((w.alloc (.cells #[.int .i64 5,.int .i64 xi,.string s,.slice ka kl kc,.slice va vl vc] 30)).alloc (.cells #[.int .i64 2,.int .i64 N,.string s',.slice b6 b8 b7,.slice c1 c3 c2] 30)).alloc (.cells #[.int .i64 0,.int .i64 0,.string ⟨#[]⟩,.slice none 0 0,.slice none 0 0] 30)).heap[w.heap.size+1]?=_):=Ac1 ((Ac.refl _).alloc _).below (Af (by simp));have R0:Hid ((((w.alloc (.cells #[.int .i64 5,.int .i64 xi,.string s,.slice ka kl kc,.slice va vl vc] 30)).alloc (.cells #[.int .i64 2,.int .i64 N,.string s',.slice b6 b8 b7,.slice c1 c3 c2] 30)).alloc (.cells #[.int .i64 0,.int .i64 0,.string ⟨#[]⟩,.slice none 0 0,.slice none 0 0] 30)).heap[w.heap.size+1+1]?=_):=Af (by simp);have L0:Hid (Below _ w (((w.alloc (.cells #[.int .i64 5,.int .i64 xi,.string s,.slice ka kl kc,.slice va vl vc] 30)).alloc (.cells #[.int .i64 2,.int .i64 N,.string s',.slice b6 b8 b7,.slice c1 c3 c2] 30)).alloc (.cells #[.int .i64 0,.int .i64 0,.string ⟨#[]⟩,.slice none 0 0,.slice none 0 0] 30))):=((((Ac.refl w).alloc _).alloc _).alloc _).below;have z0:(((w.alloc (.cells #[.int .i64 5,.int .i64 xi,.string s,.slice ka kl kc,.slice va vl vc] 30)).alloc (.cells #[.int .i64 2,.int .i64 N,.string s',.slice b6 b8 b7,.slice c1 c3 c2] 30)).alloc (.cells #[.int .i64 0,.int .i64 0,.string ⟨#[]⟩,.slice none 0 0,.slice none 0 0] 30)).heap.size=w.heap.size+3:=by simp
 generalize ((w.alloc _).alloc _).alloc _=WA at A0 B0 R0 L0 z0 |-;have n5:w.heap.size+1+1+1=WA.heap.size:=by omega
 rw[n5];have GA:Ac WA (((WA.alloc (.cells #[] 30)).alloc (.cells #[.slice (some ⟨WA.heap.size,0,none⟩) 0 0] 28)).alloc (.cells #[.int .i64 6,.int .i64 0,.string ⟨#[]⟩,.slice none 0 0,.slice none 0 0] 30)):=(((Ac.refl WA).alloc _).alloc _).alloc _;have l0:((WA.alloc (.cells #[] 30)).alloc (.cells #[.slice (some ⟨WA.heap.size,0,none⟩) 0 0] 28)).heap.size=WA.heap.size+1+1:=by simp
 have m7:(((WA.alloc (.cells #[] 30)).alloc (.cells #[.slice (some ⟨WA.heap.size,0,none⟩) 0 0] 28)).alloc (.cells #[.int .i64 6,.int .i64 0,.string ⟨#[]⟩,.slice none 0 0,.slice none 0 0] 30)).heap[_+1+1]?=_:=Af l0;have m6:(((WA.alloc (.cells #[] 30)).alloc (.cells #[.slice (some ⟨WA.heap.size,0,none⟩) 0 0] 28)).alloc (.cells #[.int .i64 6,.int .i64 0,.string ⟨#[]⟩,.slice none 0 0,.slice none 0 0] 30)).heap[WA.heap.size+1]?=_:=Ac1 ((Ac.refl _).alloc _).below (Af (by simp));have S0:Hid (Jo (fun q=>P q/\q≠w.heap.size+1+1) WA (((WA.alloc (.cells #[] 30)).alloc (.cells #[.slice (some ⟨WA.heap.size,0,none⟩) 0 0] 28)).alloc (.cells #[.int .i64 6,.int .i64 0,.string ⟨#[]⟩,.slice none 0 0,.slice none 0 0] 30)) (n+1) WA.heap.size (B7 n es 0) (.slice (some ⟨WA.heap.size+1+1,0,none⟩) 1 1)):=by
  have e0:B7 n es 0=[fnA (n+1) (Aq n 0) []]:=by simp[B7,Ak]
  rw[e0];refine⟨⟨[⟨_,_,_,_,_,rfl,rfl,rfl,rfl,rfl⟩],⟨rfl,.inr ⟨_+1+1,1,_,rfl,by omega,m7,Ad9 _,by decide,rfl,rfl⟩⟩,?_⟩,GA.below⟩;exact Are.one ⟨_,none,0,0,none,0,0,rfl,rfl,B9 _ _ _ _,B9 _ _ _ _,Ad9 _⟩
 have Q0:Hid (Hb (fun q=>(fun q=>P q/\q≠w.heap.size+1+1) q/\some q≠(Value.slice (some ⟨WA.heap.size+1+1,0,none⟩) 1 1).ownBlock) _ (n+1) _ _):=T8 es m6 ⟨⟨HP.out _ (by omega),by omega⟩,by simp[Value.ownBlock]⟩;have j9:Hid (Kh n es 0):=by
  intro k hk r hr;obtain rfl:k=0:=by omega
  simp[Ak] at hr;subst hr;simp[Aq,wtL]
 have k6:Hid ((B7 n es 0).length<=2048):=by
  have e0:B7 n es 0=[fnA (n+1) (Aq n 0) []]:=by simp[B7,Ak]
  show _<=_;rw[e0];simp
 have t7:WA.heap.size<=w.heap.size+3:=by omega
 have t8:w.heap.size+3<=WA.heap.size:=by omega
 clear GA l0 m6 m7 z0 n5;generalize ((WA.alloc (.cells #[] 30)).alloc (.cells #[.slice (some ⟨WA.heap.size,0,none⟩) 0 0] 28)).alloc _=W0 at S0 Q0 |-;go_loopw [5,6,7,8] (fun rs l i _ wr=>∃(k r c:Nat)(a:Option Addr),k<=N/\i=.int .i64 k/\rs=.slice a r c/\r<=1024/\Hid (r=(Ak es k).length)/\Hid (Hb (fun q=>(fun q=>P q/\q≠w.heap.size+1+1) q/\some q≠l.ownBlock) wr (n+1) (Ak es k) a)/\Hid (Jo (fun q=>P q/\q≠w.heap.size+1+1) WA wr (n+1) WA.heap.size (B7 n es k) l)/\Hid (Kh n es k)/\Hid ((B7 n es k).length<=2048)) (fun _ _ i _ _=>N-(intOf i).toNat)
 case atStart=>exact⟨0,1,1,_,Ae1 _,rfl,rfl,by omega,rfl,Q0,S0,j9,k6⟩
 case round =>
  clear S0 Q0 j9 k6;obtain⟨k,r,c,a,hk,rfl,rfl,p6,S,a6,HG,X,j5⟩:=hrel;have A1:Hid _:=Ac1 HG.out.low A0.out;have B1:Hid _:=Ac1 HG.out.low B0.out;have X1:Hid _:=Ac1 HG.out.low R0.out;have LW:Hid _:=L0.out.trans (HG.out.low.mono (by omega));have i3:=Ab A1.out 3;have za:=Aa A1.out;have i1:=Ab B1.out 1;have zb:=Aa B1.out;obtain⟨L,hL⟩:∃L,(B7 n es k).length=L:=⟨_,rfl⟩;have O:Hid ((B7 n es k).length=L):=hL;have t0:L<=2048:=by rw[<- hL];exact j5.out
  obtain⟨al,cl,p7⟩:∃a cc,u6=.slice a L cc:=by
   obtain⟨hs,ho,_⟩:=HG.out.own;rw[hL] at ho;exact Jc ho
  subst p7;clear hL j5;by_cases o7:k<N/\0<r
  ·obtain⟨p4,s3⟩:=o7;have p2:(k:Int)<(N:Int):=by omega
   have p5:(0:Int)<(r:Int):=by omega
   obtain⟨m',hm⟩:∃m,r*kl=m:=⟨_,rfl⟩;have t5:m'<=1048576:=by rw[<- hm];exact Nat.mul_le_mul p6 l6
   have c5:Hid (wrap64 ((r:Int)*(kl:Int))=(m':Int)):=by
    show _=_;rw[<- Int.natCast_mul,hm];unfold wrap64;omega
   have a5:Hid (r*kl=m'):=hm;clear hm;by_cases o1:m'<=1024
   ·have h4:¬(1024:Int)<(m':Int):=by omega
    by_cases s2:L<=1024
    ·have h5:¬(1024:Int)<(L:Int):=by omega
     have t4:k<=1024:=by
      by_cases he:0<es.length
      ·have:=Nx n he k;have:=O.out;omega
      ·have e0:es=[]:=List.length_eq_zero_iff.1 (by omega);cases k with
       | zero=>omega
       | succ k =>
        have:=S.out;rw[e0,Tb] at this;simp at this;omega
     obtain⟨W1,o4⟩:∃W1,W1=wr:=⟨_,rfl⟩;subst o4;obtain⟨l1,c6⟩:∃l1,l1=Value.slice al L cl:=⟨_,rfl⟩;have T0:Hid (Hc (fun q=>P q/\q≠w.heap.size+1+1) W1 W1 n WA.heap.size l1 [] (.slice none 0 0) (B7 n es k) (.slice al L cl)):=by
      rw[c6];exact Hc.start HG.out
     have c4:Hid (∀g,l1.ownBlock=some g->WA.heap.size<=g):=by
      rw[c6];obtain⟨hs,ho,_⟩:=HG.out.own;exact fun g hg=>(Cp ho hg).1
     have f0:Hid (Hb (fun q=>(fun q=>P q/\q≠w.heap.size+1+1) q/\some q≠l1.ownBlock) W1 (n+1) (Ak es k) a):=by
      rw[c6];exact a6.out
     have a1:Hid _:=HG.out.low;have s4:w.heap.size+3<=W1.heap.size:=by have:=HG.out.low.size;omega
     clear a6 HG;clear c6;have hw:=c5.out;go_wp2_with fail
     clear hw;go_loopw [6,8,9] (fun l mo i wr=>∃F:Nat,F<=r/\i=.int .i64 F/\Hid (Hc (fun q=>P q/\q≠w.heap.size+1+1) W1 wr n WA.heap.size l1 (Bb ((Ak es k).take F) es) mo (B7 n es k++(Bb ((Ak es k).take F) es).map (fnA (n+1) (Aq n (k+1)))) l)/\Hid (Qn (n+1) (Aq n (k+1)) (Bb ((Ak es k).take F) es))) (fun _ _ i _=>r-(intOf i).toNat)
     case atStart=>exact⟨0,Ae1 _,rfl,by simpa [Bb] using T0,fun r hr=>by simp[Bb] at hr⟩
     case round =>
      clear T0;obtain⟨F,t3,rfl,J,H⟩:=hrel;by_cases m5:F<r
      ·have l8:F<(Ak es k).length:=by rw[<- S.out];exact m5
       obtain⟨p0,o0,o5,f3,k7,l2⟩:=f0.out.resolve_left (by omega);subst o5;obtain⟨f,T⟩:∃x,(Ak es k)[F]?=some x:=⟨_,List.getElem?_eq_getElem l8⟩;obtain⟨v0,g7,a',c',rfl,o6,b2⟩:=l2 F f T;have g5:=Co k f (Ae4 T);rw[g5] at g7 b2;have e8:Hid (Bm (fun q=>(fun q=>P q/\q≠w.heap.size+1+1) q/\some q≠_) W1 (Ref (fun q=>(fun q=>P q/\q≠w.heap.size+1+1) q/\some q≠_) W1 (n+1)) a' k f):=b2;have f9:Hid (f.length=k):=g5;have f4:Hid _:=T;have j7:Hid _:=g7;have i8:Hid (some p0≠l1.ownBlock):=k7.2;have j6:Hid (Hc (fun q=>P q/\q≠w.heap.size+1+1) W1 wr n WA.heap.size l1 (Bb ((Ak es k).take F) es++(es.take 0).map (fun x=>f++[x])) u8 (B7 n es k++(Bb ((Ak es k).take F) es++(es.take 0).map (fun x=>f++[x])).map (fnA (n+1) (Aq n (k+1)))) u6):=by
        show Hc _ _ _ _ _ _ _ _ _ _;rw[List.take_zero,List.map_nil,List.append_nil];exact J.out
       have e7:Hid (Qn (n+1) (Aq n (k+1)) (Bb ((Ak es k).take F) es++(es.take 0).map (fun x=>f++[x]))):=by
        show Qn _ _ _;rw[List.take_zero,List.map_nil,List.append_nil];exact H.out
       clear l2 g7 T o6 b2 g5 J H k7;go_wp2_with fail
       go_loopw [6,8,10,11] (fun l mo i _ wr=>∃j:Nat,j<=kl/\i=.int .i64 j/\Hid (Hc (fun q=>P q/\q≠w.heap.size+1+1) W1 wr n WA.heap.size l1 (Bb ((Ak es k).take F) es++(es.take j).map (fun x=>f++[x])) mo (B7 n es k++(Bb ((Ak es k).take F) es++(es.take j).map (fun x=>f++[x])).map (fnA (n+1) (Aq n (k+1)))) l)/\Hid (Qn (n+1) (Aq n (k+1)) (Bb ((Ak es k).take F) es++(es.take j).map (fun x=>f++[x])))) (fun _ _ i _ _=>kl-(intOf i).toNat)
       case atStart=>exact⟨0,Ae1 _,rfl,j6,e7⟩
       case round =>
        clear j6 e7;obtain⟨j,hj,rfl,J,H⟩:=hrel;have V:Hid _:=J.out.low a1.out c4.out;have A2:Hid _:=Ac1 V.out A0.out;have j3:=Ab A2.out 3;have zc:=Aa A2.out;by_cases p1:j<kl
        ·have o9:j<es.length:=by rw[<- a2.out];exact p1
         obtain⟨b,c0,p3,a3,o3,l3⟩:=j8.out.2.2.resolve_left (by omega);subst p3;obtain⟨e,T⟩:∃x,es[j]?=some x:=⟨_,List.getElem?_eq_getElem o9⟩;obtain⟨v,hf,hr⟩:=l3 j e T;obtain⟨s5,s6,s7,s8,s9,rfl,d0,d1,d2,d3,d4⟩:=hf;obtain⟨h8,g9,h7,h6,h9,i4,i2,n3,-,-,-,-⟩:=id hr;simp only[Value.agg.injEq,Array.mk.injEq,List.cons.injEq,and_true] at n3;obtain⟨rfl,rfl,rfl,rfl,rfl⟩:=n3;have g2:=L0.out.trans (V.out.mono (by omega));have a7:∀g,_=some g->_<=g/\g<_:=fun g hg=>J.out.ltR hg;have g3:∀g,_=some g->_<=g/\g<_:=fun g hg=>J.out.ltS hg;have g6:=J.out.fr.size;have j0:Hid (Ref (fun q=>(P q/\q≠w.heap.size+1+1)/\some q≠_/\some q≠_) wr (n+1) e (⟨.int .i64 e.kind,.int .i64 e.int,.string h8,.slice g9 h7 h6,.slice h9 i4 i2,rfl,rfl,rfl,rfl,rfl⟩:H5).v):=hr.fr (Fr.below g2) (fun q hq hp=>⟨⟨hp,by omega⟩,fun h=>by have:=(a7 q h.symm).1;omega,fun h=>by have:=(g3 q h.symm).1;omega⟩) _ _ _;have n1:Bm (fun q=>_/\some q≠_/\some q≠u6.ownBlock) wr (Ref (fun q=>_/\some q≠_/\some q≠u6.ownBlock) wr (n+1)) a' k f:=e8.out.fr (J.out.fr.mono (fun q hq=>hq.2)) (fun x v=>Ref.fr (J.out.fr.mono (fun q hq=>hq.2)) (fun q hq hp=>⟨hp.1,fun h=>by have:=(a7 q h.symm).1;omega,fun h=>by
          rcases J.out.at1 with e1|e1
          ·rw[e1] at h;exact hp.2 h
          ·have:=e1 q h.symm;omega⟩) (n+1) x v) (fun q hq hp=>⟨hp.1,fun h=>by have:=(a7 q h.symm).1;omega,fun h=>by
          rcases J.out.at1 with e1|e1
          ·rw[e1] at h;exact hp.2 h
          ·have:=e1 q h.symm;omega⟩)
         obtain⟨c7,k5,i5⟩:=Jm n1;have SP:Hid (Hl wr a' k c7):=k5;have i7:Hid (Are _ wr (n+1) f c7):=i5;have Q:Hid ((Bb ((Ak es k).take F) es++(es.take (j+1)).map (fun x=>f++[x]))=(Bb ((Ak es k).take F) es++(es.take j).map (fun x=>f++[x]))++[f++[e]]):=by
          show _=_;rw[List.take_add_one,T];simp
         have f8:Hid (f++[e]∈Ak es (k+1)):=by
          show _∈(Ak es k).flatMap _;exact List.mem_flatMap.2 ⟨f,Ae4 f4.out,List.mem_map.2 ⟨e,Ae4 T,rfl⟩⟩
         have o2:(Bb ((Ak es k).take F) es++(es.take j).map (fun x=>f++[x])).length<=2097152:=by
          rw[List.length_append,M3,List.length_map];have h1:((Ak es k).take F).length<=1024:=by rw[List.length_take];omega
          have h2:es.length<=1024:=by rw[<- a2.out];exact l6
          have h3:=Nat.mul_le_mul h1 h2;have h5:(es.take j).length<=1024:=by rw[List.length_take];omega
          omega
         generalize (_++(es.take j).map _)=acc at J Q o2 H;have t1:(B7 n es k++acc.map (fnA (n+1) (Aq n (k+1)))).length<=4194304:=by
          rw[List.length_append,List.length_map,O.out];omega
         have g0:=(World.cell?_of_block (a:=⟨p0,o0+F,none⟩) (J.out.fr.block p0 f3 i8.out)).trans j7.out;have s0:=Ad8 f3 g6;have D0:Hid _:=d0;have D1:Hid _:=d1;have D2:Hid _:=d2;have D3:Hid _:=d3;have D4:Hid _:=d4;have f7:Hid (Below w.heap.size w wr):=g2;have j4:Hid _:=g3;have i9:Hid _:=a7;clear l3 o3 T hr d0 d1 d2 d3 d4 g2 n1 k5 i5 g3 a7;go_wp2_with (at_builtin;refine Az _ rfl _ _ rfl _ (.slice none 0 0) 0 [] rfl (Ca _ _) a' k c' c7 rfl SP.out (by omega) (Ad9 _) ?_)
         intro x1 w2 n4 U;have B2:Hid (Below _ wr w2):=⟨U.os,U.tape,U.output,U.size,fun q hq=>U.block q hq (by simp[Value.ownBlock])⟩;have O2:Hid ((w2.alloc (.cells #[.int .i64 e.kind,.int .i64 e.int,.string h8,.slice g9 h7 h6,.slice h9 i4 i2] 30)).ownsRow _ 30 5 x1 k _):=Bo (show _ by simpa using n4) (fun g _ hg=>(((Ac.refl w2).alloc _).below).block g hg);have S2:Hid (Hl (w2.alloc (.cells #[.int .i64 e.kind,.int .i64 e.int,.string h8,.slice g9 h7 h6,.slice h9 i4 i2] 30)) _ 1 [(⟨_,_,_,_,_,rfl,rfl,rfl,rfl,rfl⟩:H5)]):=El w2 _;have a0:=f7.out.trans (B2.out.mono f7.out.size);have m0:=(a0.cell (p:=⟨b,c0+j*5,none⟩) a3).trans D0.out;have m1:=(a0.cell (p:=⟨b,c0+j*5+1,none⟩) a3).trans D1.out;have m2:=(a0.cell (p:=⟨b,c0+j*5+2,none⟩) a3).trans D2.out;have m3:=(a0.cell (p:=⟨b,c0+j*5+3,none⟩) a3).trans D3.out;have m4:=(a0.cell (p:=⟨b,c0+j*5+4,none⟩) a3).trans D4.out;have r9:=Ad8 a3 a0.size;have q0:=B2.out.size;have A3:Hid _:=Ac1 B2.out A2.out;have q9:=Ab A3.out 3;have s1:=Aa A3.out;clear n4 U a0 SP g0 s0 j3 zc;go_wp2_with (at_builtin;refine Az _ rfl _ _ rfl _ x1 k c7 rfl O2.out _ 1 1 _ rfl S2.out (by omega) ?q1 ?_)
         case q1=>first|omega|(simp;omega)
         intro x2 w3 g8 U;have B3:Hid _:=B8 (B2.out.trans ((((Ac.refl w2).alloc _).below).mono B2.out.size)) (Ad9 _) O2.out U;obtain⟨a9,c9,rfl⟩:∃a cc,x2=.slice a (k+1) cc:=Jc g8;have IR:=T9 i7.out j0.out f9.out (by omega) (Below.refl _ _) B3.out g8 (fun _ _ h=>h) (fun q hq=>⟨⟨HP.out q (by have:=f7.out.size;omega),by have:=V.out.size;omega⟩,fun h=>by have:=(i9.out q h.symm).2;omega,fun h=>by have:=(j4.out q h.symm).2;omega⟩);have BV:Below _ wr (w3.alloc (.cells #[.slice a9 (k+1) c9] 28)):=B3.out.trans ((((Ac.refl w3).alloc _).below).mono B3.out.size);have f5:Hid (H7 _ (w3.alloc (.cells #[.slice a9 (k+1) c9] 28)) (n+1) _ _):=IR.fr (Fr.grew ((Ac.refl w3).alloc _)) (fun _ _ h=>h);have TK:Hid _:=J.out.keep BV;obtain⟨vs,m9,k9⟩:=TK.out.ro;have OV:Hid ((w3.alloc (.cells #[.slice a9 (k+1) c9] 28)).ownsRow _ 28 1 u8 _ vs):=m9;have i6:Hid (Nh _ _ (n+1) acc vs):=k9;have SV:Hid (Src (w3.alloc (.cells #[_] 28)) _ 1 [.slice a9 (k+1) c9]):=Pe w3 _ _ rfl;have t2:=Ae0 g6 B3.out.size;clear g8 U IR BV m9 k9 O2 S2 m0 m1 m2 m3 m4 r9 B2 B3 J D0 D1 D2 D3 D4 j0 i7 A3 q9 s1 i9 j4 A2 V q0 g6;go_wp2_with (at_builtin;refine Bz _ rfl _ _ 147 rfl _ 28 i0 _ 24 p9 o8 q2 q7 q8 rfl u8 _ vs rfl OV.out _ 1 1 [_] rfl SV.out ?q3 ?q4 ?q5 ?_)
         case q3=>unfold maxLen;omega
         case q4=>omega
         case q5=>first|omega|(simp;omega)
         intro l4 w5 m8 b0 f1;have a8:l4.ownBlock=u8.ownBlock\/l4.ownBlock=some (w3.alloc (.cells #[.slice a9 (k+1) c9] 28)).heap.size:=by simpa using f1
         have T5:Hid _:=Hc.pushR TK.out i6.out m8 b0 a8 f5.out;have g4:=Hc.frR (R:=(fun q=>P q/\q≠w.heap.size+1+1)) (lS:=u6) b0 a8;have b3:=pI (f5.out.fr g4.1 g4.2);have I:Hid _:=T5.out.low a1.out c4.out;have l9:(f++[e]).length=k+1:=by rw[List.length_append,f9.out];rfl
         have HC:Hid (Calls prog 45 #[.slice a9 (k+1) c9] w5 (Aw (fun q=>(P q/\q≠w.heap.size+1+1)/\some q≠l4.ownBlock/\some q≠u6.ownBlock) w5 (n+2) (fnB (n+1) (Aq n (k+1)) (f++[e])))):=by
          have q:=Ja n _ w5 a9 (k+1) c9 _ b3 (by omega) (fun t ht=>HW.out t (Ft (k+1) _ f8.out t ht));rw[l9] at q;refine Calls.mono q ?_;intro e' w' h;exact Ek (fun q hq=>⟨⟨HP.out q (by have:=I.out.size;omega),by have:=I.out.size;omega⟩,fun h=>by have:=(T5.out.ltR h.symm).2;omega,fun h=>by have:=(T5.out.ltS h.symm).2;omega⟩) h
         clear m8 b0 f1 a8 g4 b3 l9 TK OV i6 SV f5;by_cases G:1+wtL (wt (n+1)) (Aq n (k+1))+wtL (wt (n+1)) (f++[e])<=1024
         ·have a4:fnB (n+1) _ _=fnA (n+1) _ _:=if_pos G;rw[a4] at HC;have f6:Hid (Qn (n+1) (Aq n (k+1)) (Bb ((Ak es k).take F) es++(es.take (j+1)).map (fun x=>f++[x]))):=by
           show Qn _ _ _;rw[Q.out];intro r hr;rcases List.mem_append.1 hr with h|h
           ·exact H.out r h
           ·rw[List.mem_singleton.1 h];exact G
          clear a4 G H;go_wp2_with fail
          refine HC.out.mono ?_;rintro e' w6 ⟨t,rfl,Y,hr⟩;obtain⟨M,o,B,A,C,E,D,rfl⟩:∃M o B A C E D,t=.agg #[.int .i64 6,.int .i64 0,.string M,.slice o B A,.slice C E D]:=by
           obtain⟨M,o,B,A,C,E,D,h,-,-,-,-⟩:=id hr;exact⟨M,o,B,A,C,E,D,h⟩
          have GW:Ac w6 ((w6.alloc (.cells #[.int .i64 6,.int .i64 0,.string M,.slice o B A,.slice C E D] 30)).alloc (.cells #[.int .i64 6,.int .i64 0,.string M,.slice o B A,.slice C E D] 30)):=((Ac.refl w6).alloc _).alloc _;have T6:Hid _:=T5.out.keep (Y.trans (GW.below.mono Y.size));have j1:Hid (Ref _ _ (n+2) _ (⟨.int .i64 6,.int .i64 0,.string M,.slice o B A,.slice C E D,rfl,rfl,rfl,rfl,rfl⟩:H5).v):=Ref.fr (Fr.grew GW) (fun _ _ h=>h) _ _ _ hr;obtain⟨n2,b1,k8⟩:=T6.out.so;have OS:Hid (((w6.alloc (.cells #[.int .i64 6,.int .i64 0,.string M,.slice o B A,.slice C E D] 30)).alloc (.cells #[.int .i64 6,.int .i64 0,.string M,.slice o B A,.slice C E D] 30)).ownsRow _ 30 5 u6 _ _):=b1;have AS:Hid (Are _ _ (n+2) _ n2):=k8;have SS:Hid (Hl ((w6.alloc (.cells #[.int .i64 6,.int .i64 0,.string M,.slice o B A,.slice C E D] 30)).alloc (.cells #[.int .i64 6,.int .i64 0,.string M,.slice o B A,.slice C E D] 30)) (some ⟨w6.heap.size+1,0,none⟩) 1 [(⟨.int .i64 6,.int .i64 0,.string M,.slice o B A,.slice C E D,rfl,rfl,rfl,rfl,rfl⟩:H5)]):=by
           have q:=El (w6.alloc (.cells #[.int .i64 6,.int .i64 0,.string M,.slice o B A,.slice C E D] 30)) (⟨.int .i64 6,.int .i64 0,.string M,.slice o B A,.slice C E D,rfl,rfl,rfl,rfl,rfl⟩:H5);rw[show(w6.alloc (.cells #[.int .i64 6,.int .i64 0,.string M,.slice o B A,.slice C E D] 30)).heap.size=w6.heap.size+1 by simp] at q;exact q
          have t6:=Ae0 I.out.size Y.size;clear Y hr GW b1 k8 HC T5 I;go_wp2_with (at_builtin;refine Dk _ rfl _ _ rfl _ u6 _ n2 rfl OS.out _ 1 _ rfl SS.out (by omega) ?q6 ?_)
          case q6=>first|omega|(simp;omega)
          intro l7 w7 b1 l5 f2;have T7:Hid (Hc _ W1 w7 n _ l1 _ l4 (_++[fnA (n+1) _ _]) l7):=Hc.pushS T6.out AS.out (by rw[List.length_append,List.length_map];exact b1) l5 (by simpa using f2) j1.out;have n9:Hid (Hc (fun q=>P q/\q≠w.heap.size+1+1) W1 w7 n WA.heap.size l1 (Bb ((Ak es k).take F) es++(es.take (j+1)).map (fun x=>f++[x])) l4 (B7 n es k++(Bb ((Ak es k).take F) es++(es.take (j+1)).map (fun x=>f++[x])).map (fnA (n+1) (Aq n (k+1)))) l7):=by
           show Hc _ _ _ _ _ _ _ _ _ _;rw[Q.out,List.map_append,<- List.append_assoc];exact T7.out
          clear b1 l5 f2 T6 T7 AS OS SS j1 Q f8;go_wp2_with fail
          go_roundw
          case rel=>exact⟨j+1,by omega,by go_num,n9,f6⟩
          case measure=>simp[intOf];omega
         ·have a4:fnB (n+1) _ _=_:=if_neg G;rw[a4] at HC;have Z:Hid (z=(Ar:_)):=by
           show _=_;rw[HZ.out];exact K3 n (K:=k+1) (by omega) (.inl fun h=>G (h (k+1) (by omega) _ f8.out))
          clear a4 G H;go_wp2_with fail
          refine HC.out.mono ?_;rintro e' w6 ⟨t,rfl,Y,hr⟩;obtain⟨M,o,B,A,C,E,D,rfl⟩:∃M o B A C E D,t=.agg #[.int .i64 0,.int .i64 0,.string M,.slice o B A,.slice C E D]:=by
           obtain⟨M,o,B,A,C,E,D,h,-,-,-,-⟩:=id hr;exact⟨M,o,B,A,C,E,D,h⟩
          have RX:Hid _:=Ac1 Y (Ac1 I.out R0.out);have LX:=L0.out.trans ((I.out.trans (Y.mono I.out.size)).mono (by omega));have F2:Fr (fun k=>k<w.heap.size) w (Ao w6 (w.heap.size+1+1) 0 (.int .i64 0) (.int .i64 0) (.string ⟨#[]⟩) (.slice none 0 0) (.slice none 0 0)):=Cz (Fr.below LX) (by simp;omega) _ _ _ _ _ _;have L2:Below _ w _:=⟨F2.os,F2.tape,F2.output,F2.size,fun i hi=>F2.block i hi hi⟩;have GA:Ac _ ((Ao w6 (w.heap.size+1+1) 0 (.int .i64 0) (.int .i64 0) (.string ⟨#[]⟩) (.slice none 0 0) (.slice none 0 0)).alloc (.cells #[.int .i64 0,.int .i64 0,.string M,.slice o B A,.slice C E D] 30)):=(Ac.refl _).alloc _;have XF:Hid _:=Ac1 GA.below (Bc RX.out _ _ _ _ _);have HE:Hid (Aw P w (n+3) z (.returned Bk) ((Ao w6 (w.heap.size+1+1) 0 (.int .i64 0) (.int .i64 0) (.string ⟨#[]⟩) (.slice none 0 0) (.slice none 0 0)).alloc (.cells #[.int .i64 0,.int .i64 0,.string M,.slice o B A,.slice C E D] 30))):=by
           rw[Z.out];exact Dj (n+2) (L2.trans (GA.below.mono L2.size))
          obtain⟨c8,d5,d6,d7,d8⟩:=Ah RX.out;obtain⟨d9,e2,e3,e4,e5⟩:=Ax RX.out;have e6:=Aa RX.out;clear Y hr LX F2 L2 GA HC;go_wp2_with fail
          obtain⟨k0,k1⟩:=Lf XF.out;have r0:=Ab XF.out 2;obtain⟨-,-,-,k3,k4⟩:=Ah XF.out;change bodyPost _ _ _ _ _ ((Ao w6 (w.heap.size+1+1) 0 (.int .i64 0) (.int .i64 0) (.string ⟨#[]⟩) (.slice none 0 0) (.slice none 0 0)).alloc (.cells #[_,_,_,_,_] 30));exact Ae2 (by simp[results,results52,go_sem,Bk,k0,k1,r0,k3,k4]) rfl HE.out
        ·obtain rfl:j=kl:=by omega
         have Q:Hid ((Bb ((Ak es k).take F) es++(es.take j).map (fun x=>f++[x]))=Bb ((Ak es k).take (F+1)) es):=by
          show _=_;rw[List.take_of_length_le (l:=es) (by rw[<- a2.out];omega),List.take_add_one,f4.out,Option.toList_some];simp[Bb]
         rw[Q.out] at J H;clear Q e8 f9 f4 j7 i8 V A2;go_wp2_with fail
         go_roundw
         case rel=>exact⟨F+1,by omega,by go_num,J,H⟩
         case measure=>simp[intOf];omega
      ·obtain rfl:F=r:=by omega
       have Q:Hid (Bb ((Ak es k).take F) es=Ak es (k+1)):=by
        show _=_;rw[List.take_of_length_le (by rw[<- S.out];omega)];rfl
       rw[Q.out] at J H;have V:Hid _:=J.out.low a1.out c4.out;obtain⟨b9,c9,p8,b5⟩:=J.out.rows (fun q hq=>⟨HP.out q (by omega),by omega⟩);subst p8;have n7:Hid (Hb (fun q=>(fun q=>P q/\q≠w.heap.size+1+1) q/\some q≠_) wr (n+1) _ b9):=b5;have n6:Hid (Jo (fun q=>P q/\q≠w.heap.size+1+1) WA wr (n+1) WA.heap.size (B7 n es (k+1)) u6):=by
        rw[Ic];exact J.out.gath V.out
       have f6:Hid (Kh n es (k+1)):=by
        intro i hi;rcases Nat.lt_or_ge i (k+1) with h|h
        ·exact X.out i h
        ·obtain rfl:i=k+1:=by omega
         exact H.out
       have hN9:(Ak es (k+1)).length<=1024:=by
        have:=a5.out;rw[Fu,<- S.out,<- a2.out];omega
       have n8:Hid ((B7 n es (k+1)).length<=2048):=by
        show _<=_;rw[Ic,List.length_append,List.length_map,O.out];omega
       have j2:Hid (_=(Ak es (k+1)).length):=rfl;clear Q J H b5 V f0 S a5 O X a1 c4 A1 B1 X1 LW c5;go_wp2_with fail
       go_roundw
       case rel=>exact⟨k+1,_,c9,b9,by omega,by go_num,rfl,hN9,j2,n7,n6,f6,n8⟩
       case measure=>simp[intOf];omega
    ·have h5:(1024:Int)<(L:Int):=by omega
     have Z:Hid (z=(Ar:_)):=by
      show _=_;rw[HZ.out];refine K3 n (K:=k) (by omega) (.inr ?_);have:=Yl n es k;have:=O.out;omega
     have K0:Hid (∀W,Ref (fun q=>P q/\q≠w.heap.size+1+1) W (n+3) z (.agg #[_,_,_,_,_])):=fun W=>by rw[Z.out];exact Cm _ W (n+2)
     clear a6 S Z HG X O a5 HZ;obtain⟨HE,c8,d5,d6,d7,d8,d9,e2,e3,e4,e5,e6,XF⟩:=Bg X1.out (by omega) LW.out (K0.out wr);have hw:=c5.out;go_wp2_with fail
     obtain⟨k0,k1,F,k3,k4⟩:=Ah XF.out;change bodyPost _ _ _ _ _ (Ao _ _ 0 _ _ _ _ _);exact Ae2 (by simp[results,results52,go_sem,k0,k1,F,k3,k4]) rfl HE.out
   ·have h4:(1024:Int)<(m':Int):=by omega
    have Z:Hid (z=(Ar:_)):=by
     show _=_;rw[HZ.out];exact Vk n (k:=k) p4 (by have:=a5.out;rw[<- S.out,<- a2.out];omega)
    have K0:Hid (∀W,Ref (fun q=>P q/\q≠w.heap.size+1+1) W (n+3) z (.agg #[_,_,_,_,_])):=fun W=>by rw[Z.out];exact Cm _ W (n+2)
    clear a6 S Z HG X O a5 HZ;obtain⟨HE,c8,d5,d6,d7,d8,d9,e2,e3,e4,e5,e6,XF⟩:=Bg X1.out (by omega) LW.out (K0.out wr);have hw:=c5.out;go_wp2_with fail
    obtain⟨k0,k1,F,k3,k4⟩:=Ah XF.out;change bodyPost _ _ _ _ _ (Ao _ _ 0 _ _ _ _ _);exact Ae2 (by simp[results,results52,go_sem,k0,k1,F,k3,k4]) rfl HE.out
  ·have HS:Hid (Jh n es N=mkS (wt (n+2)) (B7 n es k)):=by
    show _=_;obtain⟨h1,h2⟩:B7 n es N=B7 n es k/\Kh n es N:=by
     by_cases h:k<N
     ·have h0:Ak es k=[]:=List.length_eq_zero_iff.1 (by have:=S.out;omega);obtain⟨d,rfl⟩:=Nat.exists_eq_add_of_le hk;exact⟨(Sq h0 d).1,(Sq h0 d).2 X.out⟩
     ·obtain rfl:k=N:=by omega
      exact⟨rfl,X.out⟩
    unfold Jh;rw[if_pos h2,h1]
   have HN:Hid (Calls prog 44 #[.slice al L cl] wr (Aw (fun q=>P q/\q≠w.heap.size+1+1) wr (n+3) z)):=by
    obtain⟨a9,c9,e9,b4⟩:=HG.out.row (by rw[O.out];omega) (fun q hq=>⟨HP.out q (by omega),by omega⟩);rw[O.out] at e9 b4;simp only[Value.slice.injEq] at e9;obtain⟨rfl,-,rfl⟩:=e9;have q:=G6 (n+2) _ wr al L cl _ b4 (by omega) (xC HW.out X.out);rw[N7 _ (Vi n HA.out k),<- HS.out,<- HZ.out] at q;refine Calls.mono q ?_;intro e w' h;exact Ek (fun q hq=>⟨HP.out q (by have:=LW.out.size;omega),by have:=Aa X1.out;omega⟩) h
   clear HS a6 HG X O S;by_cases p2:(k:Int)<(N:Int)
   ·have p5:¬(0:Int)<(r:Int):=by omega
    go_wp2_with fail
    refine HN.out.mono ?_;rintro e w5 ⟨t,rfl,Y,hr⟩;obtain⟨r5,r2,r4,r3,r6,r8,r7,rfl,-,-,-,-⟩:=id hr;have RZ:Hid _:=Ac1 Y X1.out;have LZ:Hid _:=(LW.out).trans (Y.mono (LW.out).size);have g1:Hid (Ref _ w5 (n+3) z _):=hr;clear Y hr;obtain⟨HE,c8,d5,d6,d7,d8,d9,e2,e3,e4,e5,e6,XF⟩:=Bg RZ.out (by omega) LZ.out g1.out;go_wp2_with fail
    obtain⟨k0,k1,F,k3,k4⟩:=Ah XF.out;change bodyPost _ _ _ _ _ (Ao _ _ 0 _ _ _ _ _);exact Ae2 (by simp[results,results52,go_sem,k0,k1,F,k3,k4]) rfl HE.out
   ·go_wp2_with fail
    refine HN.out.mono ?_;rintro e w5 ⟨t,rfl,Y,hr⟩;obtain⟨r5,r2,r4,r3,r6,r8,r7,rfl,-,-,-,-⟩:=id hr;have RZ:Hid _:=Ac1 Y X1.out;have LZ:Hid _:=(LW.out).trans (Y.mono (LW.out).size);have g1:Hid (Ref _ w5 (n+3) z _):=hr;clear Y hr;obtain⟨HE,c8,d5,d6,d7,d8,d9,e2,e3,e4,e5,e6,XF⟩:=Bg RZ.out (by omega) LZ.out g1.out;go_wp2_with fail
    obtain⟨k0,k1,F,k3,k4⟩:=Ah XF.out;change bodyPost _ _ _ _ _ (Ao _ _ 0 _ _ _ _ _);exact Ae2 (by simp[results,results52,go_sem,k0,k1,F,k3,k4]) rfl HE.out
theorem Ui (n m q:Nat)(P:Nat->Prop)(w:World)(x:Ag (AV n))(y:Ag (AV m))(u v:Value)(hx:Ref P w (n+1) x u)(hy:Ref P w (m+1) y v)(h:¬(x.kind=5/\y.kind=2/\0<=y.int)) :
  Calls prog 52 #[u,v] w (Aw P w (q+1) (Ar:Ag (AV q))):=by
 obtain⟨s,l,p,o,t,A,z,rfl,-,-,-,-⟩:=id hx;obtain⟨r,d,f,e,g,j,i,rfl,-,-,-,-⟩:=id hy;have a:Hid (Below w.heap.size w (((w.alloc (.cells #[.int .i64 x.kind,.int .i64 x.int,.string s,.slice l p o,.slice t A z] 30)).alloc (.cells #[.int .i64 y.kind,.int .i64 y.int,.string r,.slice d f e,.slice g j i] 30)).alloc (.cells #[.int .i64 0,.int .i64 0,.string ⟨#[]⟩,.slice none 0 0,.slice none 0 0] 30))):=((((Ac.refl w).alloc _).alloc _).alloc _).below;have D:=follows;by_cases c:x.kind=5
 ·by_cases k:y.kind=2
  ·have b:y.int<0:=by
    rcases Int.lt_or_le y.int 0 with b|b
    ·exact b
    ·exact absurd ⟨c,k,b⟩ h
   rw[c,k] at a |-;clear hx hy h;go_enter func52,ntmps52
   go_wp2_with fail
   exact Ae2 (v:=Bk) (by simp[results,results52,go_sem,Bk]) rfl (Dj q a.out)
  ·have C:(((y.kind:Nat):Int)==2)=false:=by
    rw[beq_eq_false_iff_ne];omega
   rw[c] at a |-;clear hx hy h;go_enter func52,ntmps52
   go_wp2_with fail
   exact Ae2 (v:=Bk) (by simp[results,results52,go_sem,Bk]) rfl (Dj q a.out)
 ·have B:(((x.kind:Nat):Int)==5)=false:=by
   rw[beq_eq_false_iff_ne];omega
  clear hx hy h;go_enter func52,ntmps52
  go_wp2_with fail
  exact Ae2 (v:=Bk) (by simp[results,results52,go_sem,Bk]) rfl (Dj q a.out)
end Go.Proofs.YtdpeliifdlhhkaaGreatDoor.Sx
