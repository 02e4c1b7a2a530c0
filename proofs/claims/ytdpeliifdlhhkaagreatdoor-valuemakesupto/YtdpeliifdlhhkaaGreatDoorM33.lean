/- The reference: parts. -/
import Derived.Test.YtdpeliifdlhhkaaGreatDoorM32
import Derived.Test.YtdpeliifdlhhkaaGreatDoorM01
import Derived.Test.YtdpeliifdlhhkaaGreatDoorM36
import Derived.Test.YtdpeliifdlhhkaaGreatDoorM03
import Derived.Test.YtdpeliifdlhhkaaGreatDoorM28
import Derived.Test.YtdpeliifdlhhkaaGreatDoorM37
namespace Go.Proofs.YtdpeliifdlhhkaaGreatDoor.Sx
open Go.RowKit Go.Sort Tryz
set_option maxRecDepth 100000
set_option maxHeartbeats 4000000
def J3 (n:Nat)(p:List (AV n)):AV (n+1):=(Bt p:Ag (AV n))
structure Jo (Q:Nat->Prop)(w wr:World)(n base:Nat)(acc:List (AV (n+1)))(l:Value):Prop where
 own:∃hs:List H5,wr.ownsRow base 30 5 l acc.length (Bi hs)/\Are (fun k=>Q k/\some k≠l.ownBlock) wr (n+1) acc hs
 low:Below w.heap.size w wr
theorem Jo.keep {Q:Nat->Prop}{w wr w':World}{n base:Nat}{acc:List (AV (n+1))}{l:Value}(h:Jo Q w wr n base acc l)(hb:Below wr.heap.size wr w'):Jo Q w w' n base acc l:=by
 obtain⟨c,b,a⟩:=h.own;exact⟨⟨c,Bo b (fun g _ hg=>hb.block g hg),a.frQ (Fr.below hb) (fun _ _ h=>h)⟩,h.low.trans (hb.mono h.low.size)⟩
theorem Jo.push {Q:Nat->Prop}{w W w':World}{n base:Nat}{acc:List (AV (n+1))}{l l':Value}(h:Jo Q w W n base acc l)(hb:w.heap.size<=base){hs:List H5}{u:H5}{x:AV (n+1)}(ha:Are (fun k=>Q k/\some k≠l.ownBlock) W (n+1) acc hs)(ho:W.ownsRow base 30 5 l acc.length (Bi hs))(ho':w'.ownsRow base 30 5 l' (acc.length+1) (Bi (hs++[u])))(hg:W.grownBy w' l.ownBlock)(hat:l'.ownBlock=l.ownBlock\/l'.ownBlock=some W.heap.size)(hx:Ref (fun k=>Q k/\some k≠l.ownBlock) W (n+1) x u.v):Jo Q w w' n base (acc++[x]) l':=by
 have a:Fr (fun k=>Q k/\some k≠_) W w':=⟨hg.os,hg.tape,hg.output,hg.size,fun k hk hp=>hg.block k hk hp.2⟩;have b:∀k,k<W.heap.size->(Q k/\some k≠l.ownBlock)->(Q k/\some k≠l'.ownBlock):=by
  intro k hk hp;refine⟨hp.1,fun e=>?_⟩;rcases hat with q|q
  ·rw[q] at e;exact hp.2 e
  ·rw[q] at e;have:=Ae5 e;omega
 exact⟨⟨hs++[u],by rw[List.length_append];exact ho',(ha.app (Are.one hx)).frQ a b⟩,B8 h.low hb ho hg⟩
theorem Jo.row {Q:Nat->Prop}{w wr:World}{n base:Nat}{acc:List (AV (n+1))}{l:Value}(h:Jo Q w wr n base acc l)(hl:acc.length<=4294967296)(hQ:∀k,base<=k->Q k):∃a cap,l=.slice a acc.length cap/\Bm Q wr (Ref Q wr (n+1)) a acc.length acc:=by
 obtain⟨f,e,c⟩:=h.own;rw[<- c.1] at e;obtain⟨a,d,cap,rfl,b⟩:=Bu e c (by rw[c.1];exact hl) (Fr.refl _ wr) hQ (fun _ _ h=>h.1);obtain rfl:d=acc.length:=b.1;exact⟨a,cap,rfl,b⟩
theorem M2 {α:Type}(es:List α):∀(k:Nat)(p:List α),p∈Cj es k->p.length<=k
 | 0,p,h=>by simp[Cj] at h;subst h;simp
 | k+1,p,h=>by
  simp only[Cj,List.mem_append,List.mem_map] at h;rcases h with h|⟨q,hq,rfl⟩
  ·exact Nat.le_succ_of_le (M2 es k p h)
  ·have:=M2 es k q hq;rw[List.length_append];have:(es[k]?).toList.length<=1:=by cases es[k]?<;>simp
   omega
theorem kD (n:Nat)(P:Nat->Prop)(w:World)(x:Ag (AV (n+1)))(u:Value)(hx:Ref P w (n+2) x u)(hP:∀k,w.heap.size<=k->P k)(hW:∀k,∀p∈Cj x.keys k,Wgt (n+2) (J3 (n+1) p))(z:AV (n+3))
  (H0:10<x.keys.length->z=(Ar:Ag (AV (n+2)))) (H1:x.keys.length<=10->z=(mkS (wt (n+2)) (Eo (Al (n+2)) ((Cj x.keys x.keys.length).map (J3 (n+1)))):Ag (AV (n+2)))) :
  Calls prog 90 #[u] w (Aw P w (n+3) z):=by
 obtain⟨s,ka,B,kc,va,vl,vc,rfl,-,r1,-,-⟩:=id hx;have mo:=follows;obtain⟨G0,A0,R0⟩:=jV w #[.int .i64 x.kind,.int .i64 x.int,.string s,.slice ka B kc,.slice va vl vc] #[.int .i64 0,.int .i64 0,.string ⟨#[]⟩,.slice none 0 0,.slice none 0 0] 30;have z0:((w.alloc (.cells #[.int .i64 x.kind,.int .i64 x.int,.string s,.slice ka B kc,.slice va vl vc] 30)).alloc (.cells #[.int .i64 0,.int .i64 0,.string ⟨#[]⟩,.slice none 0 0,.slice none 0 0] 30)).heap.size=w.heap.size+2:=by simp
 have XR:Hid (Bm (fun k=>P k/\k≠w.heap.size+1) _ (Ref (fun k=>P k/\k≠w.heap.size+1) _ (n+1)) ka B x.keys):=r1.fr (Fr.grew G0.out) (fun x v=>Ref.fr (Fr.grew G0.out) (fun k hk hp=>⟨hp,by omega⟩) (n+1) x v) (fun k hk hp=>⟨hp,by omega⟩);have HP:Hid _:=hP;have X:Hid _:=hW;have I:Hid (B=x.keys.length):=r1.1;have h2:B<=4294967296:=r1.2.1;by_cases g3:B<=10
 ·have d8:¬(10:Int)<(B:Int):=by omega
  have HZ:Hid _:=H1 (by have:=I.out;omega);clear H0 H1 hx hP hW r1;go_enter func90,ntmps90
  go_wp2_with fail
  generalize (w.alloc _).alloc _=W0 at G0 A0 R0 XR z0 |-;have S0:Hid (Jo (fun k=>P k/\k≠w.heap.size+1) W0 (W0.alloc (.cells #[.int .i64 5,.int .i64 0,.string ⟨#[]⟩,.slice none 0 0,.slice none 0 0] 30)) (n+1) W0.heap.size ((Cj x.keys 0).map (J3 (n+1))) (.slice (some ⟨w.heap.size+2,0,none⟩) 1 1)):=by
   have hn:(W0.alloc (.cells #[.int .i64 5,.int .i64 0,.string ⟨#[]⟩,.slice none 0 0,.slice none 0 0] 30)).heap[_+2]?=_:=Af z0;refine⟨⟨[⟨_,_,_,_,_,rfl,rfl,rfl,rfl,rfl⟩],⟨rfl,.inr ⟨_+2,1,_,rfl,by omega,hn,Ad9 _,by decide,rfl,rfl⟩⟩,?_⟩,((Ac.refl W0).alloc _).below⟩;exact Are.one ⟨_,none,0,0,none,0,0,rfl,rfl,B9 _ _ _ _,B9 _ _ _ _,Ad9 _⟩
  go_loopw [3,4] (fun l i wr=>∃c:Nat,c<=B/\i=.int .i64 c/\Hid (Jo (fun k=>P k/\k≠w.heap.size+1) W0 wr (n+1) W0.heap.size ((Cj x.keys c).map (J3 (n+1))) l)) (fun _ i _=>B-(intOf i).toNat)
  case atStart=>exact⟨0,Ae1 _,rfl,S0⟩
  case round =>
   clear S0;obtain⟨c,hc,rfl,H⟩:=hrel;have A1:Hid _:=Ac1 H.out.low A0.out;have i3:=Ab A1.out 3;have za:=Aa A1.out;by_cases h3:c<B
   ·have J:c<x.keys.length:=by have:=I.out;omega
    obtain⟨b,G,e6,o,d9,c4⟩:=XR.out.2.2.resolve_left (by omega);subst e6;have a1:=List.getElem?_eq_getElem J;obtain⟨v,hf,V⟩:=c4 c x.keys[c] a1;have W:Hid _:=a1;generalize x.keys[c]=e at V W;obtain⟨f8,f9,g0,g1,g2,rfl,d0,d1,d2,d3,d4⟩:=hf;obtain⟨b2,a7,b1,b0,b3,b5,b4,c8,-,-,-,-⟩:=id V;simp only[Value.agg.injEq,Array.mk.injEq,List.cons.injEq,and_true] at c8;obtain⟨rfl,rfl,rfl,rfl,rfl⟩:=c8;have c1:Hid (Ref _ W0 (n+1) e _):=V;have D0:Hid _:=d0;have D1:Hid _:=d1;have D2:Hid _:=d2;have D3:Hid _:=d3;have D4:Hid _:=d4;clear c4 d9 a1 V d0 d1 d2 d3 d4;obtain⟨N,hN⟩:∃N,(Cj x.keys c).length=N:=⟨_,rfl⟩;have y:Hid _:=hN;have g6:N<=1024:=by
     rw[<- hN,Mf]
     calc 2 ^ c<=2 ^ 10:=Nat.pow_le_pow_right (by omega) (by omega)
      _=1024:=rfl
    obtain⟨al,cl,e7⟩:∃a cc,u3=.slice a N cc:=by
     obtain⟨hs,U,_⟩:=H.out.own;rw[List.length_map,hN] at U;exact Jc U
    subst e7;clear hN;go_wp2_with fail
    go_loopw [3,6,7] (fun l k _ wr=>∃j:Nat,j<=N/\k=.int .i64 j/\Hid (Jo (fun k=>P k/\k≠w.heap.size+1) W0 wr (n+1) W0.heap.size ((Cj x.keys c).map (J3 (n+1))++((Cj x.keys c).take j).map (fun p=>J3 (n+1) (p++[e]))) l)) (fun _ k _ _=>N-(intOf k).toNat)
    case atStart=>exact⟨0,Ae1 _,rfl,by simpa using H⟩
    case round =>
     clear H A1 i3 za;obtain⟨j,hj,rfl,r⟩:=hrel;have A2:Hid _:=Ac1 r.out.low A0.out;by_cases e5:j<N
     ·obtain⟨hs,U,ha⟩:=r.out.own;have c5:j<(Cj x.keys c).length:=by rw[y.out];exact e5
      obtain⟨pp,a5⟩:∃p,(Cj x.keys c)[j]?=some p:=⟨_,List.getElem?_eq_getElem c5⟩;have D:((Cj x.keys c).map (J3 (n+1))++((Cj x.keys c).take j).map (fun p=>J3 (n+1) (p++[e])))[j]?=some (J3 (n+1) pp):=by
       rw[List.getElem?_append_left (by rw[List.length_map];exact c5),List.getElem?_map,a5];rfl
      have c0:Hid (((Cj x.keys c).take (j+1)).map (fun p=>J3 (n+1) (p++[e]))=((Cj x.keys c).take j).map (fun p=>J3 (n+1) (p++[e]))++[J3 (n+1) (pp++[e])]):=by
       show _=_;rw[List.take_add_one,a5,Option.toList_some,List.map_append];rfl
      obtain⟨hh,a3⟩:∃h,hs[j]?=some h:=⟨_,List.getElem?_eq_getElem (by rw[ha.1];exact(List.getElem?_eq_some_iff.1 D).1)⟩;have c7:=ha.2 j _ hh D a3;obtain⟨M,hM⟩:∃M,((Cj x.keys c).map (J3 (n+1))++((Cj x.keys c).take j).map (fun p=>J3 (n+1) (p++[e]))).length=M:=⟨_,rfl⟩;have b9:Hid _:=hM;have g5:M<=4096:=by
       rw[<- hM,List.length_append,List.length_map,List.length_map,y.out,List.length_take,y.out];omega
      have h1:j<M:=by rw[<- hM,List.length_append,List.length_map,y.out];omega
      rw[hM] at U;obtain⟨gl,C,f4,rfl,g9,e4,e0⟩:∃g A a0,u3=.slice (some ⟨g,0,none⟩) M A/\W0.heap.size<=g/\wr.heap[g]?=some (.cells a0 30 (0,0))/\True:=by
       rcases U.2 with⟨_,h0⟩|⟨g,A,a0,e1,e2,e3,_⟩
       ·omega
       ·exact⟨g,A,a0,e1,e2,e3,trivial⟩
      have O:=(Gh.of U).1;obtain⟨⟨_,_,_,q3,_⟩,_⟩:=O.at a3;have HO:Hid (wr.ownsRow _ 30 5 _ M _):=U;have b7:Hid (Are (fun k=>(fun k=>P k/\k≠w.heap.size+1) k/\some k≠_) wr (n+2) _ hs):=ha;obtain⟨sp,a8,d,d6,j2,j7,j5,c9,-,rp,-,-⟩:=id c7;have f0:wr.cell? ⟨gl,j*5+3,none⟩=some (.slice a8 d d6):=by
       have:=by
        have:=c9;unfold H5.v at this;simp only[Value.agg.injEq,Array.mk.injEq,List.cons.injEq,and_true] at this;exact this.2.2.2.1
       rw[q3,this]
      have f2:=Aa e4;obtain⟨F,S2,V2⟩:=Jm rp;have SP:Hid (Hl wr a8 d F):=S2;have c3:Hid (Are (fun k=>(fun k=>P k/\k≠w.heap.size+1) k/\some k≠_) wr (n+1) pp F):=V2;have b8:Hid (d=pp.length):=rp.1;have f5:d<=10:=by have:=M2 x.keys c pp (Ae4 a5);have:=b8.out;omega
      have i3:=Ab A2.out 3;have za:=Aa A2.out;have zb:=Ad8 o r.out.low.size;clear U ha D a3 c7 hM O q3 c9 rp S2 V2 e0;go_wp2_with (at_builtin;refine Az _ rfl _ _ rfl _ (.slice none 0 0) 0 [] rfl (Ca _ _) a8 d d6 F rfl SP.out (by omega) (Ad9 _) ?_)
      intro x1 w2 d5 m;have B2:Hid (Below _ wr w2):=⟨m.os,m.tape,m.output,m.size,fun q hq=>m.block q hq (by simp[Value.ownBlock])⟩;have O2:Hid ((w2.alloc (.cells #[.int .i64 e.kind,.int .i64 e.int,.string b2,.slice a7 b1 b0,.slice b3 b5 b4] 30)).ownsRow _ 30 5 x1 d _):=Bo d5 (fun g _ hg=>(((Ac.refl w2).alloc _).below).block g hg);have S2:Hid (Hl (w2.alloc (.cells #[.int .i64 e.kind,.int .i64 e.int,.string b2,.slice a7 b1 b0,.slice b3 b5 b4] 30)) _ 1 [(⟨_,_,_,_,_,rfl,rfl,rfl,rfl,rfl⟩:H5)]):=El w2 _;have Y:=r.out.low.trans (B2.out.mono r.out.low.size);have m0:=(Y.cell (p:=⟨b,G+c*5,none⟩) o).trans D0.out;have m1:=(Y.cell (p:=⟨b,G+c*5+1,none⟩) o).trans D1.out;have m2:=(Y.cell (p:=⟨b,G+c*5+2,none⟩) o).trans D2.out;have m3:=(Y.cell (p:=⟨b,G+c*5+3,none⟩) o).trans D3.out;have m4:=(Y.cell (p:=⟨b,G+c*5+4,none⟩) o).trans D4.out;have f1:=Ad8 o Y.size;have A3:Hid _:=Ac1 B2.out A2.out;have j3:=Ab A3.out 3;have zc:=Aa A3.out;have g8:(c:Int)<(B:Int):=by omega
      have h4:=B2.out.size;clear d5 m Y f0 i3 za zb SP;go_wp2_with (at_builtin;refine Az _ rfl _ _ rfl _ x1 d F rfl O2.out _ 1 1 _ rfl S2.out (by omega) ?q1 ?_)
      case q1=>first|omega|(simp;omega)
      intro x2 R a6 m;have B3:Hid _:=B8 (B2.out.trans ((((Ac.refl w2).alloc _).below).mono B2.out.size)) (Ad9 _) O2.out m;obtain⟨Z,c2,rfl⟩:∃a cc,x2=.slice a (d+1) cc:=Jc a6;have OX:Hid (R.ownsRow _ 30 5 _ _ _):=a6;have f6:gl<wr.heap.size:=f2;have RE:Are (fun k=>(fun k=>P k/\k≠w.heap.size+1) k/\some k≠(Value.slice (some ⟨gl,0,none⟩) M C).ownBlock) wr (n+1) [e] [(⟨_,_,_,_,_,rfl,rfl,rfl,rfl,rfl⟩:H5)]:=Are.one (c1.out.fr (Fr.below r.out.low) (fun q hq hp=>⟨hp,fun h9=>by simp[Value.ownBlock] at h9;omega⟩) _ _ _);have E:=c3.out.app RE;have K:(F++[(⟨.int .i64 e.kind,.int .i64 e.int,.string b2,.slice a7 b1 b0,.slice b3 b5 b4,rfl,rfl,rfl,rfl,rfl⟩:H5)]).length=d+1:=by rw[E.1,List.length_append,b8.out];rfl
      have a4:=OX.out;rw[<- K] at a4;obtain⟨a9,f7,f3,e9,f⟩:=Bu (Q:=(fun k=>(fun k=>P k/\k≠w.heap.size+1) k/\some k≠_)) (by rw[K] at a4 |-;exact OX.out) E (by rw[K];omega) (Fr.below B3.out) (fun g hg=>⟨⟨HP.out g (by have:=r.out.low.size;omega),by have:=r.out.low.size;omega⟩,fun h9=>by simp[Value.ownBlock] at h9;omega⟩) (fun q _ h=>h);simp only[Value.slice.injEq] at e9;obtain⟨rfl,rfl,rfl⟩:=e9;have RF:Hid (Ref _ (R.alloc (.cells #[.int .i64 5,.int .i64 0,.string ⟨#[]⟩,.slice Z (d+1) c2,.slice none 0 0] 30)) (n+2) _ _):=(show Ref (fun k=>(fun k=>P k/\k≠w.heap.size+1) k/\some k≠(Value.slice (some ⟨gl,0,none⟩) M C).ownBlock) R (n+2) (J3 (n+1) (pp++[e])) (.agg #[.int .i64 5,.int .i64 0,.string ⟨#[]⟩,.slice Z (d+1) c2,.slice none 0 0]) from⟨⟨#[]⟩,Z,d+1,c2,none,0,0,rfl,rfl,f,B9 _ _ _ _,Ad9 _⟩).grew ((Ac.refl R).alloc _);have BV:Below _ wr (R.alloc (.cells #[.int .i64 5,.int .i64 0,.string ⟨#[]⟩,.slice Z (d+1) c2,.slice none 0 0] 30)):=B3.out.trans ((((Ac.refl R).alloc _).below).mono B3.out.size);have GK:Hid _:=r.out.keep BV;have OV:Hid ((R.alloc (.cells #[.int .i64 5,.int .i64 0,.string ⟨#[]⟩,.slice Z (d+1) c2,.slice none 0 0] 30)).ownsRow _ 30 5 _ M _):=Bo HO.out (fun g _ hg=>BV.block g hg);have b6:Hid (Are (fun k=>(fun k=>P k/\k≠w.heap.size+1) k/\some k≠_) _ (n+2) _ hs):=b7.out.frQ (Fr.below BV) (fun _ _ h=>h);have SV:Hid (Hl (R.alloc (.cells #[.int .i64 5,.int .i64 0,.string _,.slice Z _ c2,.slice none 0 0] 30)) _ 1 [(⟨_,_,.string ⟨#[]⟩,.slice Z (d+1) c2,_,rfl,rfl,rfl,rfl,rfl⟩:H5)]):=El R _;have g7:=Ae0 r.out.low.size B3.out.size;clear a6 m RE E K a4 f OX O2 S2 m0 m1 m2 m3 m4 f1 A3 j3 zc c3 HO b7 BV B2 r;go_wp2_with (at_builtin;refine Dk _ rfl _ _ rfl _ (.slice _ M C) M hs rfl OV.out _ 1 _ rfl SV.out (by omega) ?q2 ?_)
      case q2=>first|omega|(simp;omega)
      intro l4 w4 c6 T S;have HN:Hid (Jo (fun k=>P k/\k≠w.heap.size+1) W0 w4 (n+1) W0.heap.size ((Cj x.keys c).map (J3 (n+1))++((Cj x.keys c).take (j+1)).map (fun p=>J3 (n+1) (p++[e]))) l4):=by
       rw[c0.out,<- List.append_assoc];have e9:=b9.out;exact GK.out.push (u:=⟨_,_,_,_,_,rfl,rfl,rfl,rfl,rfl⟩) (Ad9 _) b6.out (by rw[e9];exact OV.out) (by rw[e9,z0];exact c6) T (by simpa using S) RF.out
      clear c6 T S GK OV b6 SV RF c0 b9;go_wp2_with fail
      go_roundw
      case rel=>exact⟨j+1,by omega,by go_num,HN⟩
      case measure=>simp[intOf];omega
     ·obtain rfl:j=N:=by omega
      have HT:Hid ((Cj x.keys c).map (J3 (n+1))++((Cj x.keys c).take j).map (fun p=>J3 (n+1) (p++[e]))=(Cj x.keys (c+1)).map (J3 (n+1))):=by
       show _=_;rw[<- y.out,List.take_length];simp only[Cj,List.map_append,List.map_map,W.out,Option.toList_some];rfl
      rw[HT.out] at r;clear HT y W c1 D0 D1 D2 D3 D4 A2;go_wp2_with fail
      go_roundw
      case rel=>exact⟨c+1,by omega,by go_num,r⟩
      case measure=>simp[intOf];omega
   ·obtain rfl:c=B:=by omega
    have J:c=x.keys.length:=I.out;have R1:Hid _:=Ac1 H.out.low R0.out;have L1:Hid _:=G0.out.below.trans (H.out.low.mono (by omega));obtain⟨L,hL⟩:∃L,((Cj x.keys c).map (J3 (n+1))).length=L:=⟨_,rfl⟩;have g4:L<=1024:=by
     rw[<- hL,List.length_map,Mf]
     calc 2 ^ c<=2 ^ 10:=Nat.pow_le_pow_right (by omega) (by omega)
      _=1024:=rfl
    obtain⟨a,A,rfl,f⟩:=H.out.row (by rw[hL];omega) (fun k hk=>⟨HP.out k (by omega),by omega⟩);rw[hL] at f |-;have e8:=H.out.low.size;have HN:Hid (Calls prog 44 #[.slice a L A] wr (Aw (fun k=>P k/\k≠w.heap.size+1) wr (n+3) z)):=by
     have:=G6 (n+2) _ wr a L A _ f (by omega) (fun q hq=>by obtain⟨p,hp,rfl⟩:=List.mem_map.1 hq;exact X.out c p hp);rw[HZ.out,<- J];refine Calls.mono this ?_;intro e w' h;exact Ek (fun k hk=>⟨HP.out k (by omega),by omega⟩) h
    clear f H e8 hL HZ X XR J;go_wp2_with fail
    refine HN.out.mono ?_;rintro e w5 ⟨t,rfl,hb,V⟩;obtain⟨i5,h5,h7,h6,j1,j6,j4,rfl,-,-,-,-⟩:=id V;have RZ:Hid _:=Ac1 hb R1.out;have LZ:Hid _:=(L1.out).trans (hb.mono (L1.out).size);have d7:Hid (Ref _ w5 (n+3) z _):=V;clear hb V;obtain⟨HE,h8,i0,i1,i2,i4,i6,i7,i8,i9,j0,j8,XF⟩:=Bg RZ.out (by omega) LZ.out d7.out;go_wp2_with fail
    obtain⟨k0,k1,k2,k3,k4⟩:=Ah XF.out;change bodyPost _ _ _ _ _ (Ao _ _ 0 _ _ _ _ _);exact Ae2 (by simp[results,results90,go_sem,k0,k1,k2,k3,k4]) rfl HE.out
 ·have d8:(10:Int)<(B:Int):=by omega
  obtain rfl:=H0 (by have:=I.out;omega);clear H0 H1 hx hP hW r1 XR HP X;go_enter func90,ntmps90
  go_wp2_with fail
  exact Ae2 (by simp[results,results90,go_sem,Bk]) rfl (Dj (n+2) G0.out.below)
theorem eX:(prog.info? 28).map (fun i=>(i.zero,i.size,i.bytes))=some (some (.slice none 0 0),1,24):=by kernel_rfl
def H7 (Q:Nat->Prop)(w:World)(n:Nat)(row:List (AV n))(v:Value):Prop :=
 ∃a c,v=.slice a row.length c/\row.length<=c/\Bm Q w (Ref Q w n) a row.length row
theorem H7.fr {P Q:Nat->Prop}{w w':World}(hf:Fr P w w')(hQ:∀k,k<w.heap.size->P k->Q k){n:Nat}{row:List (AV n)}{v:Value}(h:H7 P w n row v):H7 Q w' n row v:=by
 obtain⟨a,c,e,d,b⟩:=h;exact⟨a,c,e,d,b.fr hf (fun x v=>Ref.fr hf hQ n x v) hQ⟩
theorem H7.one {Q:Nat->Prop}{w:World}{n:Nat}{row:List (AV n)}{v:Value}(h:H7 Q w n row v):v.oneCell'=true:=by
 obtain⟨a,c,rfl,-,-⟩:=h;rfl
def Nh (Q:Nat->Prop)(w:World)(n:Nat)(acc:List (List (AV n)))(vs:List Value):Prop :=
 vs.length=acc.length/\∀(i:Nat)(row:List (AV n)),acc[i]?=some row->∃v,vs[i]?=some v/\H7 Q w n row v
theorem Nh.fr {P Q:Nat->Prop}{w w':World}(hf:Fr P w w')(hQ:∀k,k<w.heap.size->P k->Q k){n:Nat}{acc:List (List (AV n))}{vs:List Value}(h:Nh P w n acc vs):Nh Q w' n acc vs :=
 ⟨h.1,fun i row hi=>by
  obtain⟨v,hv,hr⟩:=h.2 i row hi;exact⟨v,hv,hr.fr hf hQ⟩⟩
theorem Nh.app {Q:Nat->Prop}{w:World}{n:Nat}{acc:List (List (AV n))}{vs:List Value}{row:List (AV n)}{v:Value}(h:Nh Q w n acc vs)(hr:H7 Q w n row v):Nh Q w n (acc++[row]) (vs++[v]):=by
 refine⟨by simp[h.1],fun i y hy=>?_⟩;by_cases c:i<acc.length
 ·rw[List.getElem?_append_left c] at hy;obtain⟨u,d,a⟩:=h.2 i y hy;exact⟨u,by rw[List.getElem?_append_left (by rw[h.1];exact c)];exact d,a⟩
 ·rw[List.getElem?_append_right (by omega)] at hy;have b:i-acc.length=0:=by
   have:=(List.getElem?_eq_some_iff.1 hy).1;simp at this;omega
  rw[b] at hy;simp at hy;subst hy;exact⟨v,by rw[List.getElem?_append_right (by rw[h.1];omega),h.1,b];rfl,hr⟩
structure Jv (Q:Nat->Prop)(w wr:World)(n base:Nat)(acc:List (List (AV n)))(l:Value):Prop where
 own:∃vs:List Value,wr.ownsRow base 28 1 l acc.length vs/\Nh (fun k=>Q k/\some k≠l.ownBlock) wr n acc vs
 low:Below w.heap.size w wr
theorem Jv.keep {Q:Nat->Prop}{w wr w':World}{n base:Nat}{acc:List (List (AV n))}{l:Value}(h:Jv Q w wr n base acc l)(hb:Below wr.heap.size wr w'):Jv Q w w' n base acc l:=by
 obtain⟨c,b,a⟩:=h.own;exact⟨⟨c,Kc b hb,a.fr (Fr.below hb) (fun _ _ h=>h)⟩,h.low.trans (hb.mono h.low.size)⟩
theorem Jv.push {Q:Nat->Prop}{w W w':World}{n base:Nat}{acc:List (List (AV n))}{l l':Value}(hl:Below w.heap.size w W)(hb:w.heap.size<=base){vs:List Value}{v:Value}{row:List (AV n)}(ha:Nh (fun k=>Q k/\some k≠l.ownBlock) W n acc vs)(ho:W.ownsRow base 28 1 l acc.length vs)(ho':w'.ownsRow base 28 1 l' (acc.length+1) (vs++[v]))(hg:W.grownBy w' l.ownBlock)(hat:l'.ownBlock=l.ownBlock\/l'.ownBlock=some W.heap.size)(hx:H7 (fun k=>Q k/\some k≠l.ownBlock) W n row v):Jv Q w w' n base (acc++[row]) l':=by
 have a:Fr (fun k=>Q k/\some k≠l.ownBlock) W w':=⟨hg.os,hg.tape,hg.output,hg.size,fun k hk hp=>hg.block k hk hp.2⟩;have b:∀k,k<W.heap.size->(Q k/\some k≠l.ownBlock)->(Q k/\some k≠l'.ownBlock):=by
  intro k hk hp;refine⟨hp.1,fun e=>?_⟩;rcases hat with q|q
  ·rw[q] at e;exact hp.2 e
  ·rw[q] at e;have:=Ae5 e;omega
 exact⟨⟨vs++[v],by rw[List.length_append];exact ho',(ha.app hx).fr a b⟩,⟨hg.os.trans hl.os,hg.tape.trans hl.tape,hg.output.trans hl.output,Ae0 hl.size hg.size,fun j hj=>(hg.block j (Ad8 hj hl.size) (fun e=>by have:=(Ix ho e.symm).1;omega)).trans (hl.block j hj)⟩⟩
def Hb (P:Nat->Prop)(w:World)(n:Nat)(rows:List (List (AV n)))(a:Option Addr):Prop :=
 rows.length=0\/∃b off,a=some ⟨b,off,none⟩/\b<w.heap.size/\P b/\∀(i:Nat)(row:List (AV n)),rows[i]?=some row->∃v,w.cell? ⟨b,off+i,none⟩=some v/\H7 P w n row v
theorem Hb.fr {P Q:Nat->Prop}{w w':World}(hf:Fr P w w')(hQ:∀k,k<w.heap.size->P k->Q k){n:Nat}{rows:List (List (AV n))}{a:Option Addr}(h:Hb P w n rows a):Hb Q w' n rows a:=by
 rcases h with h|⟨b,d,e,c,f,g⟩
 ·exact .inl h
 ·refine .inr ⟨b,d,e,Ad8 c hf.size,hQ b c f,fun i row hi=>?_⟩;obtain⟨v,l,j⟩:=g i row hi;exact⟨v,(World.cell?_of_block (a:=⟨b,d+i,none⟩) (hf.block b c f)).trans l,j.fr hf hQ⟩
theorem Jv.rows {Q:Nat->Prop}{w wr:World}{n base:Nat}{acc:List (List (AV n))}{l:Value}(h:Jv Q w wr n base acc l)(hQ:∀k,base<=k->Q k):∃a c,l=.slice a acc.length c/\acc.length<=c/\Hb Q wr n acc a:=by
 obtain⟨r,o,f⟩:=h.own;obtain⟨a,c,rfl,j,e⟩:=Gv o;refine⟨a,c,rfl,j,e.imp id ?_⟩;rintro⟨g,rfl,m,d,b⟩;refine⟨g,0,rfl,d,hQ g m,fun i row hi=>?_⟩;obtain⟨v,q,p⟩:=f.2 i row hi;exact⟨v,by rw[Nat.zero_add];exact b i v q,p.fr (Fr.refl _ _) (fun _ _ h=>h.1)⟩
theorem T8 {R:Nat->Prop}{w:World}{n g:Nat}{s:Option Addr}(bs:List (AV n))(h:w.heap[g]?=some (.cells #[.slice s 0 0] 28 (0,0)))(hR:R g):Hb R w n (Ak bs 0) (some ⟨g,0,none⟩):=by
 refine .inr ⟨g,0,rfl,Aa h,hR,fun i row hi=>?_⟩;cases i with
 | zero =>
  simp[Ak] at hi;subst hi;exact⟨_,by rw[Nat.zero_add];exact Ab h 0,s,0,rfl,Ad9 _,B9 _ _ _ _⟩
 | succ i=>simp[Ak] at hi
theorem Pe (W:World)(v:Value)(t:TypeId)(h:v.oneCell'=true):Src (W.alloc (.cells #[v] t)) (some ⟨W.heap.size,0,none⟩) 1 [v]:=by
 have a:(W.alloc (.cells #[v] t)).heap[W.heap.size]?=_:=Af rfl;refine⟨rfl,by simp[h],.inr ⟨_,0,rfl,Aa a,fun q u hu=>?_⟩⟩;rw[Nat.zero_add,Ab a q];simpa using hu
theorem xB {Q:Nat->Prop}{W1 W2 w3:World}{n g cap L:Nat}{acc:List (AV n)}{sl:Value}{hs:List H5}{u:H5}{y:AV n}(hQ:¬Q W1.heap.size)
  (hbx:W2.heap[W1.heap.size]?=some (.cells #[.int .i64 5,.int .i64 0,.string ⟨#[]⟩,sl,.slice none 0 0] 30 (0,0))) (ho:W2.ownsRow (W1.heap.size+1) 30 5 sl hs.length (Bi hs)) (hA:Are (fun q=>Q q/\some q≠sl.ownBlock) W2 n acc hs) (hl:Below W1.heap.size W1 W2) (hy:Ref (fun q=>Q q/\some q≠sl.ownBlock) W2 n y u.v)
  (ho3:Gh w3 (W1.heap.size+1) g cap (hs++[u])) (hf:Fr (fun k=>k<W2.heap.size/\sl.ownBlock≠some k) W2 w3) (hat:sl.ownBlock=some g\/W2.heap.size<=g) (hL:L=hs.length+1) :
  (w3.setCell ⟨W1.heap.size,3,none⟩ (.slice (some ⟨g,0,none⟩) L cap)).heap[W1.heap.size]?=some (.cells #[.int .i64 5,.int .i64 0,.string ⟨#[]⟩,.slice (some ⟨g,0,none⟩) L cap,.slice none 0 0] 30 (0,0)) /\
  (w3.setCell ⟨W1.heap.size,3,none⟩ (.slice (some ⟨g,0,none⟩) L cap)).ownsRow (W1.heap.size+1) 30 5 (.slice (some ⟨g,0,none⟩) L cap) (hs++[u]).length (Bi (hs++[u])) /\
  Are (fun q=>Q q/\some q≠(Value.slice (some ⟨g,0,none⟩) L cap).ownBlock) (w3.setCell ⟨W1.heap.size,3,none⟩ (.slice (some ⟨g,0,none⟩) L cap)) n (acc++[y]) (hs++[u]) /\
  Below W1.heap.size W1 (w3.setCell ⟨W1.heap.size,3,none⟩ (.slice (some ⟨g,0,none⟩) L cap)):=by
 have d:=ho3.low;have e:(hs++[u]).length=L:=by simp[hL]
 have b:=(hf.block _ (Aa hbx) ⟨Aa hbx,fun h=>by have:=Rg ho h;omega⟩).trans hbx;have c:Fr (fun q=>Q q/\some q≠_) W2 (w3.setCell ⟨W1.heap.size,3,none⟩ (.slice (some ⟨g,0,none⟩) L cap)):=Fr.set ⟨hf.os,hf.tape,hf.output,hf.size,fun i hi hp=>hf.block i hi ⟨hi,fun h=>hp.2 h.symm⟩⟩ (fun h=>hQ h.1) _;have a:Fr (fun q=>q<W1.heap.size) W1 (w3.setCell ⟨W1.heap.size,3,none⟩ (.slice (some ⟨g,0,none⟩) L cap)):=Fr.set ⟨hf.os.trans hl.os,hf.tape.trans hl.tape,hf.output.trans hl.output,Ae0 hl.size hf.size,fun i hi _=>(hf.block i (Ad8 hi hl.size) ⟨Ad8 hi hl.size,fun h=>by have:=Rg ho h;omega⟩).trans (hl.block i hi)⟩ (by simp) _;refine⟨Ai b 3 _,?_,(hA.app (Are.one hy)).frQ c ?_,⟨a.os,a.tape,a.output,a.size,fun i hi=>a.block i hi hi⟩⟩
 ·have h:=ho3.owns;rw[e] at h |-;exact Bo h (fun q hq _=>Below.heap_setCell _ _ _ _ (by simp;omega))
 ·intro q hq hp;refine⟨hp.1,fun h=>?_⟩;simp only[Value.ownBlock,Option.some.injEq] at h;subst h;rcases hat with h|h
  ·exact hp.2 h.symm
  ·omega
theorem tI {n:Nat}{ks us:List (AV n)}(ha:Asc (Al n) ks)(hl:ks.length=us.length)(hw:1+wtL (wt n) ks<=1024):(mkP (wt n) (Dp (Al n) (ks.zip us)):Ag (AV n))=mkF (wt n) ks us:=by
 have a:(ks.zip us).map _=ks:=List.map_fst_zip (by omega);have b:(ks.zip us).map _=us:=List.map_snd_zip (by omega);rw[V8 _ (by rw[a];exact ha)];unfold mkP;rw[a,b,if_pos hw]
theorem tJ {n:Nat}{acc:List (AV n)}{y:AV n}(h:Asc (Al n) (acc++[y])):B6 n acc y=acc.length/\Ch n acc y=false:=by
 have a:=fun x hx=>(List.pairwise_append.1 h).2.2 x hx y (by simp);constructor
 ·unfold B6;rw[List.filter_eq_self.2 (fun x hx=>by simpa using a x hx)]
 ·unfold Ch;rw[List.any_eq_false];intro x hx;have:=a x hx;simp;omega
theorem tK {n:Nat}{ks us:List (AV n)}(h1:∀x∈ks,Wgt n x)(h2:∀x∈us,Wgt n x):wtR (n+1) (fnA n ks us)=wt (n+1) (fnA n ks us):=by
 rw[Te];show 1+wtL (wtR n) ks+wtL (wtR n) us=_;rw[Dz ks (fun x hx=>(h1 x hx).1),Dz us (fun x hx=>(h2 x hx).1)]
theorem T9 {P:Nat->Prop}{W1 wr w3:World}{n q:Nat}{row:List (AV n)}{e:AV n}{hs2:List H5}{u:H5}{a:Option Addr}{c:Nat}{R:Nat->Prop}(hA:Are P W1 n row hs2)(he:Ref P W1 n e u.v)(hq:row.length=q)(q9:q<=1048576)(hlow:Below W1.heap.size W1 wr)(hb:Below wr.heap.size wr w3)(ho:w3.ownsRow wr.heap.size 30 5 (.slice a (q+1) c) (q+1) (Bi (hs2++[u])))(hR:∀k,k<W1.heap.size->P k->R k)(hR2:∀k,wr.heap.size<=k->R k):H7 R w3 n (row++[e]) (.slice a (q+1) c):=by
 have b:=hA.app (Are.one he);have d:(hs2++[u]).length=q+1:=by rw[b.1,List.length_append,hq];rfl
 have f:=ho;rw[<- d] at f;obtain⟨s,o,l,m,i⟩:=Bu (by rw[d] at f |-;exact ho) b (by rw[d];omega) (Fr.below (hlow.trans (hb.mono hlow.size))) hR2 hR;simp only[Value.slice.injEq] at m;obtain⟨rfl,rfl,rfl⟩:=m;have j:(row++[e]).length=q+1:=by simp[hq]
 refine⟨a,c,by rw[j],?_,by rw[j];exact i⟩;rw[j];rcases ho.2 with⟨h,_⟩|⟨g,p,r,h,_,_,t,_⟩
 ·simp at h
 ·simp at h;omega
theorem eY (n:Nat)(P:Nat->Prop)(w:World)(a1 a2:Option Addr)(l1 c1 l2 c2:Nat)(ks bs:List (AV (n+1)))(h1:Bm P w (Ref P w (n+1)) a1 l1 ks)(h2:Bm P w (Ref P w (n+1)) a2 l2 bs)(hP:∀k,w.heap.size<=k->P k)(hAk:Asc (Al (n+1)) ks)(hAb:Asc (Al (n+1)) bs)(hWk:∀x∈ks,Wgt (n+1) x)(hWb:∀x∈bs,Wgt (n+1) x)(hw1:1+wtL (wt (n+1)) ks<=1024)(hl1:l1<=1024)(hl2:l2<=1024) :
  Calls prog 93 #[.slice a1 l1 c1,.slice a2 l2 c2] w (Aw P w (n+3) (I8 (n+1) ks bs)):=by
 have o5:Hid (Bm P w _ a1 l1 ks):=h1;have o6:Hid (Bm P w _ a2 l2 bs):=h2;have f5:Hid (l1=ks.length):=h1.1;have b0:Hid (l2=bs.length):=h2.1;have HP:Hid _:=hP;have n8:Hid (Asc (Al (n+1)) ks):=hAk;have n7:Hid (Asc (Al (n+1)) bs):=hAb;have j9:Hid _:=hWk;have j8:Hid _:=hWb;have o9:Hid _:=hw1;clear h1 h2 hP hAk hAb hWk hWb hw1;have mo:=follows;go_enter func93,ntmps93
 go_wp2_with fail
 obtain⟨i0,p9,r6,r7,r8⟩:=info_parts eX;have r4:prog.underlying 147=some (.slice 28):=by kernel_rfl
 have G0:Hid (Below _ w (((w.alloc (.cells #[.int .i64 0,.int .i64 0,.string ⟨#[]⟩,.slice none 0 0,.slice none 0 0] 30)).alloc (.cells #[] 30)).alloc (.cells #[.slice (some ⟨w.heap.size+1,0,none⟩) 0 0] 28))):=((((Ac.refl w).alloc _).alloc _).alloc _).below;have X0:Hid ((((w.alloc (.cells #[.int .i64 0,.int .i64 0,.string ⟨#[]⟩,.slice none 0 0,.slice none 0 0] 30)).alloc (.cells #[] 30)).alloc (.cells #[.slice (some ⟨w.heap.size+1,0,none⟩) 0 0] 28)).heap[w.heap.size]?=_):=Ac1 (((Ac.refl _).alloc _).alloc _).below (Af rfl);have R0:Hid (Hb (fun k=>P k/\k≠w.heap.size) (((w.alloc (.cells #[.int .i64 0,.int .i64 0,.string ⟨#[]⟩,.slice none 0 0,.slice none 0 0] 30)).alloc (.cells #[] 30)).alloc (.cells #[.slice (some ⟨w.heap.size+1,0,none⟩) 0 0] 28)) (n+1) _ (some ⟨w.heap.size+1+1,0,none⟩)):=T8 bs (Af (by simp)) ⟨HP.out _ (by omega),by omega⟩;generalize ((w.alloc _).alloc _).alloc _=W0 at G0 X0 R0 |-;go_loopw [5,6,7] (fun rs i _ wr=>∃(k r c:Nat)(a:Option Addr),k<=l1/\i=.int .i64 k/\rs=.slice a r c/\r<=1024/\Hid (r=(Ak bs k).length)/\Hid (Hb (fun k=>P k/\k≠w.heap.size) wr (n+1) (Ak bs k) a)/\Hid (Below w.heap.size w wr)/\Hid (wr.heap[w.heap.size]?=some (.cells #[.int .i64 0,.int .i64 0,.string ⟨#[]⟩,.slice none 0 0,.slice none 0 0] 30 (0,0)))) (fun _ i _ _=>l1-(intOf i).toNat)
 case atStart=>exact⟨0,1,1,_,Ae1 _,rfl,rfl,by omega,rfl,R0,G0,X0⟩
 case round =>
  clear R0 G0 X0;obtain⟨k,r,c,a,hk,rfl,rfl,r0,J,b2,U,HX⟩:=hrel;by_cases q8:k<l1
  ·obtain⟨m,hm⟩:∃m,r*l2=m:=⟨_,rfl⟩;have t8:m<=1048576:=by rw[<- hm];exact Nat.mul_le_mul r0 hl2
   have hw:wrap64 ((r:Int)*(l2:Int))=(m:Int):=by
    rw[<- Int.natCast_mul,hm];unfold wrap64;omega
   by_cases p5:m<=1024
   ·have h4:¬(1024:Int)<(m:Int):=by omega
    obtain⟨C,f9⟩:∃C,C=wr:=⟨_,rfl⟩;subst f9;have i8:Hid (r*l2=m):=hm;clear hm;go_wp2_with fail
    go_loopw [7,8] (fun mo i wr=>∃G:Nat,G<=r/\i=.int .i64 G/\Hid (Jv (fun k=>P k/\k≠w.heap.size) C wr (n+1) C.heap.size (Bb ((Ak bs k).take G) bs) mo)) (fun _ i _=>r-(intOf i).toNat)
    case atStart=>exact⟨0,Ae1 _,rfl,⟨⟨[],World.ownsRow_nil _ _ _ _,rfl,fun i x hx=>by simp[Bb] at hx⟩,Below.refl _ _⟩⟩
    case round =>
     obtain⟨G,t6,rfl,HG⟩:=hrel;by_cases k9:G<r
     ·have q7:G<(Ak bs k).length:=by rw[<- J.out];exact k9
      obtain⟨p0,o0,g1,b8,_,b6⟩:=b2.out.resolve_left (by omega);subst g1;obtain⟨d,E⟩:∃x,(Ak bs k)[G]?=some x:=⟨_,List.getElem?_eq_getElem q7⟩;obtain⟨v0,T,a',c',rfl,g2,H⟩:=b6 G d E;have a6:=Co k d (Ae4 E);rw[a6] at T H;obtain⟨c4,S2,A2⟩:=Jm H;have j5:Hid (Hl C a' k c4):=S2;have i2:Hid (Are _ C (n+1) d c4):=A2;have j2:Hid (d.length=k):=a6;have a8:Hid _:=E;have j7:Hid _:=T;have i5:Hid (Jv (fun k=>P k/\k≠w.heap.size) C wr (n+1) C.heap.size (Bb ((Ak bs k).take G) bs++(bs.take 0).map (fun x=>d++[x])) u7):=by
       show Jv _ _ _ _ _ _ _;rw[List.take_zero,List.map_nil,List.append_nil];exact HG.out
      clear b6 T E g2 H a6 S2 A2 HG;go_wp2_with fail
      go_loopw [7,9,10] (fun mo i _ wr=>∃j:Nat,j<=l2/\i=.int .i64 j/\Hid (Jv (fun k=>P k/\k≠w.heap.size) C wr (n+1) C.heap.size (Bb ((Ak bs k).take G) bs++(bs.take j).map (fun x=>d++[x])) mo)) (fun _ i _ _=>l2-(intOf i).toNat)
      case atStart=>exact⟨0,Ae1 _,rfl,i5⟩
      case round =>
       clear i5;obtain⟨j,hj,rfl,Y⟩:=hrel;by_cases g4:j<l2
       ·have q0:j<bs.length:=by rw[<- b0.out];exact g4
        obtain⟨b,c7,q6,a5,p8,k7⟩:=o6.out.2.2.resolve_left (by omega);subst q6;obtain⟨e,E⟩:∃x,bs[j]?=some x:=⟨_,List.getElem?_eq_getElem q0⟩;obtain⟨v,hf,hr⟩:=k7 j e E;obtain⟨s9,t0,t1,t2,t3,rfl,d0,d1,d2,d3,d4⟩:=hf;obtain⟨h0,g7,g9,g8,h6,h8,h7,l6,-,-,-,-⟩:=id hr;simp only[Value.agg.injEq,Array.mk.injEq,List.cons.injEq,and_true] at l6;obtain⟨rfl,rfl,rfl,rfl,rfl⟩:=l6;have LW:=U.out.trans (Y.out.low.mono U.out.size);have j4:Hid (Ref (fun k=>P k/\k≠w.heap.size) C (n+1) e (⟨.int .i64 e.kind,.int .i64 e.int,.string h0,.slice g7 g9 g8,.slice h6 h8 h7,rfl,rfl,rfl,rfl,rfl⟩:H5).v):=hr.fr (Fr.below U.out) (fun q hq hp=>⟨hp,by omega⟩) _ _ _;have M:Hid (Bb ((Ak bs k).take G) bs++(bs.take (j+1)).map (fun x=>d++[x])=(Bb ((Ak bs k).take G) bs++(bs.take j).map (fun x=>d++[x]))++[d++[e]]):=by
         show _=_;rw[List.take_add_one,E];simp
        have p6:(Bb ((Ak bs k).take G) bs++(bs.take j).map (fun x=>d++[x])).length<=2097152:=by
         rw[List.length_append,M3,List.length_map];have h1:((Ak bs k).take G).length<=1024:=by rw[List.length_take];omega
         have h2:bs.length<=1024:=by rw[<- b0.out];exact hl2
         have h3:=Nat.mul_le_mul h1 h2;have h5:(bs.take j).length<=1024:=by rw[List.length_take];omega
         omega
        generalize _++(bs.take j).map _=acc at Y M p6;have g0:=(Y.out.low.cell (p:=⟨p0,o0+G,none⟩) b8).trans j7.out;have s0:=Ad8 b8 Y.out.low.size;have SP:Hid (Hl wr a' k c4):=j5.out.below Y.out.low;have D0:Hid _:=d0;have D1:Hid _:=d1;have D2:Hid _:=d2;have D3:Hid _:=d3;have D4:Hid _:=d4;have d5:Hid (Below w.heap.size w wr):=LW;clear k7 p8 E hr d0 d1 d2 d3 d4 LW;go_wp2_with (at_builtin;refine Az _ rfl _ _ rfl _ (.slice none 0 0) 0 [] rfl (Ca _ _) a' k c' c4 rfl SP.out (by omega) (Ad9 _) ?_)
        intro x1 w2 l9 N;have B2:Hid (Below _ wr w2):=⟨N.os,N.tape,N.output,N.size,fun q hq=>N.block q hq (by simp[Value.ownBlock])⟩;have O2:Hid ((w2.alloc (.cells #[.int .i64 e.kind,.int .i64 e.int,.string h0,.slice g7 g9 g8,.slice h6 h8 h7] 30)).ownsRow _ 30 5 x1 k _):=Bo l9 (fun g _ hg=>(((Ac.refl w2).alloc _).below).block g hg);have S2:Hid (Hl (w2.alloc (.cells #[.int .i64 e.kind,.int .i64 e.int,.string h0,.slice g7 g9 g8,.slice h6 h8 h7] 30)) _ 1 [(⟨_,_,_,_,_,rfl,rfl,rfl,rfl,rfl⟩:H5)]):=El w2 _;have R:=d5.out.trans (B2.out.mono d5.out.size);have m0:=(R.cell (p:=⟨b,c7+j*5,none⟩) a5).trans D0.out;have m1:=(R.cell (p:=⟨b,c7+j*5+1,none⟩) a5).trans D1.out;have m2:=(R.cell (p:=⟨b,c7+j*5+2,none⟩) a5).trans D2.out;have m3:=(R.cell (p:=⟨b,c7+j*5+3,none⟩) a5).trans D3.out;have m4:=(R.cell (p:=⟨b,c7+j*5+4,none⟩) a5).trans D4.out;have s7:=Ad8 a5 R.size;have g5:=B2.out.size;clear l9 N R SP g0 s0;go_wp2_with (at_builtin;refine Az _ rfl _ _ rfl _ x1 k c4 rfl O2.out _ 1 1 _ rfl S2.out (by omega) ?q1 ?_)
        case q1=>first|omega|(simp;omega)
        intro x2 w3 g6 N;have X:Hid _:=B8 (B2.out.trans ((((Ac.refl w2).alloc _).below).mono B2.out.size)) (Ad9 _) O2.out N;obtain⟨a9,c9,rfl⟩:∃a cc,x2=.slice a (k+1) cc:=Jc g6;have c5:∀g,u7.ownBlock=some g->C.heap.size<=g/\g<wr.heap.size:=by
         obtain⟨u0,q9,-⟩:=Y.out.own;exact fun g hg=>Ix q9 hg
        have IR:H7 (fun k=>(fun k=>P k/\k≠w.heap.size) k/\some k≠_) w3 (n+1) _ _:=T9 i2.out j4.out j2.out (by omega) Y.out.low X.out g6 (fun k hk hp=>⟨hp,fun h=>by have:=(c5 k h.symm).1;omega⟩) (fun k hk=>⟨⟨HP.out k (by have:=d5.out.size;omega),by have:=Aa HX.out;have:=Y.out.low.size;omega⟩,fun h=>by have:=(c5 k h.symm).2;omega⟩);have BV:Below _ wr (w3.alloc (.cells #[.slice a9 (k+1) c9] 28)):=X.out.trans ((((Ac.refl w3).alloc _).below).mono X.out.size);have i6:Hid (H7 _ (w3.alloc (.cells #[.slice a9 (k+1) c9] 28)) (n+1) _ _):=IR.fr (Fr.grew ((Ac.refl w3).alloc _)) (fun _ _ h=>h);have GK:Hid _:=Y.out.keep BV;obtain⟨vs,l0,k6⟩:=GK.out.own;have OV:Hid ((w3.alloc (.cells #[.slice a9 (k+1) c9] 28)).ownsRow _ 28 1 u7 _ vs):=l0;have h9:Hid (Nh (fun k=>(fun k=>P k/\k≠w.heap.size) k/\some k≠_) _ (n+1) acc vs):=k6;have SV:Hid (Src (w3.alloc (.cells #[_] 28)) _ 1 [.slice a9 (k+1) c9]):=Pe w3 _ _ rfl;have t5:=Ae0 Y.out.low.size X.out.size;clear g6 N IR BV l0 k6 O2 S2 m0 m1 m2 m3 m4 s7 B2 X Y c5 D0 D1 D2 D3 D4 d5 j4;go_wp2_with (at_builtin;refine Bz _ rfl _ _ 147 rfl _ 28 i0 _ 24 r4 p9 r6 r7 r8 rfl u7 _ vs rfl OV.out _ 1 1 [_] rfl SV.out ?q3 ?q4 ?q5 ?_)
        case q3=>unfold maxLen;omega
        case q4=>omega
        case q5=>first|omega|(simp;omega)
        intro l4 w4 b7 e6 O;have HN:Hid _:=Jv.push GK.out.low (Ad9 _) h9.out OV.out b7 e6 (by simpa using O) i6.out;rw[<- M.out] at HN;clear b7 e6 O GK OV h9 SV i6 M;go_wp2_with fail
        go_roundw
        case rel=>exact⟨j+1,by omega,by go_num,HN⟩
        case measure=>simp[intOf];omega
       ·obtain rfl:j=l2:=by omega
        have M:Hid (Bb ((Ak bs k).take G) bs++(bs.take j).map (fun x=>d++[x])=Bb ((Ak bs k).take (G+1)) bs):=by
         show _=_;rw[List.take_of_length_le (l:=bs) (by rw[<- b0.out];omega),List.take_add_one,a8.out,Option.toList_some];simp[Bb]
        rw[M.out] at Y;clear M j5 i2 j2 a8 j7;go_wp2_with fail
        go_roundw
        case rel=>exact⟨G+1,by omega,by go_num,Y⟩
        case measure=>simp[intOf];omega
     ·obtain rfl:G=r:=by omega
      have M:Hid (Bb ((Ak bs k).take G) bs=Ak bs (k+1)):=by
       show _=_;rw[List.take_of_length_le (by rw[<- J.out];omega)];rfl
      rw[M.out] at HG;obtain⟨b9,c9,c5,-,c0⟩:=HG.out.rows (fun k hk=>⟨HP.out k (by have:=U.out.size;omega),by have:=Aa HX.out;omega⟩);subst c5;have n9:Hid _:=U.out.trans (HG.out.low.mono U.out.size);have p2:Hid _:=Ac1 HG.out.low HX.out;have o7:Hid (Hb _ wr (n+1) _ b9):=c0;have p7:(Ak bs (k+1)).length<=1024:=by
       have:=i8.out;rw[Fu,<- J.out,<- b0.out];omega
      have o4:Hid (_=(Ak bs (k+1)).length):=rfl;clear M HG c0 U HX b2 J i8;go_wp2_with fail
      go_roundw
      case rel=>exact⟨k+1,_,c9,b9,by omega,by go_num,rfl,p7,o4,o7,n9,p2⟩
      case measure=>simp[intOf];omega
   ·have h4:(1024:Int)<(m:Int):=by omega
    have HZ:Hid _:=Yk (n+1) (by rw[<- f5.out];exact q8) (by rw[<- J.out,<- b0.out];omega);have K0:Hid (∀W,Ref (fun k=>P k/\k≠w.heap.size) W (n+3) (I8 (n+1) ks bs) (.agg #[_,_,_,_,_])):=fun W=>by rw[HZ.out];exact Cm _ W (n+2)
    clear b2 J HZ hm;obtain⟨m5,m6,m7,m8,m9⟩:=Ah HX.out;obtain⟨n1,n2,n3,n4,n5⟩:=Ax HX.out;have n6:=Aa HX.out;have HE:Hid (Aw P w (n+3) _ _ _):=Kb (by omega) U.out (K0.out wr);have XF:Hid ((Ao wr (w.heap.size) 0 (.int .i64 0) (.int .i64 0) (.string ⟨#[]⟩) (.slice none 0 0) (.slice none 0 0)).heap[w.heap.size]?=_):=Bc HX.out _ _ _ _ _;go_wp2_with fail
    obtain⟨k0,k1,G,k3,k4⟩:=Ah XF.out;change bodyPost _ _ _ _ _ (Ao wr _ 0 _ _ _ _ _);exact Ae2 (by simp[results,results93,go_sem,k0,k1,G,k3,k4]) rfl HE.out
  ·obtain rfl:k=l1:=by omega
   obtain⟨C,f9⟩:∃C,C=wr:=⟨_,rfl⟩;subst f9;have d7:Hid _:=HX.out;have D:Hid ((C.alloc (.cells #[.int .i64 5,.int .i64 0,.string ⟨#[]⟩,.slice none 0 0,.slice none 0 0] 30)).heap[C.heap.size]?=_):=Af rfl;have B:Hid (Below _ C (C.alloc (.cells #[.int .i64 5,.int .i64 0,.string ⟨#[]⟩,.slice none 0 0,.slice none 0 0] 30))):=((Ac.refl C).alloc _).below;clear HX;go_wp2_with fail
   generalize C.alloc _=W2 at D B |-;go_loopw [12] (fun i wr=>∃(j:Nat)(V:Value)(hs:List H5),j<=r/\i=.int .i64 j/\Hid (Qn (n+1) ks ((Ak bs k).take j))/\Hid (wr.heap[C.heap.size]?=some (.cells #[.int .i64 5,.int .i64 0,.string ⟨#[]⟩,V,.slice none 0 0] 30 (0,0)))/\Hid (wr.ownsRow (C.heap.size+1) 30 5 V hs.length (Bi hs))/\Hid (Are (fun q=>((P q/\q≠w.heap.size)/\q≠C.heap.size)/\some q≠V.ownBlock) wr (n+2) (((Ak bs k).take j).map (fnA (n+1) ks)) hs)/\Hid (Below C.heap.size C wr)) (fun i _=>r-(intOf i).toNat)
   case atStart=>exact⟨0,_,[],Ae1 _,rfl,fun r hr=>by simp at hr,D,Ca _ _,⟨rfl,fun i x h hx=>by simp at hx⟩,B⟩
   case round =>
    clear D B;obtain⟨j,V,hs,hj,rfl,b1,D,HO,HA,B⟩:=hrel;have l7:hs.length=j:=by
     have h1:=HA.out.1;have h2:=J.out;rw[h1,List.length_map,List.length_take];omega
    have Z:Hid (hs.length=j):=l7;by_cases q2:j<r
    ·have g4:j<(Ak bs k).length:=by rw[<- J.out];exact q2
     obtain⟨p0,o0,g1,b8,_,b6⟩:=b2.out.resolve_left (by omega);subst g1;obtain⟨d,E⟩:∃x,(Ak bs k)[j]?=some x:=⟨_,List.getElem?_eq_getElem g4⟩;obtain⟨v0,T,a',c',rfl,g2,H⟩:=b6 j d E;have d8:=Ae4 E;have a6:d.length=k:=Co k d d8;rw[a6] at T H;have p1:Hid _:=fun x hx=>j8.out x (Ft k d d8 x hx);have f2:Hid (k=ks.length):=f5.out;have K:∀g,_=some g->_+1<=g/\g<_:=fun g hg=>Cp HO.out hg;have r5:=Aa d7.out;have k5:=Aa D.out;have LW:=U.out.trans (B.out.mono U.out.size);have r1:Bm (fun q=>((P q/\q≠w.heap.size)/\q≠C.heap.size)/\some q≠_) wr (Ref (fun q=>((P q/\q≠w.heap.size)/\q≠C.heap.size)/\some q≠_) wr (n+1)) a1 k ks:=o5.out.fr (Fr.below LW) (fun x v=>Ref.fr (Fr.below LW) (fun q hq hp=>⟨⟨⟨hp,by omega⟩,by omega⟩,fun h=>by have:=(K q h.symm).1;omega⟩) (n+1) x v) (fun q hq hp=>⟨⟨⟨hp,by omega⟩,by omega⟩,fun h=>by have:=(K q h.symm).1;omega⟩);have r2:Bm (fun q=>(_/\q≠C.heap.size)/\some q≠_) wr (Ref (fun q=>(_/\q≠C.heap.size)/\some q≠_) wr (n+1)) a' k d:=H.fr (Fr.below B.out) (fun x v=>Ref.fr (Fr.below B.out) (fun q hq hp=>⟨⟨hp,by omega⟩,fun h=>by have:=(K q h.symm).1;omega⟩) (n+1) x v) (fun q hq hp=>⟨⟨hp,by omega⟩,fun h=>by have:=(K q h.symm).1;omega⟩);have HC:Hid (Calls prog 67 #[.slice a1 k c1,.slice a' k c'] wr (Aw (fun q=>((P q/\q≠w.heap.size)/\q≠C.heap.size)/\some q≠V.ownBlock) wr (n+2) (fnB (n+1) ks d))):=by
      have q:=O8 (n+1) _ wr a1 a' k c1 c' ks d r1 r2 (by omega) (fun x hx=>hx.elim (j9.out x) (p1.out x));rw[tI n8.out (by rw[a6];exact f2.out.symm) o9.out] at q;refine Calls.mono q ?_;intro e Q h;exact Ek (fun q hq=>⟨⟨⟨HP.out q (by have:=LW.size;omega),by omega⟩,by omega⟩,fun h=>by have:=(K q h.symm).2;omega⟩) h
     have g0:=(B.out.cell (p:=⟨p0,o0+j,none⟩) b8).trans T;have s0:=Ad8 b8 B.out.size;have a8:Hid _:=E;have o3:Hid (d∈Ak bs k):=d8;clear b6 E g2 H d8 r1 r2 LW T l7;by_cases F:1+wtL (wt (n+1)) ks+wtL (wt (n+1)) d<=1024
     ·have a7:Hid (fnB (n+1) ks d=fnA (n+1) ks d):=if_pos F;rw[a7.out] at HC;have o2:Hid (Qn (n+1) ks ((Ak bs k).take (j+1))):=by
       intro r hr;rw[List.take_add_one,a8.out] at hr;rcases List.mem_append.1 hr with h|h
       ·exact b1.out r h
       ·simp at h;rw[h];exact F
      have c8:Hid (((Ak bs k).take (j+1)).map (fnA (n+1) ks)=((Ak bs k).take j).map (fnA (n+1) ks)++[fnA (n+1) ks d]):=by
       show _=_;rw[List.take_add_one,a8.out,Option.toList_some,List.map_append];rfl
      have b5:Asc (Al (n+2)) (((Ak bs k).take j).map (fnA (n+1) ks)++[fnA (n+1) ks d]):=by
       rw[<- c8.out];have h1:=Yj (n+1) (ks:=ks) n7.out;unfold Yi at h1;rw[<- f2.out] at h1;rw[List.map_take];exact List.Pairwise.sublist (List.take_sublist _ _) h1
      have j0:=tJ b5;have f0:Hid (Asc (Al (n+2)) (((Ak bs k).take j).map _)):=(List.pairwise_append.1 b5).1;clear b5 F a7;generalize ((Ak bs k).take j).map (fnA (n+1) ks)=acc at HA c8 j0 f0;obtain⟨l3,k8⟩:=j0;have e5:Hid (B6 (n+2) acc (fnA (n+1) ks d)=j):=by
       show _=_;rw[l3,<- HA.out.1,Z.out]
      have d9:Hid _:=k8;clear l3 k8;go_wp2_with fail
      refine HC.out.mono ?_;rintro e Q ⟨t,rfl,hb,hr⟩;obtain⟨I,f,s,o,u,A,z,rfl⟩:∃I f s o u A z,t=.agg #[.int .i64 6,.int .i64 0,.string I,.slice f s o,.slice u A z]:=by
       obtain⟨I,f,s,o,u,A,z,h,-,-,-,-⟩:=id hr;exact⟨I,f,s,o,u,A,z,h⟩
      have WB:Below _ wr (Q.alloc (.cells #[.int .i64 6,.int .i64 0,.string I,.slice f s o,.slice u A z] 30)):=hb.trans ((((Ac.refl Q).alloc _).below).mono hb.size);have f8:Hid (Ref _ (Q.alloc (.cells #[.int .i64 6,.int .i64 0,.string I,.slice f s o,.slice u A z] 30)) (n+2) _ _):=Ref.fr (Fr.grew ((Ac.refl Q).alloc _)) (fun _ _ h=>h) _ _ _ hr;have i3:Hid _:=Ac1 WB D.out;have i4:Hid ((Q.alloc (.cells #[.int .i64 6,.int .i64 0,.string I,.slice f s o,.slice u A z] 30)).heap[Q.heap.size]?=_):=Af rfl;have f7:Hid ((Q.alloc (.cells #[.int .i64 6,.int .i64 0,.string I,.slice f s o,.slice u A z] 30)).ownsRow _ 30 5 V _ _):=Bo HO.out (fun g _ hg=>WB.block g hg);have e8:Hid (Are _ _ (n+2) acc hs):=HA.out.frQ (Fr.below WB) (fun _ _ h=>h);have f6:Hid _:=B.out.trans (WB.mono B.out.size);have t4:=Ad8 k5 hb.size;have r3:hs.length<=1048576:=by rw[Z.out];omega
      have c3:_=some V:=Ab (Ac1 hb D.out) 3;clear hb hr WB HC D HO HA B g0 s0 K k5;have i9:Hid (Calls prog 83 #[V,.agg #[.int .i64 6,.int .i64 0,.string I,.slice f s o,.slice u A z]] (Q.alloc (.cells #[.int .i64 6,.int .i64 0,.string I,.slice f s o,.slice u A z] 30)) fun e w2=>e=.returned (.tuple #[.int .i64 j,.bool false])/\Ac (Q.alloc (.cells #[.int .i64 6,.int .i64 0,.string I,.slice f s o,.slice u A z] 30)) w2):=by
       obtain⟨a9,c6,b3,e9,S⟩:=Bu f7.out e8.out (by omega) (Fr.refl _ _) (fun _ _=>trivial) (fun _ _ _=>trivial);have q:=J8 (n+2) _ _ a9 c6 b3 acc _ _ S (f8.out.fr (Fr.refl _ _) (fun _ _ _=>trivial) _ _ _) f0.out ⟨_,_,_,_,_,rfl⟩;rw[e5.out,d9.out,<- e9] at q;exact q
      clear e5 d9 f0;go_wp2_with fail
      refine i9.out.mono ?_;rintro e W3 ⟨rfl,hg⟩;have X:=hg.below;have L:Hid _:=Ac1 X i3.out;have f1:Hid _:=Ac1 X i4.out;have d6:Hid (W3.ownsRow _ 30 5 V _ _):=Bo f7.out (fun g _ hg=>X.block g hg);have i1:Hid (Are _ W3 (n+2) acc hs):=e8.out.frQ (Fr.below X) (fun _ _ h=>h);have i7:Hid _:=f6.out.trans (X.mono f6.out.size);have j3:Hid (Ref _ W3 (n+2) _ ((⟨.int .i64 6,.int .i64 0,.string I,.slice f s o,.slice u A z,rfl,rfl,rfl,rfl,rfl⟩:H5)).v):=Ref.fr (Fr.below X) (fun _ _ h=>h) _ _ _ f8.out;have j1:Hid (Calls prog 84 #[V,.int .i64 j,.agg #[.int .i64 6,.int .i64 0,.string I,.slice f s o,.slice u A z]] W3 fun e w4=>∃g cap,e=.returned (.slice (some ⟨g,0,none⟩) (j+1) cap)/\Gh w4 (C.heap.size+1) g cap (hs++[(⟨.int .i64 6,.int .i64 0,.string I,.slice f s o,.slice u A z,rfl,rfl,rfl,rfl,rfl⟩:H5)])/\Fr (fun k=>k<W3.heap.size/\V.ownBlock≠some k) W3 w4/\(V.ownBlock=some g\/W3.heap.size<=g)):=by
       have q:=Ur W3 _ V hs (⟨.int .i64 6,.int .i64 0,.string I,.slice f s o,.slice u A z,rfl,rfl,rfl,rfl,rfl⟩:H5) _ (Ad9 _) d6.out (by have:=L.out;have:=Aa this;omega) r3;rw[List.take_length,List.drop_length,Z.out] at q;exact q
      have c3:=Ab L.out 3;have f3:=Ad L.out 3;have z3:=Aa L.out;obtain⟨e0,e1,e2,e3,e4⟩:=Ah f1.out;have z4:=Aa f1.out;clear hg X i3 i4 f7 e8 f6 f8 i9;go_wp2_with fail
      refine j1.out.mono ?_;rintro e w4 ⟨g,s8,rfl,b7,g3,O⟩;obtain⟨kb,ko,ka,kl⟩:=xB (fun h=>h.2 rfl) L.out d6.out i1.out i7.out j3.out b7 g3 O (show j+1=_+1 by rw[Z.out]);have b4:=(g3.block _ (Aa L.out) ⟨Aa L.out,fun h=>by have:=Rg d6.out h;omega⟩).trans L.out;have d3:=Ab b4 3;have f4:=Ad b4 3;have z5:=Aa b4;have KB:Hid _:=kb;have KO:Hid _:=ko;have KA:Hid _:=ka;have KL:Hid _:=kl;rw[<- c8.out] at KA;clear kb ko ka kl b4 b7 g3 O L f1 d6 i1 i7 j3 j1 c3 f3 z3 e0 e1 e2 e3 e4 z4 c8;go_wp2_with fail
      generalize w4.setCell _ _=WN at KB KO KA KL |-;go_roundw
      case rel=>exact⟨j+1,_,_,by omega,by go_num,o2,KB,KO,KA,KL⟩
      case measure=>simp[intOf];omega
     ·have a7:Hid (fnB (n+1) ks d=_):=if_neg F;rw[a7.out] at HC;have HZ:Hid (I8 (n+1) ks bs=Ar):=by
       show _=_;unfold I8;rw[if_neg (fun h=>F (h d (by rw[<- f2.out];exact o3.out)))]
      clear a7 F;go_wp2_with fail
      refine HC.out.mono ?_;rintro e Q ⟨t,rfl,hb,hr⟩;obtain⟨I,f,s,o,u,A,z,rfl⟩:∃I f s o u A z,t=.agg #[.int .i64 0,.int .i64 0,.string I,.slice f s o,.slice u A z]:=by
       obtain⟨I,f,s,o,u,A,z,h,-,-,-,-⟩:=id hr;exact⟨I,f,s,o,u,A,z,h⟩
      have RX:Hid _:=Ac1 hb (Ac1 B.out d7.out);have LX:=U.out.trans ((B.out.trans (hb.mono B.out.size)).mono U.out.size);have F2:Fr (fun k=>k<w.heap.size) w (Ao Q w.heap.size 0 (.int .i64 0) (.int .i64 0) (.string ⟨#[]⟩) (.slice none 0 0) (.slice none 0 0)):=Cz (Fr.below LX) (by simp) _ _ _ _ _ _;have L2:Below _ w _:=⟨F2.os,F2.tape,F2.output,F2.size,fun i hi=>F2.block i hi hi⟩;have GA:Ac _ ((Ao Q w.heap.size 0 (.int .i64 0) (.int .i64 0) (.string ⟨#[]⟩) (.slice none 0 0) (.slice none 0 0)).alloc (.cells #[.int .i64 0,.int .i64 0,.string I,.slice f s o,.slice u A z] 30)):=(Ac.refl _).alloc _;have XF:Hid _:=Ac1 GA.below (Bc RX.out _ _ _ _ _);have HE:Hid (Aw P w (n+3) (I8 (n+1) ks bs) (.returned Bk) ((Ao Q w.heap.size 0 (.int .i64 0) (.int .i64 0) (.string ⟨#[]⟩) (.slice none 0 0) (.slice none 0 0)).alloc (.cells #[.int .i64 0,.int .i64 0,.string I,.slice f s o,.slice u A z] 30))):=by
       rw[HZ.out];exact Dj (n+2) (L2.trans (GA.below.mono L2.size))
      obtain⟨m5,m6,m7,m8,m9⟩:=Ah RX.out;obtain⟨n1,n2,n3,n4,n5⟩:=Ax RX.out;have n6:=Aa RX.out;clear hb hr LX F2 L2 GA HC;go_wp2_with fail
      obtain⟨k0,k1,G,k3,k4⟩:=Ah XF.out;change bodyPost _ _ _ _ _ ((Ao Q w.heap.size 0 (.int .i64 0) (.int .i64 0) (.string ⟨#[]⟩) (.slice none 0 0) (.slice none 0 0)).alloc (.cells #[_,_,_,_,_] 30));exact Ae2 (by simp[results,results93,go_sem,Bk,k0,k1,G,k3,k4]) rfl HE.out
    ·obtain rfl:j=r:=by omega
     have j6:Hid ((Ak bs k).take j=Ak bs ks.length):=by
      show _=_;rw[List.take_of_length_le (by rw[<- J.out];omega),f5.out]
     rw[j6.out] at b1 HA;have r5:=Aa d7.out;have LW:Hid _:=U.out.trans (B.out.mono U.out.size);have XW:Hid _:=Ac1 B.out d7.out;have o1:Hid (Calls prog 85 #[.agg #[.int .i64 5,.int .i64 0,.string ⟨#[]⟩,V,.slice none 0 0]] wr (Aw (fun k=>P k/\k≠w.heap.size) wr (n+3) (I8 (n+1) ks bs))):=by
      obtain⟨a9,c6,b3,e9,S⟩:=Bu HO.out HA.out (by omega) (Fr.refl _ _) (fun g hg=>⟨HP.out g (by omega),by omega⟩) (fun _ _ h=>h.1.1);subst e9;have l8:∀x∈(Ak bs ks.length).map (fnA (n+1) ks),wtR (n+2) x=wt (n+2) x/\wt (n+2) x<=1024:=by
       intro x hx;obtain⟨n0,e7,rfl⟩:=List.mem_map.1 hx;refine⟨tK j9.out (fun y hy=>j8.out y (Ft _ n0 e7 y hy)),?_⟩;rw[Te];exact b1.out n0 e7
      have hw1:_=wtL (wt (n+2)) ((Ak bs ks.length).map _):=Dz _ (fun x hx=>(l8 x hx).1);have t9:=Mh (wt (n+2)) ((Ak bs ks.length).map _) (fun x hx=>(l8 x hx).2);have t7:((Ak bs ks.length).map (fnA (n+1) ks)).length=j:=by rw[<- HA.out.1];exact Z.out
      have l5:Ref _ wr (n+3) (Bt _:_) (.agg #[.int .i64 5,.int .i64 0,_,_,_]):=⟨⟨#[]⟩,a9,c6,b3,none,0,0,rfl,rfl,S,B9 _ _ _ _,Ad9 _⟩;have g5:wtR (n+3) (Bt ((Ak bs ks.length).map (fnA (n+1) ks)):Ag (AV (n+2)))=1+wtL (wt (n+2)) ((Ak bs ks.length).map (fnA (n+1) ks)):=by
       show 1+wtL (wtR (n+2)) ((Ak bs ks.length).map (fnA (n+1) ks))+0=_;rw[hw1];rfl
      have q:=Lu (n+2) _ wr _ _ l5 (by rw[g5];omega);rw[g5] at q;have HZ:I8 (n+1) ks bs=if 1+wtL (wt (n+2)) ((Ak bs ks.length).map (fnA (n+1) ks))<=1024 then Bt ((Ak bs ks.length).map (fnA (n+1) ks)) else Ar:=by
       unfold I8;rw[if_pos b1.out];rfl
      refine q.mono ?_;rintro e Q ⟨rfl,hg⟩;rw[HZ];split
      ·exact⟨_,rfl,hg.below,l5.grew hg⟩
      ·exact Dj (n+2) hg.below
     have a0:=Ab D.out 0;have p3:=Ab D.out 1;have p4:=Ab D.out 2;obtain⟨-,-,-,a3,a4⟩:=Ah D.out;have zo:=Aa D.out;clear HO HA b1 j6 B b2 J Z;go_wp2_with fail
     refine o1.out.mono ?_;clear a0 p3 p4 a3 a4;rintro e w5 ⟨t,rfl,hb,hr⟩;obtain⟨s3,r9,s2,s1,s4,s6,s5,rfl,-,-,-,-⟩:=id hr;have RZ:Hid _:=Ac1 hb XW.out;have LZ:Hid _:=(LW.out).trans (hb.mono (LW.out).size);have o8:Hid (Ref _ w5 (n+3) _ (.agg #[.int .i64 (I8 (n+1) ks bs).kind,.int .i64 (I8 (n+1) ks bs).int,_,_,_])):=hr;clear hb hr;obtain⟨m5,m6,m7,m8,m9⟩:=Ah RZ.out;obtain⟨n1,n2,n3,n4,n5⟩:=Ax RZ.out;have n6:=Aa RZ.out;have HE:Hid (Aw P w (n+3) _ _ _):=Kb (by omega) LZ.out o8.out;have XF:Hid ((Ao w5 (w.heap.size) 0 (.int .i64 (I8 (n+1) ks bs).kind) (.int .i64 (I8 (n+1) ks bs).int) (.string s3) (.slice r9 s2 s1) (.slice s4 s6 s5)).heap[w.heap.size]?=_):=Bc RZ.out _ _ _ _ _;go_wp2_with fail
     obtain⟨k0,k1,G,k3,k4⟩:=Ah XF.out;change bodyPost _ _ _ _ _ (Ao w5 _ 0 (.int .i64 (I8 (n+1) ks bs).kind) (.int .i64 (I8 (n+1) ks bs).int) _ _ _);exact Ae2 (by simp[results,results93,go_sem,k0,k1,G,k3,k4]) rfl HE.out
theorem eZ (n:Nat)(P:Nat->Prop)(w:World)(x y:Ag (AV (n+1)))(u v:Value)(hx:Ref P w (n+2) x u)(hy:Ref P w (n+2) y v)(hP:∀k,w.heap.size<=k->P k)(hA:Asc (Al (n+1)) y.keys)(hAx:Asc (Al (n+1)) x.keys)(hl1:x.keys.length<=1024)(hl2:y.keys.length<=1024)(z:AV (n+3))
  (hWx:∀t∈x.keys,Wgt (n+1) t) (hWy:∀t∈y.keys,Wgt (n+1) t) (hw1:1+wtL (wt (n+1)) x.keys<=1024) (h1:x.kind=5) (h2:y.kind=5) (hz:z=(I8 (n+1) x.keys y.keys:Ag (AV (n+2)))) :
  Calls prog 51 #[.string ⟨#[45,62]⟩,u,v] w (Aw P w (n+3) z):=by
 obtain⟨s,L,o,U,va,vl,vc,rfl,-,V,-,-⟩:=id hx;obtain⟨s',f,d,m,M,O,N,rfl,-,r2,-,-⟩:=id hy;have mo:=follows;obtain⟨C,A0,B0,R0⟩:=Qf w #[.int .i64 x.kind,.int .i64 x.int,.string s,.slice L o U,.slice va vl vc] #[.int .i64 y.kind,.int .i64 y.int,.string s',.slice f d m,.slice M O N] #[.int .i64 0,.int .i64 0,.string ⟨#[]⟩,.slice none 0 0,.slice none 0 0] 30;have z0:(((w.alloc (.cells #[.int .i64 x.kind,.int .i64 x.int,.string s,.slice L o U,.slice va vl vc] 30)).alloc (.cells #[.int .i64 y.kind,.int .i64 y.int,.string s',.slice f d m,.slice M O N] 30)).alloc (.cells #[.int .i64 0,.int .i64 0,.string ⟨#[]⟩,.slice none 0 0,.slice none 0 0] 30)).heap.size=w.heap.size+3:=by simp
 have R:Hid (Bm (fun k=>P k/\k≠w.heap.size+1+1) _ (Ref (fun k=>P k/\k≠w.heap.size+1+1) _ (n+1)) L o x.keys):=V.fr (Fr.grew C.out) (fun x v=>Ref.fr (Fr.grew C.out) (fun k hk hp=>⟨hp,by omega⟩) (n+1) x v) (fun k hk hp=>⟨hp,by omega⟩);have S:Hid (Bm (fun k=>P k/\k≠w.heap.size+1+1) _ (Ref (fun k=>P k/\k≠w.heap.size+1+1) _ (n+1)) f d y.keys):=r2.fr (Fr.grew C.out) (fun x v=>Ref.fr (Fr.grew C.out) (fun k hk hp=>⟨hp,by omega⟩) (n+1) x v) (fun k hk hp=>⟨hp,by omega⟩);have HP:Hid _:=hP;have HA:Hid (Asc (Al (n+1)) y.keys):=hA;have G:Hid (o=x.keys.length):=V.1;have a5:o<=1024:=by have:=V.1;omega
 have J:d<=1024:=by have:=r2.1;omega
 clear hx hy hP hA V r2;have b1:(((x.kind:Nat):Int)==5)=true:=by rw[h1];rfl
 have b2:(((y.kind:Nat):Int)==5)=true:=by rw[h2];rfl
 have F:Hid _:=hz;have Y:Hid (Asc (Al (n+1)) x.keys):=hAx;have a1:Hid _:=hWx;have a2:Hid _:=hWy;have a0:Hid _:=hw1;clear hz h1 h2 hAx hWx hWy hw1;go_enter func51,ntmps51
 go_wp2_with fail
 generalize ((w.alloc _).alloc _).alloc _=W0 at C A0 B0 R0 R S z0 |-;go_loopw [9,10,11] (fun l ms i wr=>∃k:Nat,k<=o/\i=.int .i64 k/\ms=.bool ((x.keys.take k).any (fun e=>!Ch (n+1) y.keys e))/\Hid (I5 (fun k=>P k/\k≠w.heap.size+1+1) W0 wr (n+1) (w.heap.size+3) ((x.keys.take k).filter (fun e=>false)) l)) (fun _ _ i _=>o-(intOf i).toNat)
 case atStart=>exact⟨0,Ae1 _,rfl,rfl,⟨⟨[],Ca _ _,rfl,by simp⟩,Below.refl _ _⟩⟩
 case round =>
  obtain⟨k,hk,rfl,rfl,a⟩:=hrel;have Q:Hid _:=Ac1 a.out.low A0.out;have E:Hid _:=Ac1 a.out.low B0.out;have i3:=Ab Q.out 3;have za:=Aa Q.out;by_cases b6:k<o
  ·have a6:k<x.keys.length:=by have:=G.out;omega
   obtain⟨b,b7,a4,H,a3,I⟩:=R.out.2.2.resolve_left (by omega);subst a4;have B:=List.getElem?_eq_getElem a6;obtain⟨v,hf,p⟩:=I k x.keys[k] B;have c:Hid _:=B;generalize x.keys[k]=e at p c;obtain⟨c0,c1,c2,c3,c4,rfl,d0,d1,d2,d3,d4⟩:=hf;obtain⟨b0,a7,a9,a8,b3,b5,b4,K,-,-,-,-⟩:=id p;simp only[Value.agg.injEq,Array.mk.injEq,List.cons.injEq,and_true] at K;obtain⟨rfl,rfl,rfl,rfl,rfl⟩:=K;have A:Hid (Ref _ W0 (n+1) e _):=p;have HH:Hid _:=fun W hW=>Ol (n+1) _ W f d m y.keys e _ (S.out.fr (Fr.below hW) (fun x v=>Ref.fr (Fr.below hW) (fun k _ hp=>hp) (n+1) x v) (fun k _ hp=>hp)) (A.out.fr (Fr.below hW) (fun k _ hp=>hp) _ _ _) HA.out;have zv:=Ad8 H a.out.low.size;have zb:=Aa E.out;obtain⟨m0,m1,m2,m3,m4⟩:=A9 a.out.low H d0 d1 d2 d3 d4;clear I a3 B p d0 d1 d2 d3 d4;go_wp2_with fail
   obtain⟨g0,g1,g2,g3,g4⟩:=Mp zv m0 m1 m2 m3 m4;have ga:=cell_grown za i3;have gb:=cell_grown zb (Ab E.out 3);clear i3;go_quiet_grown (first|(go_at_call 92;refine Ae3 (HH.out _ (a.out.low.trans ((((Ac.refl wr).grown _ _).below).mono a.out.low.size)))))
   have D:Hid (Ac wr (grow (wr.drewN nq) osq)):=(Ac.refl wr).grown _ _;have j:Hid _:=a.out.keep D.out.below;show Exit.then _ _ _ _ (grow (wr.drewN nq) osq);clear g0 g1 g2 g3 g4 ga gb HH;generalize grow _ osq=w1 at D j |-;clear nq osq a;have X:Hid _:=Ac1 D.out.below Q.out;have p3:=Ab X.out 3;have zp:=Aa X.out;have zq:=Ad8 zv D.out.below.size;obtain⟨n0,n1,n2,n3,n4⟩:=A9 D.out.below zv m0 m1 m2 m3 m4;clear m0 m1 m2 m3 m4 Q E D X;cases T:Ch (n+1) y.keys e with
   | true =>
    have g:Hid ((x.keys.take (k+1)).filter (fun e=>false)=(x.keys.take k).filter (fun e=>false)):=by
     show _=_;rw[E9 (fun e=>false) x.keys k _ c.out,if_neg (by simp)]
    have r:Hid ((x.keys.take (k+1)).any (fun e=>!Ch (n+1) y.keys e)=((x.keys.take k).any (fun e=>!Ch (n+1) y.keys e))):=by
     show _=_;rw[List.take_add_one,c.out,Option.toList_some,List.any_append];simp[T]
    rw[<- g.out] at j;clear g c T n0 n1 n2 n3 n4 A;go_wp2_with fail
    go_roundw
    case rel=>exact⟨k+1,by omega,by go_num,by rw[r.out],j⟩
    case measure=>simp[intOf];omega
   | false =>
    have g:Hid ((x.keys.take (k+1)).filter (fun e=>false)=(x.keys.take k).filter (fun e=>false)):=by
     show _=_;rw[E9 (fun e=>false) x.keys k _ c.out,if_neg (by simp)]
    have r:Hid ((x.keys.take (k+1)).any (fun e=>!Ch (n+1) y.keys e)=(true)):=by
     show _=_;rw[List.take_add_one,c.out,Option.toList_some,List.any_append];simp[T]
    rw[<- g.out] at j;clear g c T n0 n1 n2 n3 n4 A;go_wp2_with fail
    go_roundw
    case rel=>exact⟨k+1,by omega,by go_num,by rw[r.out],j⟩
    case measure=>simp[intOf];omega
  ·obtain rfl:k=o:=by omega
   have HT:Hid (x.keys.take k=x.keys):=by
    show _=_;rw[G.out];exact List.take_length
   rw[HT.out] at a |-;have R1:Hid _:=Ac1 a.out.low R0.out;have L1:Hid _:=C.out.below.trans (a.out.low.mono (by omega));have HF:Hid (Calls prog 93 #[.slice L k U,.slice f d m] wr (Aw (fun k=>P k/\k≠w.heap.size+1+1) wr (n+3) z)):=by
    rw[F.out];exact eY n _ wr L f k U d m x.keys y.keys (R.out.fr (Fr.below a.out.low) (fun x v=>Ref.fr (Fr.below a.out.low) (fun _ _ h=>h) (n+1) x v) (fun _ _ h=>h)) (S.out.fr (Fr.below a.out.low) (fun x v=>Ref.fr (Fr.below a.out.low) (fun _ _ h=>h) (n+1) x v) (fun _ _ h=>h)) (fun q hq=>⟨HP.out q (by have:=L1.out.size;omega),by have:=Aa R1.out;omega⟩) Y.out HA.out a1.out a2.out a0.out a5 J
   generalize (x.keys.any _)=ms;have gb:=Ab E.out 3;have zb:=Aa E.out;clear a F HT R S;go_wp2_with fail
   refine HF.out.mono ?_;rintro e w5 ⟨t,rfl,hb,p⟩;obtain⟨b0,a7,a9,a8,b3,b5,b4,rfl,-,-,-,-⟩:=id p;have RZ:Hid _:=Ac1 hb R1.out;have LZ:Hid _:=(L1.out).trans (hb.mono (L1.out).size);have Z:Hid (Ref _ w5 (n+3) z _):=p;clear hb p;obtain⟨HE,b8,b9,c5,c6,c7,c8,c9,d5,d6,d7,d8,XF⟩:=Bg RZ.out (by omega) LZ.out Z.out;go_wp2_with fail
   obtain⟨k0,k1,k2,k3,k4⟩:=Ah XF.out;change bodyPost _ _ _ _ _ (Ao _ _ 0 _ _ _ _ _);exact Ae2 (by simp[results,results51,go_sem,k0,k1,k2,k3,k4]) rfl HE.out
theorem Sp {w w':World}{base:Nat}{sl:Value}{n:Nat}{vs:List Value}(h:w.ownsRow base 30 5 sl n vs)(hb:∀g,g<w.heap.size->sl.ownBlock=some g->w'.heap[g]?=w.heap[g]?):w'.ownsRow base 30 5 sl n vs:=by
 refine⟨h.1,?_⟩;rcases h.2 with d|⟨g,a,b,e,f,c,r⟩
 ·exact .inl d
 ·exact .inr ⟨g,a,b,e,f,(hb g (Aa c) (by rw[e];rfl)).trans c,r⟩
theorem L7 {w w':World}{B:Nat}{e:TypeId}{v:Value}{n:Nat}{xs:List Value}(h:w.ownsRow B e 1 v n xs)(hb:∀g,g<w.heap.size->v.ownBlock=some g->w'.heap[g]?=w.heap[g]?):w'.ownsRow B e 1 v n xs:=by
 refine⟨h.1,?_⟩;rcases h.2 with h|⟨g,a,b,c,f,d,i⟩
 ·exact .inl h
 ·exact .inr ⟨g,a,b,c,f,(hb g (Aa d) (by rw[c];rfl)).trans d,i⟩
structure Hc (R:Nat->Prop)(W1 wr:World)(n B0:Nat)(l1:Value)(accR:List (List (AV (n+1))))(lR:Value)(accS:List (AV (n+2)))(lS:Value):Prop where
 ro:∃vs:List Value,wr.ownsRow W1.heap.size 28 1 lR accR.length vs/\Nh (fun q=>R q/\some q≠lR.ownBlock/\some q≠lS.ownBlock) wr (n+1) accR vs
 so:∃hs:List H5,wr.ownsRow B0 30 5 lS accS.length (Bi hs)/\Are (fun q=>R q/\some q≠lR.ownBlock/\some q≠lS.ownBlock) wr (n+2) accS hs
 ne:∀g,lR.ownBlock=some g->lS.ownBlock≠some g
 at1:lS.ownBlock=l1.ownBlock\/∀g,lS.ownBlock=some g->W1.heap.size<=g
 fr:Fr (fun q=>some q≠l1.ownBlock) W1 wr
theorem Hc.keep {R:Nat->Prop}{W1 wr w':World}{n B0:Nat}{l1:Value}{accR:List (List (AV (n+1)))}{lR:Value}{accS:List (AV (n+2))}{lS:Value}(h:Hc R W1 wr n B0 l1 accR lR accS lS)(hb:Below wr.heap.size wr w'):Hc R W1 w' n B0 l1 accR lR accS lS:=by
 obtain⟨f,b,d⟩:=h.ro;obtain⟨a,c,e⟩:=h.so;exact⟨⟨f,Kc b hb,d.fr (Fr.below hb) (fun _ _ h=>h)⟩,⟨a,Bo c (fun g _ hg=>hb.block g hg),e.frQ (Fr.below hb) (fun _ _ h=>h)⟩,h.ne,h.at1,h.fr.trans (Fr.below hb)⟩
theorem Hc.ltR {R:Nat->Prop}{W1 wr:World}{n B0 g:Nat}{l1:Value}{accR:List (List (AV (n+1)))}{lR:Value}{accS:List (AV (n+2))}{lS:Value}(h:Hc R W1 wr n B0 l1 accR lR accS lS)(hg:lR.ownBlock=some g):W1.heap.size<=g/\g<wr.heap.size:=by
 obtain⟨b,a,-⟩:=h.ro;exact Ix a hg
theorem Hc.ltS {R:Nat->Prop}{W1 wr:World}{n B0 g:Nat}{l1:Value}{accR:List (List (AV (n+1)))}{lR:Value}{accS:List (AV (n+2))}{lS:Value}(h:Hc R W1 wr n B0 l1 accR lR accS lS)(hg:lS.ownBlock=some g):B0<=g/\g<wr.heap.size:=by
 obtain⟨b,a,-⟩:=h.so;exact Cp a hg
theorem Hc.pushR {R:Nat->Prop}{W1 W w':World}{n B0:Nat}{l1:Value}{accR:List (List (AV (n+1)))}{lR l':Value}{accS:List (AV (n+2))}{lS:Value}(h:Hc R W1 W n B0 l1 accR lR accS lS){vs:List Value}{v:Value}{row:List (AV (n+1))}(ha:Nh (fun q=>R q/\some q≠lR.ownBlock/\some q≠lS.ownBlock) W (n+1) accR vs)
  (ho':w'.ownsRow W1.heap.size 28 1 l' (accR.length+1) (vs++[v])) (hg:W.grownBy w' lR.ownBlock) (hat:l'.ownBlock=lR.ownBlock\/l'.ownBlock=some W.heap.size) (hx:H7 (fun q=>R q/\some q≠lR.ownBlock/\some q≠lS.ownBlock) W (n+1) row v):Hc R W1 w' n B0 l1 (accR++[row]) l' accS lS:=by
 obtain⟨c,d,f⟩:=h.so;have a:Fr (fun q=>R q/\some q≠lR.ownBlock/\some q≠lS.ownBlock) W w':=⟨hg.os,hg.tape,hg.output,hg.size,fun k hk hp=>hg.block k hk hp.2.1⟩;have b:∀k,k<W.heap.size->(R k/\some k≠lR.ownBlock/\some k≠lS.ownBlock)->(R k/\some k≠l'.ownBlock/\some k≠lS.ownBlock):=by
  intro k hk hp;refine⟨hp.1,fun e=>?_,hp.2.2⟩;rcases hat with q|q
  ·rw[q] at e;exact hp.2.1 e
  ·rw[q] at e;have:=Ae5 e;omega
 refine⟨⟨vs++[v],by rw[List.length_append];exact ho',(ha.app hx).fr a b⟩,⟨c,Sp d (fun g hg' hS=>hg.block g hg' (fun e=>h.ne g e.symm hS)),f.frQ a b⟩,?_,h.at1,?_⟩
 ·intro g e hS;rcases hat with q|q
  ·rw[q] at e;exact h.ne g e hS
  ·rw[q] at e;have:=Ae5 e;have:=(h.ltS hS).2;omega
 ·refine⟨hg.os.trans h.fr.os,hg.tape.trans h.fr.tape,hg.output.trans h.fr.output,Ae0 h.fr.size hg.size,fun i hi hp=>(hg.block i (Ad8 hi h.fr.size) (fun e=>by have:=(h.ltR e.symm).1;omega)).trans (h.fr.block i hi hp)⟩
theorem Hc.pushS {R:Nat->Prop}{W1 W w':World}{n B0:Nat}{l1:Value}{accR:List (List (AV (n+1)))}{lR l':Value}{accS:List (AV (n+2))}{lS:Value}(h:Hc R W1 W n B0 l1 accR lR accS lS){hs:List H5}{u:H5}{y:AV (n+2)}(ha:Are (fun q=>R q/\some q≠lR.ownBlock/\some q≠lS.ownBlock) W (n+2) accS hs)
  (ho':w'.ownsRow B0 30 5 l' (accS.length+1) (Bi (hs++[u]))) (hg:W.grownBy w' lS.ownBlock) (hat:l'.ownBlock=lS.ownBlock\/l'.ownBlock=some W.heap.size) (hx:Ref (fun q=>R q/\some q≠lR.ownBlock/\some q≠lS.ownBlock) W (n+2) y u.v):Hc R W1 w' n B0 l1 accR lR (accS++[y]) l':=by
 obtain⟨j,d,f⟩:=h.ro;have b:Fr (fun q=>R q/\some q≠lR.ownBlock/\some q≠lS.ownBlock) W w':=⟨hg.os,hg.tape,hg.output,hg.size,fun k hk hp=>hg.block k hk hp.2.2⟩;have c:∀k,k<W.heap.size->(R k/\some k≠lR.ownBlock/\some k≠lS.ownBlock)->(R k/\some k≠lR.ownBlock/\some k≠l'.ownBlock):=by
  intro k hk hp;refine⟨hp.1,hp.2.1,fun e=>?_⟩;rcases hat with q|q
  ·rw[q] at e;exact hp.2.2 e
  ·rw[q] at e;have:=Ae5 e;omega
 refine⟨⟨j,L7 d (fun g hg' hR=>hg.block g hg' (fun e=>h.ne g hR e.symm)),f.fr b c⟩,⟨hs++[u],by rw[List.length_append];exact ho',(ha.app (Are.one hx)).frQ b c⟩,?_,?_,?_⟩
 ·intro g e a;rcases hat with q|q
  ·rw[q] at a;exact h.ne g e a
  ·rw[q] at a;have:=Ae5 a;have:=(h.ltR e).2;omega
 ·rcases hat with q|q
  ·rw[q];exact h.at1
  ·refine .inr fun g e=>?_;rw[q] at e;have:=Ae5 e;have:=h.fr.size;omega
 ·refine⟨hg.os.trans h.fr.os,hg.tape.trans h.fr.tape,hg.output.trans h.fr.output,Ae0 h.fr.size hg.size,fun i hi hp=>(hg.block i (Ad8 hi h.fr.size) (fun e=>?_)).trans (h.fr.block i hi hp)⟩;rcases h.at1 with q|q
  ·rw[q] at e;exact hp e
  ·have:=q i e.symm;omega
theorem Hc.frR {R:Nat->Prop}{W w':World}{lR l' lS:Value}(hg:W.grownBy w' lR.ownBlock)(hat:l'.ownBlock=lR.ownBlock\/l'.ownBlock=some W.heap.size):Fr (fun q=>R q/\some q≠lR.ownBlock/\some q≠lS.ownBlock) W w'/\∀k,k<W.heap.size->(R k/\some k≠lR.ownBlock/\some k≠lS.ownBlock)->(R k/\some k≠l'.ownBlock/\some k≠lS.ownBlock):=by
 refine⟨⟨hg.os,hg.tape,hg.output,hg.size,fun k hk hp=>hg.block k hk hp.2.1⟩,?_⟩;intro k hk hp;refine⟨hp.1,fun e=>?_,hp.2.2⟩;rcases hat with q|q
 ·rw[q] at e;exact hp.2.1 e
 ·rw[q] at e;have:=Ae5 e;omega
theorem Hc.rows {R:Nat->Prop}{W1 wr:World}{n B0:Nat}{l1:Value}{accR:List (List (AV (n+1)))}{lR:Value}{accS:List (AV (n+2))}{lS:Value}(h:Hc R W1 wr n B0 l1 accR lR accS lS)(hR:∀k,W1.heap.size<=k->R k):∃a c,lR=.slice a accR.length c/\Hb (fun q=>R q/\some q≠lS.ownBlock) wr (n+1) accR a:=by
 obtain⟨t,o,l⟩:=h.ro;obtain⟨a,c,e,s,j⟩:=Gv o;refine⟨a,c,e,j.imp id ?_⟩;rintro⟨g,f,m,d,b⟩;refine⟨g,0,f,d,⟨hR g m,fun q=>h.ne g (by rw[e,f];rfl) q.symm⟩,fun i row hi=>?_⟩;obtain⟨v,r,p⟩:=l.2 i row hi;exact⟨v,by rw[Nat.zero_add];exact b i v r,p.fr (Fr.refl _ _) (fun _ _ h=>⟨h.1,h.2.2⟩)⟩
theorem Hc.low {R:Nat->Prop}{WA W1 wr:World}{n B0:Nat}{l1:Value}{accR:List (List (AV (n+1)))}{lR:Value}{accS:List (AV (n+2))}{lS:Value}(h:Hc R W1 wr n B0 l1 accR lR accS lS)(hl:Below WA.heap.size WA W1)(h1:∀g,l1.ownBlock=some g->WA.heap.size<=g):Below WA.heap.size WA wr :=
 ⟨h.fr.os.trans hl.os,h.fr.tape.trans hl.tape,h.fr.output.trans hl.output,Ae0 hl.size h.fr.size,fun i hi=>(h.fr.block i (Ad8 hi hl.size) (fun e=>by have:=h1 i e.symm;omega)).trans (hl.block i hi)⟩
theorem Hc.gath {R:Nat->Prop}{WA W1 wr:World}{n B0:Nat}{l1:Value}{accR:List (List (AV (n+1)))}{lR:Value}{accS:List (AV (n+2))}{lS:Value}(h:Hc R W1 wr n B0 l1 accR lR accS lS)(hl:Below WA.heap.size WA wr):Jo R WA wr (n+1) B0 accS lS:=by
 obtain⟨c,b,a⟩:=h.so;exact⟨⟨c,b,a.frQ (Fr.refl _ _) (fun _ _ h=>⟨h.1,h.2.2⟩)⟩,hl⟩
theorem Hc.start {R:Nat->Prop}{WA W1:World}{n B0:Nat}{accS:List (AV (n+2))}{lS:Value}(h:Jo R WA W1 (n+1) B0 accS lS):Hc R W1 W1 n B0 lS [] (.slice none 0 0) accS lS:=by
 obtain⟨c,b,a⟩:=h.own;exact⟨⟨[],World.ownsRow_nil _ _ _ _,rfl,fun i x hx=>by simp at hx⟩,⟨c,b,a.frQ (Fr.refl _ _) (fun _ _ h=>⟨h.1,by simp[Value.ownBlock],h.2⟩)⟩,fun g e=>by simp[Value.ownBlock] at e,.inl rfl,Fr.refl _ _⟩
theorem Zv {α:Type}{es:List α}{i:Nat}(h:Ak es i=[]):∀d,Ak es (i+d)=[]
 | 0=>h
 | d+1=>by
  have:=Zv h d;show(Ak es (i+d)).flatMap _=[];rw[this];rfl
theorem Sq {m:Nat}{es:List (AV (m+1))}{i:Nat}(h:Ak es i=[]):∀d,B7 m es (i+d)=B7 m es i/\(Kh m es i->Kh m es (i+d))
 | 0=>⟨rfl,id⟩
 | d+1=>by
  obtain⟨h1,h2⟩:=Sq h d;have h3:Ak es (i+d+1)=[]:=Zv h (d+1);constructor
  ·show B7 m es (i+d+1)=_;rw[Ic,h3,h1];simp
  ·intro hl k hk;rcases Nat.lt_or_ge k (i+d+1) with h|h
   ·exact h2 hl k h
   ·obtain rfl:k=i+d+1:=by omega
    rw[h3];intro r a;simp at a
theorem xC {m:Nat}{es:List (AV (m+1))}{N:Nat}(hW:∀x∈es,Wgt (m+1) x)(hl:Kh m es N):∀x∈B7 m es N,Wgt (m+2) x:=by
 intro x a;obtain⟨i,d,a⟩:=List.mem_flatMap.1 a;obtain⟨r,b,rfl⟩:=List.mem_map.1 a;have c:=hl i (by simpa using d) r b;have e:∀x∈Aq m i,Wgt (m+1) x:=by
  intro y hy;obtain⟨j,_,rfl⟩:=List.mem_map.1 hy;exact O9 m 2 _ []
 exact⟨tK e (fun y hy=>hW y (Ft i r b y hy)),by rw[Te];exact c⟩
end Go.Proofs.YtdpeliifdlhhkaaGreatDoor.Sx
