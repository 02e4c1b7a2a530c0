/- The reference: sets. -/
import Derived.Test.YtdpeliifdlhhkaaGreatDoorM28
namespace Go.Proofs.YtdpeliifdlhhkaaGreatDoor.Sx
open Go.RowKit Go.Sort Tryz
set_option maxRecDepth 100000
set_option maxHeartbeats 4000000
theorem Xa (n:Nat)(P:Nat->Prop)(w:World)(x y:Ag (AV (n+1)))(u v:Value)(hx:Ref P w (n+2) x u)(hy:Ref P w (n+2) y v)(hP:∀k,w.heap.size<=k->P k)(hA:Asc (Al (n+1)) y.keys)(hl1:x.keys.length<=524288)(hl2:y.keys.length<=524288)(z:AV (n+2))
  (s0:ByteArray) (F:AV (n+1)->Bool) (hs:s0=⟨#[105,110,116,101,114]⟩/\F=(fun e=>Ch (n+1) y.keys e)\/s0=⟨#[109,105,110,117,115]⟩/\F=(fun e=>!Ch (n+1) y.keys e)) (hW:∀t∈x.keys,Wgt (n+1) t) (h1:x.kind=5) (h2:y.kind=5) (hz:z=(mkS (wt (n+1)) (Eo (Al (n+1)) (x.keys.filter F)):Ag (AV (n+1)))) :
  Calls prog 51 #[.string s0,u,v] w (Aw P w (n+2) z):=by
 obtain⟨s,ka,H,kc,va,vl,vc,rfl,-,r1,-,-⟩:=id hx;obtain⟨s',G,q,O,a4,a6,a5,rfl,-,r2,-,-⟩:=id hy;have mo:=follows;obtain⟨Q,A0,B0,R0⟩:=Qf w #[.int .i64 x.kind,.int .i64 x.int,.string s,.slice ka H kc,.slice va vl vc] #[.int .i64 y.kind,.int .i64 y.int,.string s',.slice G q O,.slice a4 a6 a5] #[.int .i64 0,.int .i64 0,.string ⟨#[]⟩,.slice none 0 0,.slice none 0 0] 30;have z0:(((w.alloc (.cells #[.int .i64 x.kind,.int .i64 x.int,.string s,.slice ka H kc,.slice va vl vc] 30)).alloc (.cells #[.int .i64 y.kind,.int .i64 y.int,.string s',.slice G q O,.slice a4 a6 a5] 30)).alloc (.cells #[.int .i64 0,.int .i64 0,.string ⟨#[]⟩,.slice none 0 0,.slice none 0 0] 30)).heap.size=w.heap.size+3:=by simp
 have XR:Hid (Bm (fun k=>P k/\k≠w.heap.size+1+1) _ (Ref (fun k=>P k/\k≠w.heap.size+1+1) _ (n+1)) ka H x.keys):=r1.fr (Fr.grew Q.out) (fun x v=>Ref.fr (Fr.grew Q.out) (fun k hk hp=>⟨hp,by omega⟩) (n+1) x v) (fun k hk hp=>⟨hp,by omega⟩);have YR:Hid (Bm (fun k=>P k/\k≠w.heap.size+1+1) _ (Ref (fun k=>P k/\k≠w.heap.size+1+1) _ (n+1)) G q y.keys):=r2.fr (Fr.grew Q.out) (fun x v=>Ref.fr (Fr.grew Q.out) (fun k hk hp=>⟨hp,by omega⟩) (n+1) x v) (fun k hk hp=>⟨hp,by omega⟩);have HP:Hid _:=hP;have HA:Hid (Asc (Al (n+1)) y.keys):=hA;have M:Hid (H=x.keys.length):=r1.1;have b8:H<=524288:=by have:=r1.1;omega
 have b7:q<=524288:=by have:=r2.1;omega
 clear hx hy hP hA r1 r2;have a8:Hid _:=hW;have b1:(((x.kind:Nat):Int)==5)=true:=by rw[h1];rfl
 have b2:(((y.kind:Nat):Int)==5)=true:=by rw[h2];rfl
 have X:Hid _:=hz;clear hW hz h1 h2;rcases hs with⟨rfl,hF⟩|⟨rfl,hF⟩
 all_goals
  have V:Hid _:=hF;clear hF;go_enter func51,ntmps51
  go_wp2_with fail
  generalize ((w.alloc _).alloc _).alloc _=W0 at Q A0 B0 R0 XR YR z0 |-;go_loopw [9,10,11] (fun l ms i wr=>∃k:Nat,k<=H/\i=.int .i64 k/\ms=.bool ((x.keys.take k).any (fun e=>!Ch (n+1) y.keys e))/\Hid (I5 (fun k=>P k/\k≠w.heap.size+1+1) W0 wr (n+1) (w.heap.size+3) ((x.keys.take k).filter F) l)) (fun _ _ i _=>H-(intOf i).toNat)
  case atStart=>exact⟨0,Ae1 _,rfl,rfl,⟨⟨[],Ca _ _,rfl,by simp⟩,Below.refl _ _⟩⟩
  case round =>
   obtain⟨k,hk,rfl,rfl,f⟩:=hrel;have A1:Hid _:=Ac1 f.out.low A0.out;have B1:Hid _:=Ac1 f.out.low B0.out;have i3:=Ab A1.out 3;have za:=Aa A1.out;by_cases b9:k<H
   ·have b5:k<x.keys.length:=by have:=M.out;omega
    obtain⟨b,c5,b4,a0,b0,a1⟩:=XR.out.2.2.resolve_left (by omega);subst b4;have N:=List.getElem?_eq_getElem b5;obtain⟨v,hf,J⟩:=a1 k x.keys[k] N;have d:Hid _:=N;generalize x.keys[k]=e at J d;obtain⟨c0,c1,c2,c3,c4,rfl,d0,d1,d2,d3,d4⟩:=hf;obtain⟨A,o,r,p,B,D,C,a3,-,-,-,-⟩:=id J;simp only[Value.agg.injEq,Array.mk.injEq,List.cons.injEq,and_true] at a3;obtain⟨rfl,rfl,rfl,rfl,rfl⟩:=a3;have E:Hid (Ref _ W0 (n+1) e _):=J;have HH:Hid _:=fun W hW=>Ol (n+1) _ W G q O y.keys e _ (YR.out.fr (Fr.below hW) (fun x v=>Ref.fr (Fr.below hW) (fun k _ hp=>hp) (n+1) x v) (fun k _ hp=>hp)) (E.out.fr (Fr.below hW) (fun k _ hp=>hp) _ _ _) HA.out;have zv:=Ad8 a0 f.out.low.size;have zb:=Aa B1.out;obtain⟨m0,m1,m2,m3,m4⟩:=A9 f.out.low a0 d0 d1 d2 d3 d4;clear a1 b0 N J d0 d1 d2 d3 d4;go_wp2_with fail
    obtain⟨g0,g1,g2,g3,g4⟩:=Mp zv m0 m1 m2 m3 m4;have ga:=cell_grown za i3;have gb:=cell_grown zb (Ab B1.out 3);clear i3;go_quiet_grown (first|(go_at_call 92;refine Ae3 (HH.out _ (f.out.low.trans ((((Ac.refl wr).grown _ _).below).mono f.out.low.size)))))
    have R:Hid (Ac wr (grow (wr.drewN nq) osq)):=(Ac.refl wr).grown _ _;have c:Hid _:=f.out.keep R.out.below;show Exit.then _ _ _ _ (grow (wr.drewN nq) osq);clear g0 g1 g2 g3 g4 ga gb HH;generalize grow _ osq=w1 at R c |-;clear nq osq f;have A2:Hid _:=Ac1 R.out.below A1.out;have p3:=Ab A2.out 3;have zp:=Aa A2.out;have zq:=Ad8 zv R.out.below.size;obtain⟨n0,n1,n2,n3,n4⟩:=A9 R.out.below zv m0 m1 m2 m3 m4;clear m0 m1 m2 m3 m4 A1 B1 R A2;cases S:Ch (n+1) y.keys e
    all_goals
     try have K:Hid ((x.keys.take (k+1)).any (fun e=>!Ch (n+1) y.keys e)=(x.keys.take k).any (fun e=>!Ch (n+1) y.keys e)):=by show _=_;rw[List.take_add_one,d.out,Option.toList_some,List.any_append];simp[S]
     try have K:Hid ((x.keys.take (k+1)).any (fun e=>!Ch (n+1) y.keys e)=true):=by show _=_;rw[List.take_add_one,d.out,Option.toList_some,List.any_append];simp[S]
     first
     |have j:Hid ((x.keys.take (k+1)).filter F=(x.keys.take k).filter F++[e]):=by
       show _=_;rw[E9 F x.keys k _ d.out,if_pos (by rw[V.out];simp[S])]
      obtain⟨hs,U,I⟩:=c.out.own;have KV:Hid (Are _ W0 (n+1) _ hs):=I;obtain⟨L,T⟩:∃L,((x.keys.take k).filter F).length=L:=⟨_,rfl⟩;have Y:Hid _:=T;have a9:L<=524288:=by
       have q1:=List.length_filter_le F (x.keys.take k);have q2:=List.length_take_le' k x.keys;omega
      rw[T] at U;have OA:Hid ((w1.alloc (.cells #[.int .i64 e.kind,.int .i64 e.int,.string A,.slice o r p,.slice B D C] 30)).ownsRow _ 30 5 u9 L _):=Bo U (fun g _ hg=>(((Ac.refl w1).alloc _).below).block g hg);have SA:Hid (Hl (w1.alloc (.cells #[.int .i64 e.kind,.int .i64 e.int,.string A,.slice o r p,.slice B D C] 30)) _ 1 [(⟨_,_,_,_,_,rfl,rfl,rfl,rfl,rfl⟩:H5)]):=El w1 _;have LA:Hid (Below _ W0 (w1.alloc (.cells #[.int .i64 e.kind,.int .i64 e.int,.string A,.slice o r p,.slice B D C] 30))):=c.out.low.trans ((((Ac.refl w1).alloc _).below).mono c.out.low.size);have b3:w.heap.size+3<=w1.heap.size:=by have:=c.out.low.size;omega
      clear U I T S d;go_wp2_with (at_builtin;refine Az _ rfl _ _ rfl _ u9 L hs rfl OA.out _ 1 1 _ rfl SA.out (by omega) ?q1 ?_)
      case q1=>first|omega|(simp;omega)
      intro l4 w4 U a2;have HN:Hid (I5 (fun k=>P k/\k≠w.heap.size+1+1) W0 w4 (n+1) (w.heap.size+3) ((x.keys.take (k+1)).filter F) l4):=by
       refine⟨⟨hs++[(⟨.int .i64 e.kind,.int .i64 e.int,.string A,.slice o r p,.slice B D C,rfl,rfl,rfl,rfl,rfl⟩:H5)],?_,?_⟩,B8 LA.out (by omega) OA.out a2⟩
       ·rw[j.out,List.length_append,Y.out];exact U
       ·rw[j.out];exact KV.out.app (Are.one E.out)
      clear U a2 OA SA LA KV c j Y E n0 n1 n2 n3 n4;go_wp2_with fail
      go_roundw
      case rel=>exact⟨k+1,by omega,by go_num,by rw[K.out],HN⟩
      case measure=>simp[intOf];omega
     |have j:Hid ((x.keys.take (k+1)).filter F=(x.keys.take k).filter F):=by
       show _=_;rw[E9 F x.keys k _ d.out,if_neg (by rw[V.out];simp[S])]
      rw[<- j.out] at c;clear j d S n0 n1 n2 n3 n4 E;go_wp2_with fail
      go_roundw
      case rel=>exact⟨k+1,by omega,by go_num,by rw[K.out],c⟩
      case measure=>simp[intOf];omega
   ·obtain rfl:k=H:=by omega
    have HT:Hid (x.keys.take k=x.keys):=by
     show _=_;rw[M.out];exact List.take_length
    rw[HT.out] at f |-;have R1:Hid _:=Ac1 f.out.low R0.out;have L1:Hid _:=Q.out.below.trans (f.out.low.mono (by omega));obtain⟨L,T⟩:∃L,(x.keys.filter F).length=L:=⟨_,rfl⟩;have a9:L<=524288:=by have:=List.length_filter_le F x.keys;have:=M.out;omega
    obtain⟨a,Z,rfl,m⟩:=f.out.row (by omega) (fun k hk=>⟨HP.out k (by omega),by omega⟩);rw[T] at m |-;have b6:=f.out.low.size;have HN:Hid (Calls prog 44 #[.slice a L Z] wr (Aw (fun k=>P k/\k≠w.heap.size+1+1) wr (n+2) z)):=by
     have:=G6 (n+1) _ wr a L Z _ m (by omega) (fun t ht=>a8.out t (List.mem_filter.1 ht).1);rw[X.out];refine Calls.mono this ?_;intro e w' h;exact Ek (fun k hk=>⟨HP.out k (by omega),by omega⟩) h
    clear m X f b6 HT T;go_wp2_with fail
    refine HN.out.mono ?_;rintro e w5 ⟨t,rfl,hb,J⟩;obtain⟨A,o,r,p,B,D,C,rfl,-,-,-,-⟩:=id J;have RZ:Hid _:=Ac1 hb R1.out;have LZ:Hid _:=(L1.out).trans (hb.mono (L1.out).size);have a7:Hid (Ref _ w5 (n+2) z _):=J;clear hb J;obtain⟨HE,c6,c7,c8,c9,d5,d6,d7,d8,d9,e0,e1,XF⟩:=Bg RZ.out (by omega) LZ.out a7.out;go_wp2_with fail
    obtain⟨k0,k1,k2,k3,k4⟩:=Ah XF.out;change bodyPost _ _ _ _ _ (Ao _ _ 0 _ _ _ _ _);exact Ae2 (by simp[results,results51,go_sem,k0,k1,k2,k3,k4]) rfl HE.out
theorem eV (n:Nat)(P:Nat->Prop)(w:World)(x y:Ag (AV (n+1)))(u v:Value)(hx:Ref P w (n+2) x u)(hy:Ref P w (n+2) y v)(hP:∀k,w.heap.size<=k->P k)(hA:Asc (Al (n+1)) y.keys)(hl1:x.keys.length<=524288)(hl2:y.keys.length<=524288)(z:AV (n+2))
  (hW:∀t∈x.keys++y.keys,Wgt (n+1) t) (h1:x.kind=5) (h2:y.kind=5) (hz:z=(mkS (wt (n+1)) (Eo (Al (n+1)) (x.keys++y.keys)):Ag (AV (n+1)))) :
  Calls prog 51 #[.string ⟨#[117,110,105,111,110]⟩,u,v] w (Aw P w (n+2) z):=by
 obtain⟨s,ka,T,kc,va,vl,vc,rfl,-,r1,-,-⟩:=id hx;obtain⟨s',I,C,S,b3,b5,b4,rfl,-,r2,-,-⟩:=id hy;have mo:=follows;obtain⟨G0,A0,B0,R0⟩:=Qf w #[.int .i64 x.kind,.int .i64 x.int,.string s,.slice ka T kc,.slice va vl vc] #[.int .i64 y.kind,.int .i64 y.int,.string s',.slice I C S,.slice b3 b5 b4] #[.int .i64 0,.int .i64 0,.string ⟨#[]⟩,.slice none 0 0,.slice none 0 0] 30;have z0:(((w.alloc (.cells #[.int .i64 x.kind,.int .i64 x.int,.string s,.slice ka T kc,.slice va vl vc] 30)).alloc (.cells #[.int .i64 y.kind,.int .i64 y.int,.string s',.slice I C S,.slice b3 b5 b4] 30)).alloc (.cells #[.int .i64 0,.int .i64 0,.string ⟨#[]⟩,.slice none 0 0,.slice none 0 0] 30)).heap.size=w.heap.size+3:=by simp
 have XR:Hid (Bm (fun k=>P k/\k≠w.heap.size+1+1) _ (Ref (fun k=>P k/\k≠w.heap.size+1+1) _ (n+1)) ka T x.keys):=r1.fr (Fr.grew G0.out) (fun x v=>Ref.fr (Fr.grew G0.out) (fun k hk hp=>⟨hp,by omega⟩) (n+1) x v) (fun k hk hp=>⟨hp,by omega⟩);have YR:Hid (Bm (fun k=>P k/\k≠w.heap.size+1+1) _ (Ref (fun k=>P k/\k≠w.heap.size+1+1) _ (n+1)) I C y.keys):=r2.fr (Fr.grew G0.out) (fun x v=>Ref.fr (Fr.grew G0.out) (fun k hk hp=>⟨hp,by omega⟩) (n+1) x v) (fun k hk hp=>⟨hp,by omega⟩);have HP:Hid _:=hP;have HA:Hid (Asc (Al (n+1)) y.keys):=hA;have O:Hid (T=x.keys.length):=r1.1;have c8:T<=524288:=by have:=r1.1;omega
 have c7:C<=524288:=by have:=r2.1;omega
 clear hx hy hP hA r1 r2;have b7:Hid _:=hW;have b1:(((x.kind:Nat):Int)==5)=true:=by rw[h1];rfl
 have b2:(((y.kind:Nat):Int)==5)=true:=by rw[h2];rfl
 have a2:Hid _:=hz;clear hW hz h1 h2;go_enter func51,ntmps51
 go_wp2_with fail
 generalize ((w.alloc _).alloc _).alloc _=W0 at G0 A0 B0 R0 XR YR z0 |-;go_loopw [9,10,11] (fun l ms i wr=>∃k:Nat,k<=T/\i=.int .i64 k/\ms=.bool ((x.keys.take k).any (fun e=>!Ch (n+1) y.keys e))/\Hid (I5 (fun k=>P k/\k≠w.heap.size+1+1) W0 wr (n+1) (w.heap.size+3) ((x.keys.take k).filter (fun e=>true)) l)) (fun _ _ i _=>T-(intOf i).toNat)
 case atStart=>exact⟨0,Ae1 _,rfl,rfl,⟨⟨[],Ca _ _,rfl,by simp⟩,Below.refl _ _⟩⟩
 case round =>
  obtain⟨k,hk,rfl,rfl,D⟩:=hrel;have A1:Hid _:=Ac1 D.out.low A0.out;have B1:Hid _:=Ac1 D.out.low B0.out;have i3:=Ab A1.out 3;have za:=Aa A1.out;by_cases c9:k<T
  ·have c6:k<x.keys.length:=by have:=O.out;omega
   obtain⟨b,d5,c5,a6,b9,a7⟩:=XR.out.2.2.resolve_left (by omega);subst c5;have a1:=List.getElem?_eq_getElem c6;obtain⟨v,hf,X⟩:=a7 k x.keys[k] a1;have F:Hid _:=a1;generalize x.keys[k]=e at X F;obtain⟨c0,c1,c2,c3,c4,rfl,d0,d1,d2,d3,d4⟩:=hf;obtain⟨q,m,p,o,r,B,A,a9,-,-,-,-⟩:=id X;simp only[Value.agg.injEq,Array.mk.injEq,List.cons.injEq,and_true] at a9;obtain⟨rfl,rfl,rfl,rfl,rfl⟩:=a9;have K:Hid (Ref _ W0 (n+1) e _):=X;have HH:Hid _:=fun W hW=>Ol (n+1) _ W I C S y.keys e _ (YR.out.fr (Fr.below hW) (fun x v=>Ref.fr (Fr.below hW) (fun k _ hp=>hp) (n+1) x v) (fun k _ hp=>hp)) (K.out.fr (Fr.below hW) (fun k _ hp=>hp) _ _ _) HA.out;have zv:=Ad8 a6 D.out.low.size;have zb:=Aa B1.out;obtain⟨m0,m1,m2,m3,m4⟩:=A9 D.out.low a6 d0 d1 d2 d3 d4;clear a7 b9 a1 X d0 d1 d2 d3 d4;go_wp2_with fail
   obtain⟨g0,g1,g2,g3,g4⟩:=Mp zv m0 m1 m2 m3 m4;have ga:=cell_grown za i3;have gb:=cell_grown zb (Ab B1.out 3);clear i3;go_quiet_grown (first|(go_at_call 92;refine Ae3 (HH.out _ (D.out.low.trans ((((Ac.refl wr).grown _ _).below).mono D.out.low.size)))))
   have G1:Hid (Ac wr (grow (wr.drewN nq) osq)):=(Ac.refl wr).grown _ _;have d:Hid _:=D.out.keep G1.out.below;show Exit.then _ _ _ _ (grow (wr.drewN nq) osq);clear g0 g1 g2 g3 g4 ga gb HH;generalize grow _ osq=w1 at G1 d |-;clear nq osq D;have A2:Hid _:=Ac1 G1.out.below A1.out;have p3:=Ab A2.out 3;have zp:=Aa A2.out;have zq:=Ad8 zv G1.out.below.size;obtain⟨n0,n1,n2,n3,n4⟩:=A9 G1.out.below zv m0 m1 m2 m3 m4;clear m0 m1 m2 m3 m4 A1 B1 G1 A2;cases hB:Ch (n+1) y.keys e with
   | true =>
    have E:Hid ((x.keys.take (k+1)).filter (fun e=>true)=(x.keys.take k).filter (fun e=>true)++[e]):=by
     show _=_;rw[E9 (fun e=>true) x.keys k _ F.out,if_pos (by simp)]
    have Y:Hid ((x.keys.take (k+1)).any (fun e=>!Ch (n+1) y.keys e)=((x.keys.take k).any (fun e=>!Ch (n+1) y.keys e))):=by
     show _=_;rw[List.take_add_one,F.out,Option.toList_some,List.any_append];simp[hB]
    obtain⟨N,j,c⟩:=d.out.own;have U:Hid (Are _ W0 (n+1) _ N):=c;obtain⟨L,Z⟩:∃L,((x.keys.take k).filter (fun e=>true)).length=L:=⟨_,rfl⟩;have J:Hid _:=Z;have b8:L<=524288:=by
     have q1:=List.length_filter_le (fun e=>true) (x.keys.take k);have q2:=List.length_take_le' k x.keys;omega
    rw[Z] at j;have H:Hid ((w1.alloc (.cells #[.int .i64 e.kind,.int .i64 e.int,.string q,.slice m p o,.slice r B A] 30)).ownsRow _ 30 5 u9 L _):=Bo j (fun g _ hg=>(((Ac.refl w1).alloc _).below).block g hg);have V:Hid (Hl (w1.alloc (.cells #[.int .i64 e.kind,.int .i64 e.int,.string q,.slice m p o,.slice r B A] 30)) _ 1 [(⟨_,_,_,_,_,rfl,rfl,rfl,rfl,rfl⟩:H5)]):=El w1 _;have LA:Hid (Below _ W0 (w1.alloc (.cells #[.int .i64 e.kind,.int .i64 e.int,.string q,.slice m p o,.slice r B A] 30))):=d.out.low.trans ((((Ac.refl w1).alloc _).below).mono d.out.low.size);have G:w.heap.size+3<=w1.heap.size:=by have:=d.out.low.size;omega
    clear j c Z hB F;go_wp2_with (at_builtin;refine Az _ rfl _ _ rfl _ u9 L N rfl H.out _ 1 1 _ rfl V.out (by omega) ?q1 ?_)
    case q1=>first|omega|(simp;omega)
    intro l4 w4 j f;have HN:Hid (I5 (fun k=>P k/\k≠w.heap.size+1+1) W0 w4 (n+1) (w.heap.size+3) ((x.keys.take (k+1)).filter (fun e=>true)) l4):=by
     refine⟨⟨N++[(⟨.int .i64 e.kind,.int .i64 e.int,.string q,.slice m p o,.slice r B A,rfl,rfl,rfl,rfl,rfl⟩:H5)],?_,?_⟩,B8 LA.out (by omega) H.out f⟩
     ·rw[E.out,List.length_append,J.out];exact j
     ·rw[E.out];exact U.out.app (Are.one K.out)
    clear j f H V LA U d E J K n0 n1 n2 n3 n4;go_wp2_with fail
    go_roundw
    case rel=>exact⟨k+1,by omega,by go_num,by rw[Y.out],HN⟩
    case measure=>simp[intOf];omega
   | false =>
    have E:Hid ((x.keys.take (k+1)).filter (fun e=>true)=(x.keys.take k).filter (fun e=>true)++[e]):=by
     show _=_;rw[E9 (fun e=>true) x.keys k _ F.out,if_pos (by simp)]
    have Y:Hid ((x.keys.take (k+1)).any (fun e=>!Ch (n+1) y.keys e)=(true)):=by
     show _=_;rw[List.take_add_one,F.out,Option.toList_some,List.any_append];simp[hB]
    obtain⟨N,j,c⟩:=d.out.own;have U:Hid (Are _ W0 (n+1) _ N):=c;obtain⟨L,Z⟩:∃L,((x.keys.take k).filter (fun e=>true)).length=L:=⟨_,rfl⟩;have J:Hid _:=Z;have b8:L<=524288:=by
     have q1:=List.length_filter_le (fun e=>true) (x.keys.take k);have q2:=List.length_take_le' k x.keys;omega
    rw[Z] at j;have H:Hid ((w1.alloc (.cells #[.int .i64 e.kind,.int .i64 e.int,.string q,.slice m p o,.slice r B A] 30)).ownsRow _ 30 5 u9 L _):=Bo j (fun g _ hg=>(((Ac.refl w1).alloc _).below).block g hg);have V:Hid (Hl (w1.alloc (.cells #[.int .i64 e.kind,.int .i64 e.int,.string q,.slice m p o,.slice r B A] 30)) _ 1 [(⟨_,_,_,_,_,rfl,rfl,rfl,rfl,rfl⟩:H5)]):=El w1 _;have LA:Hid (Below _ W0 (w1.alloc (.cells #[.int .i64 e.kind,.int .i64 e.int,.string q,.slice m p o,.slice r B A] 30))):=d.out.low.trans ((((Ac.refl w1).alloc _).below).mono d.out.low.size);have G:w.heap.size+3<=w1.heap.size:=by have:=d.out.low.size;omega
    clear j c Z hB F;go_wp2_with (at_builtin;refine Az _ rfl _ _ rfl _ u9 L N rfl H.out _ 1 1 _ rfl V.out (by omega) ?q1 ?_)
    case q1=>first|omega|(simp;omega)
    intro l4 w4 j f;have HN:Hid (I5 (fun k=>P k/\k≠w.heap.size+1+1) W0 w4 (n+1) (w.heap.size+3) ((x.keys.take (k+1)).filter (fun e=>true)) l4):=by
     refine⟨⟨N++[(⟨.int .i64 e.kind,.int .i64 e.int,.string q,.slice m p o,.slice r B A,rfl,rfl,rfl,rfl,rfl⟩:H5)],?_,?_⟩,B8 LA.out (by omega) H.out f⟩
     ·rw[E.out,List.length_append,J.out];exact j
     ·rw[E.out];exact U.out.app (Are.one K.out)
    clear j f H V LA U d E J K n0 n1 n2 n3 n4;go_wp2_with fail
    go_roundw
    case rel=>exact⟨k+1,by omega,by go_num,by rw[Y.out],HN⟩
    case measure=>simp[intOf];omega
  ·obtain rfl:k=T:=by omega
   have HT:Hid (x.keys.take k=x.keys):=by
    show _=_;rw[O.out];exact List.take_length
   rw[HT.out] at D |-;have R1:Hid _:=Ac1 D.out.low R0.out;have L1:Hid _:=G0.out.below.trans (D.out.low.mono (by omega));have i3:=Ab A1.out 3;have j3:=Ab B1.out 3;have zb:=Aa B1.out;obtain⟨N,j,c⟩:=D.out.own;have U:Hid (Are _ W0 (n+1) _ N):=c;have a0:x.keys.filter (fun e=>true)=x.keys:=by simp
   rw[a0,<- O.out] at j;have H:Hid (wr.ownsRow _ 30 5 u9 k _):=j;obtain⟨R,S2,V2⟩:=Jm YR.out;have V:Hid (Hl wr I C R):=S2.below D.out.low;have a3:Hid (Are _ W0 (n+1) y.keys R):=V2;have G:w.heap.size+3<=wr.heap.size:=by have:=D.out.low.size;omega
   clear j c S2 V2 HT;generalize (x.keys.any _)=ms;go_wp2_with (at_builtin;refine Az _ rfl _ _ rfl _ u9 k N rfl H.out I C S R rfl V.out (by omega) G ?_)
   intro l4 w4 j f;have L4:Hid _:=B8 L1.out (by omega) H.out f;have R4:Hid _:=(Jn H.out f (by omega) (Aa R1.out)).trans R1.out;have a4:=B8 D.out.low (by omega) H.out f;have c:=U.out.app a3.out;rw[a0] at c;have Q:(N++R).length=k+C:=by rw[c.1,List.length_append,O.out,YR.out.1]
   rw[<- Q] at j;obtain⟨a,b0,a5,rfl,M⟩:=Bu j c (by rw[Q];omega) (Fr.below a4) (fun g hg=>⟨HP.out g (by omega),by omega⟩) (fun k _ hp=>hp);have a8:=by have:=M.1;rw[<- c.1,Q] at this;exact this
   have HN:Hid (Calls prog 44 #[.slice a b0 a5] w4 (Aw (fun k=>P k/\k≠w.heap.size+1+1) w4 (n+2) z)):=by
    have:=G6 (n+1) _ w4 a b0 a5 _ M (by omega) b7.out;rw[a2.out];refine Calls.mono this ?_;intro e w' h;exact Ek (fun k hk=>⟨HP.out k (by have:=L4.out.size;omega),by have:=Aa R4.out;omega⟩) h
   clear j f c M Q a8 V U a3 a2 H R1 L1 a4 D a0;go_wp2_with fail
   refine HN.out.mono ?_;rintro e w5 ⟨t,rfl,hb,X⟩;obtain⟨q,m,p,o,r,B,A,rfl,-,-,-,-⟩:=id X;have RZ:Hid _:=Ac1 hb R4.out;have LZ:Hid _:=(L4.out).trans (hb.mono (L4.out).size);have b6:Hid (Ref _ w5 (n+2) z _):=X;clear hb X;obtain⟨HE,d6,d7,d8,d9,e0,e1,e2,e3,e4,e5,e6,XF⟩:=Bg RZ.out (by omega) LZ.out b6.out;go_wp2_with fail
   obtain⟨k0,k1,k2,k3,k4⟩:=Ah XF.out;change bodyPost _ _ _ _ _ (Ao _ _ 0 _ _ _ _ _);exact Ae2 (by simp[results,results51,go_sem,k0,k1,k2,k3,k4]) rfl HE.out
end Go.Proofs.YtdpeliifdlhhkaaGreatDoor.Sx
