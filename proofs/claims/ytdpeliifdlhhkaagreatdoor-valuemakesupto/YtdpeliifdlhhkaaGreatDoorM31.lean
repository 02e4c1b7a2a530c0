/- The reference: sets. -/
import Derived.Test.YtdpeliifdlhhkaaGreatDoorM28
namespace Go.Proofs.YtdpeliifdlhhkaaGreatDoor.Sx
open Go.RowKit Go.Sort Tryz
set_option maxRecDepth 100000
set_option maxHeartbeats 4000000
theorem bO (n:Nat)(P:Nat->Prop)(w:World)(x y:Ag (AV (n+1)))(u v:Value)(hx:Ref P w (n+2) x u)(hy:Ref P w (n+2) y v)(hP:∀k,w.heap.size<=k->P k)(hA:Asc (Al (n+1)) y.keys)(hl1:x.keys.length<=524288)(hl2:y.keys.length<=524288)(z:AV (n+2))
  (h1:x.kind=5) (h2:y.kind=5) (hz:z=(Bj (!(x.keys.any fun e=>!Ch (n+1) y.keys e)):Ag (AV (n+1)))) :
  Calls prog 51 #[.string ⟨#[115,117,98,115,101,116]⟩,u,v] w (Aw P w (n+2) z):=by
 obtain⟨s,V,j,kc,va,vl,vc,rfl,-,M,-,-⟩:=id hx;obtain⟨s',h,g,r,H,J,I,rfl,-,r2,-,-⟩:=id hy;have mo:=follows;obtain⟨A,A0,B0,R0⟩:=Qf w #[.int .i64 x.kind,.int .i64 x.int,.string s,.slice V j kc,.slice va vl vc] #[.int .i64 y.kind,.int .i64 y.int,.string s',.slice h g r,.slice H J I] #[.int .i64 0,.int .i64 0,.string ⟨#[]⟩,.slice none 0 0,.slice none 0 0] 30;have z0:(((w.alloc (.cells #[.int .i64 x.kind,.int .i64 x.int,.string s,.slice V j kc,.slice va vl vc] 30)).alloc (.cells #[.int .i64 y.kind,.int .i64 y.int,.string s',.slice h g r,.slice H J I] 30)).alloc (.cells #[.int .i64 0,.int .i64 0,.string ⟨#[]⟩,.slice none 0 0,.slice none 0 0] 30)).heap.size=w.heap.size+3:=by simp
 have XR:Hid (Bm (fun k=>P k/\k≠w.heap.size+1+1) _ (Ref (fun k=>P k/\k≠w.heap.size+1+1) _ (n+1)) V j x.keys):=M.fr (Fr.grew A.out) (fun x v=>Ref.fr (Fr.grew A.out) (fun k hk hp=>⟨hp,by omega⟩) (n+1) x v) (fun k hk hp=>⟨hp,by omega⟩);have YR:Hid (Bm (fun k=>P k/\k≠w.heap.size+1+1) _ (Ref (fun k=>P k/\k≠w.heap.size+1+1) _ (n+1)) h g y.keys):=r2.fr (Fr.grew A.out) (fun x v=>Ref.fr (Fr.grew A.out) (fun k hk hp=>⟨hp,by omega⟩) (n+1) x v) (fun k hk hp=>⟨hp,by omega⟩);have HP:Hid _:=hP;have HA:Hid (Asc (Al (n+1)) y.keys):=hA;have D:Hid (j=x.keys.length):=M.1;have a5:j<=524288:=by have:=M.1;omega
 have a4:g<=524288:=by have:=r2.1;omega
 clear hx hy hP hA M r2;have b1:(((x.kind:Nat):Int)==5)=true:=by rw[h1];rfl
 have b2:(((y.kind:Nat):Int)==5)=true:=by rw[h2];rfl
 have C:Hid _:=hz;clear hz h1 h2;go_enter func51,ntmps51
 go_wp2_with fail
 generalize ((w.alloc _).alloc _).alloc _=W0 at A A0 B0 R0 XR YR z0 |-;go_loopw [9,10,11] (fun l ms i wr=>∃k:Nat,k<=j/\i=.int .i64 k/\ms=.bool ((x.keys.take k).any (fun e=>!Ch (n+1) y.keys e))/\Hid (I5 (fun k=>P k/\k≠w.heap.size+1+1) W0 wr (n+1) (w.heap.size+3) ((x.keys.take k).filter (fun e=>false)) l)) (fun _ _ i _=>j-(intOf i).toNat)
 case atStart=>exact⟨0,Ae1 _,rfl,rfl,⟨⟨[],Ca _ _,rfl,by simp⟩,Below.refl _ _⟩⟩
 case round =>
  obtain⟨k,hk,rfl,rfl,c⟩:=hrel;have K:Hid _:=Ac1 c.out.low A0.out;have O:Hid _:=Ac1 c.out.low B0.out;have i3:=Ab K.out 3;have za:=Aa K.out;by_cases a6:k<j
  ·have U:k<x.keys.length:=by have:=D.out;omega
   obtain⟨b,a7,T,E,R,F⟩:=XR.out.2.2.resolve_left (by omega);subst T;have q:=List.getElem?_eq_getElem U;obtain⟨v,hf,m⟩:=F k x.keys[k] q;have a:Hid _:=q;generalize x.keys[k]=e at m a;obtain⟨c0,c1,c2,c3,c4,rfl,d0,d1,d2,d3,d4⟩:=hf;obtain⟨a0,X,Z,Y,a1,a3,a2,G,-,-,-,-⟩:=id m;simp only[Value.agg.injEq,Array.mk.injEq,List.cons.injEq,and_true] at G;obtain⟨rfl,rfl,rfl,rfl,rfl⟩:=G;have p:Hid (Ref _ W0 (n+1) e _):=m;have HH:Hid _:=fun W hW=>Ol (n+1) _ W h g r y.keys e _ (YR.out.fr (Fr.below hW) (fun x v=>Ref.fr (Fr.below hW) (fun k _ hp=>hp) (n+1) x v) (fun k _ hp=>hp)) (p.out.fr (Fr.below hW) (fun k _ hp=>hp) _ _ _) HA.out;have zv:=Ad8 E c.out.low.size;have zb:=Aa O.out;obtain⟨m0,m1,m2,m3,m4⟩:=A9 c.out.low E d0 d1 d2 d3 d4;clear F R q m d0 d1 d2 d3 d4;go_wp2_with fail
   obtain⟨g0,g1,g2,g3,g4⟩:=Mp zv m0 m1 m2 m3 m4;have ga:=cell_grown za i3;have gb:=cell_grown zb (Ab O.out 3);clear i3;go_quiet_grown (first|(go_at_call 92;refine Ae3 (HH.out _ (c.out.low.trans ((((Ac.refl wr).grown _ _).below).mono c.out.low.size)))))
   have B:Hid (Ac wr (grow (wr.drewN nq) osq)):=(Ac.refl wr).grown _ _;have f:Hid _:=c.out.keep B.out.below;show Exit.then _ _ _ _ (grow (wr.drewN nq) osq);clear g0 g1 g2 g3 g4 ga gb HH;generalize grow _ osq=w1 at B f |-;clear nq osq c;have N:Hid _:=Ac1 B.out.below K.out;have p3:=Ab N.out 3;have zp:=Aa N.out;have zq:=Ad8 zv B.out.below.size;obtain⟨n0,n1,n2,n3,n4⟩:=A9 B.out.below zv m0 m1 m2 m3 m4;clear m0 m1 m2 m3 m4 K O B N;cases L:Ch (n+1) y.keys e with
   | true =>
    have d:Hid ((x.keys.take (k+1)).filter (fun e=>false)=(x.keys.take k).filter (fun e=>false)):=by
     show _=_;rw[E9 (fun e=>false) x.keys k _ a.out,if_neg (by simp)]
    have o:Hid ((x.keys.take (k+1)).any (fun e=>!Ch (n+1) y.keys e)=((x.keys.take k).any (fun e=>!Ch (n+1) y.keys e))):=by
     show _=_;rw[List.take_add_one,a.out,Option.toList_some,List.any_append];simp[L]
    rw[<- d.out] at f;clear d a L n0 n1 n2 n3 n4 p;go_wp2_with fail
    go_roundw
    case rel=>exact⟨k+1,by omega,by go_num,by rw[o.out],f⟩
    case measure=>simp[intOf];omega
   | false =>
    have d:Hid ((x.keys.take (k+1)).filter (fun e=>false)=(x.keys.take k).filter (fun e=>false)):=by
     show _=_;rw[E9 (fun e=>false) x.keys k _ a.out,if_neg (by simp)]
    have o:Hid ((x.keys.take (k+1)).any (fun e=>!Ch (n+1) y.keys e)=(true)):=by
     show _=_;rw[List.take_add_one,a.out,Option.toList_some,List.any_append];simp[L]
    rw[<- d.out] at f;clear d a L n0 n1 n2 n3 n4 p;go_wp2_with fail
    go_roundw
    case rel=>exact⟨k+1,by omega,by go_num,by rw[o.out],f⟩
    case measure=>simp[intOf];omega
  ·obtain rfl:k=j:=by omega
   have HT:Hid (x.keys.take k=x.keys):=by
    show _=_;rw[D.out];exact List.take_length
   rw[HT.out] at c |-;have R1:Hid _:=Ac1 c.out.low R0.out;have L1:Hid _:=A.out.below.trans (c.out.low.mono (by omega));have HF:Hid (∀W,Calls _ 88 #[_] W (Aw (fun k=>P k/\k≠w.heap.size+1+1) W (n+2) z)):=fun W=>by rw[C.out];exact K7 _ (n+1) _ W
   generalize (x.keys.any _)=ms at HF |-;clear c C HT;go_wp2_with fail
   refine(HF.out wr).mono ?_;rintro e w5 ⟨t,rfl,S,m⟩;obtain⟨a0,X,Z,Y,a1,a3,a2,rfl,-,-,-,-⟩:=id m;have RZ:Hid _:=Ac1 S R1.out;have LZ:Hid _:=(L1.out).trans (S.mono (L1.out).size);have Q:Hid (Ref _ w5 (n+2) z _):=m;clear S m;obtain⟨HE,a8,a9,b0,b3,b4,b5,b6,b7,b8,b9,c5,XF⟩:=Bg RZ.out (by omega) LZ.out Q.out;go_wp2_with fail
   obtain⟨k0,k1,k2,k3,k4⟩:=Ah XF.out;change bodyPost _ _ _ _ _ (Ao _ _ 0 _ _ _ _ _);exact Ae2 (by simp[results,results51,go_sem,k0,k1,k2,k3,k4]) rfl HE.out
theorem Zu (n m:Nat)(P:Nat->Prop)(w:World)(x y:Ag (AV n))(u v:Value)(hx:Ref P w (n+1) x u)(hy:Ref P w (n+1) y v)(h:(((x.kind:Nat):Int)==5)=false\/(((x.kind:Nat):Int)==5)=true/\(((y.kind:Nat):Int)==5)=false)(z:AV (m+1))(hz:z=(Bj false:Ag (AV m))) :
  Calls prog 51 #[.string ⟨#[115,117,98,115,101,116]⟩,u,v] w (Aw P w (m+1) z):=by
 obtain⟨s,ka,f,kc,va,vl,vc,rfl,-,r1,-,-⟩:=id hx;obtain⟨s',G,K,I,Z,a3,a1,rfl,-,-,-,-⟩:=id hy;have a6:f<=4294967296:=r1.2.1;have mo:=follows;obtain⟨d,g,-,p⟩:=Qf w #[.int .i64 x.kind,.int .i64 x.int,.string s,.slice ka f kc,.slice va vl vc] #[.int .i64 y.kind,.int .i64 y.int,.string s',.slice G K I,.slice Z a3 a1] #[.int .i64 0,.int .i64 0,.string ⟨#[]⟩,.slice none 0 0,.slice none 0 0] 30;have HF:Hid (∀W,Calls _ 88 #[_] W (Aw (fun k=>P k/\k≠w.heap.size+1+1) W (m+1) z)):=fun W=>by rw[hz];exact K7 _ m _ W
 clear hx hy r1 hz;rcases h with b1|⟨b1,b2⟩
 all_goals
  go_enter func51,ntmps51
  go_wp2_with fail
  generalize ((w.alloc _).alloc _).alloc _=W0 at d g p |-;go_loopw [9,10,11] (fun l ms i wr=>l=.slice none 0 0/\ms=.bool false/\i=.int .i64 0/\W0=wr) (fun _ _ _ _=>0)
  case atStart=>exact⟨rfl,rfl,rfl,rfl⟩
  case round =>
   obtain⟨rfl,rfl,rfl,rfl⟩:=hrel;have i3:=Ab g.out 3;have za:=Aa g.out;clear g;rcases Nat.eq_zero_or_pos f with A|A
   ·have hp:¬(0:Int)<(f:Int):=by omega
    clear A;go_wp2_with fail
    refine(HF.out W0).mono ?_;rintro e w5 ⟨t,rfl,b,c⟩;obtain⟨S,H,L,J,a0,a4,a2,rfl,-,-,-,-⟩:=id c;have q:Hid _:=Ac1 b p.out;have o:Hid _:=(d.out.below).trans (b.mono (d.out.below).size);have a:Hid (Ref _ w5 (m+1) z _):=c;clear b c;obtain⟨j,M,N,O,Q,R,T,U,V,X,Y,a5,r⟩:=Bg q.out (by omega) o.out a.out;go_wp2_with fail
    obtain⟨B,C,D,E,F⟩:=Ah r.out;change bodyPost _ _ _ _ _ (Ao _ _ 0 _ _ _ _ _);exact Ae2 (by simp[results,results51,go_sem,B,C,D,E,F]) rfl j.out
   ·have hp:(0:Int)<(f:Int):=by omega
    clear A;go_wp2_with fail
    refine(HF.out W0).mono ?_;rintro e w5 ⟨t,rfl,b,c⟩;obtain⟨S,H,L,J,a0,a4,a2,rfl,-,-,-,-⟩:=id c;have q:Hid _:=Ac1 b p.out;have o:Hid _:=(d.out.below).trans (b.mono (d.out.below).size);have a:Hid (Ref _ w5 (m+1) z _):=c;clear b c;obtain⟨j,M,N,O,Q,R,T,U,V,X,Y,a5,r⟩:=Bg q.out (by omega) o.out a.out;go_wp2_with fail
    obtain⟨B,C,D,E,F⟩:=Ah r.out;change bodyPost _ _ _ _ _ (Ao _ _ 0 _ _ _ _ _);exact Ae2 (by simp[results,results51,go_sem,B,C,D,E,F]) rfl j.out
theorem tG (n m:Nat)(P:Nat->Prop)(w:World)(x:AV (n+1))(y:Ag (AV (n+1)))(u v:Value)(hx:Ref P w (n+1) x u)(hy:Ref P w (n+2) y v)(hA:Asc (Al (n+1)) y.keys)(z:AV (m+1))(hz:z=(Bj (decide (y.kind=5)&&Ch (n+1) y.keys x):Ag (AV m))) :
  Calls prog 51 #[.string ⟨#[105,110]⟩,u,v] w (Aw P w (m+1) z):=by
 obtain⟨s,ka,kl,kc,va,vl,vc,rfl,-,-,-,-⟩:=id hx;obtain⟨s',r,B,A,a3,a7,a5,rfl,-,r2,-,-⟩:=id hy;have mo:=follows;obtain⟨c,-,i,j⟩:=Qf w #[.int .i64 x.kind,.int .i64 x.int,.string s,.slice ka kl kc,.slice va vl vc] #[.int .i64 y.kind,.int .i64 y.int,.string s',.slice r B A,.slice a3 a7 a5] #[.int .i64 0,.int .i64 0,.string ⟨#[]⟩,.slice none 0 0,.slice none 0 0] 30;have o:Hid _:=fun W hW=>Ol (n+1) P W r B A y.keys x _ (r2.grew hW) (hx.grew hW) hA;have d:Hid (∀(b:Bool)(W:World),b=(_&&_)->Calls _ 88 #[.bool b] W (Aw (fun k=>P k/\k≠w.heap.size+1+1) W (m+1) z)):=fun b W hb=>by rw[hz,<- hb];exact K7 _ m _ W
 generalize Ch (n+1) y.keys x=h at o d hz;clear hz hx hy r2 hA;by_cases q:y.kind=5
 ·have b2:(((y.kind:Nat):Int)==5)=true:=by rw[q];rfl
  rw[decide_eq_true q,Bool.true_and] at d;have D:Hid _:=fun W=>d.out h W rfl;clear q d;go_enter func51,ntmps51
  go_wp2_with fail
  generalize ((w.alloc _).alloc _).alloc _=W0 at c i j |-;refine(o.out W0 c.out).mono ?_;rintro e w1 ⟨rfl,a⟩;have p:Hid _:=(c.out.trans a).below;have l:Hid _:=Ac1 a.below i.out;have F:Hid _:=Ac1 a.below j.out;clear a c i j o;have i0:=Ab l.out 0;have zb:=Aa l.out;go_wp2_with fail
  refine(D.out w1).mono ?_;rintro e w5 ⟨t,rfl,hb,g⟩;obtain⟨X,N,Q,O,a4,a8,a6,rfl,-,-,-,-⟩:=id g;have G:Hid _:=Ac1 hb F.out;have E:Hid _:=(p.out).trans (hb.mono (p.out).size);have f:Hid (Ref _ w5 (m+1) z _):=g;clear hb g;obtain⟨C,R,S,T,U,V,Y,Z,a0,a1,a2,a9,H⟩:=Bg G.out (by omega) E.out f.out;go_wp2_with fail
  obtain⟨I,J,K,L,M⟩:=Ah H.out;change bodyPost _ _ _ _ _ (Ao _ _ 0 _ _ _ _ _);exact Ae2 (by simp[results,results51,go_sem,I,J,K,L,M]) rfl C.out
 ·have b2:(((y.kind:Nat):Int)==5)=false:=by simp;omega
  rw[decide_eq_false q,Bool.false_and] at d;have D:Hid _:=fun W=>d.out false W rfl;clear q d;go_enter func51,ntmps51
  go_wp2_with fail
  generalize ((w.alloc _).alloc _).alloc _=W0 at c i j |-;refine(o.out W0 c.out).mono ?_;rintro e w1 ⟨rfl,a⟩;have p:Hid _:=(c.out.trans a).below;have l:Hid _:=Ac1 a.below i.out;have F:Hid _:=Ac1 a.below j.out;clear a c i j o;have i0:=Ab l.out 0;have zb:=Aa l.out;go_wp2_with fail
  refine(D.out w1).mono ?_;rintro e w5 ⟨t,rfl,hb,g⟩;obtain⟨X,N,Q,O,a4,a8,a6,rfl,-,-,-,-⟩:=id g;have G:Hid _:=Ac1 hb F.out;have E:Hid _:=(p.out).trans (hb.mono (p.out).size);have f:Hid (Ref _ w5 (m+1) z _):=g;clear hb g;obtain⟨C,R,S,T,U,V,Y,Z,a0,a1,a2,a9,H⟩:=Bg G.out (by omega) E.out f.out;go_wp2_with fail
  obtain⟨I,J,K,L,M⟩:=Ah H.out;change bodyPost _ _ _ _ _ (Ao _ _ 0 _ _ _ _ _);exact Ae2 (by simp[results,results51,go_sem,I,J,K,L,M]) rfl C.out
end Go.Proofs.YtdpeliifdlhhkaaGreatDoor.Sx
