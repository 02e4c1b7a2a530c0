/- The reference: given. -/
import Derived.Test.YtdpeliifdlhhkaaGreatDoorM28
import Derived.Test.YtdpeliifdlhhkaaGreatDoorM27
import Derived.Test.YtdpeliifdlhhkaaGreatDoorM26
namespace Go.Proofs.YtdpeliifdlhhkaaGreatDoor.Sx
open Go.RowKit Go.Sort Tryz
set_option maxRecDepth 100000
set_option maxHeartbeats 4000000
theorem Qk (n:Nat)(P:Nat->Prop)(w:World)(x:Ag (AV (n+1)))(y t:AV (n+1))(u v r:Value)(hx:Ref P w (n+2) x u)(hy:Ref P w (n+1) y v)(ht:Ref P w (n+1) t r)(hP:∀k,w.heap.size<=k->P k)(hA:x.kind=6->Asc (Al (n+1)) x.keys)(hlen:x.kind=6->x.keys.length=x.vals.length)(hl:x.vals.length<=524288)(hW:∀q,q∈x.keys\/q∈x.vals.set (B6 (n+1) x.keys y) t->Wgt (n+1) q)(z:AV (n+2))
  (H0:x.kind≠6->z=(Ar:Ag (AV (n+1)))) (H2:x.kind=6->Ch (n+1) x.keys y=false->z=x) (H1:x.kind=6->Ch (n+1) x.keys y=true->z=(mkP (wt (n+1)) (Dp (Al (n+1)) (x.keys.zip (x.vals.set (B6 (n+1) x.keys y) t))):Ag (AV (n+1)))) :
  Calls prog 47 #[u,v,r] w (Aw P w (n+2) z):=by
 obtain⟨s,Q,G,kc,va,I,vc,rfl,t1,r1,q1,cv⟩:=id hx;obtain⟨s',R,V,T,Z,a3,a1,rfl,-,-,-,-⟩:=id hy;obtain⟨s3,f,m,j,o,A,p,rfl,-,-,-,-⟩:=id ht;have mo:=follows;have G0:Hid (Ac w ((((w.alloc (.cells #[.int .i64 x.kind,.int .i64 x.int,.string s,.slice Q G kc,.slice va I vc] 30)).alloc (.cells #[.int .i64 y.kind,.int .i64 y.int,.string s',.slice R V T,.slice Z a3 a1] 30)).alloc (.cells #[.int .i64 t.kind,.int .i64 t.int,.string s3,.slice f m j,.slice o A p] 30)).alloc (.cells #[.int .i64 0,.int .i64 0,.string ⟨#[]⟩,.slice none 0 0,.slice none 0 0] 30))):=((((Ac.refl w).alloc _).alloc _).alloc _).alloc _;have A0:Hid (((((w.alloc (.cells #[.int .i64 x.kind,.int .i64 x.int,.string s,.slice Q G kc,.slice va I vc] 30)).alloc (.cells #[.int .i64 y.kind,.int .i64 y.int,.string s',.slice R V T,.slice Z a3 a1] 30)).alloc (.cells #[.int .i64 t.kind,.int .i64 t.int,.string s3,.slice f m j,.slice o A p] 30)).alloc (.cells #[.int .i64 0,.int .i64 0,.string ⟨#[]⟩,.slice none 0 0,.slice none 0 0] 30)).heap[w.heap.size]?=_):=Ac1 ((((Ac.refl _).alloc _).alloc _).alloc _).below (Af rfl);have C0:Hid (((((w.alloc (.cells #[.int .i64 x.kind,.int .i64 x.int,.string s,.slice Q G kc,.slice va I vc] 30)).alloc (.cells #[.int .i64 y.kind,.int .i64 y.int,.string s',.slice R V T,.slice Z a3 a1] 30)).alloc (.cells #[.int .i64 t.kind,.int .i64 t.int,.string s3,.slice f m j,.slice o A p] 30)).alloc (.cells #[.int .i64 0,.int .i64 0,.string ⟨#[]⟩,.slice none 0 0,.slice none 0 0] 30)).heap[w.heap.size+1+1]?=_):=Ac1 ((Ac.refl _).alloc _).below (Af (by simp));have R0:Hid (((((w.alloc (.cells #[.int .i64 x.kind,.int .i64 x.int,.string s,.slice Q G kc,.slice va I vc] 30)).alloc (.cells #[.int .i64 y.kind,.int .i64 y.int,.string s',.slice R V T,.slice Z a3 a1] 30)).alloc (.cells #[.int .i64 t.kind,.int .i64 t.int,.string s3,.slice f m j,.slice o A p] 30)).alloc (.cells #[.int .i64 0,.int .i64 0,.string ⟨#[]⟩,.slice none 0 0,.slice none 0 0] 30)).heap[w.heap.size+1+1+1]?=_):=Af (by simp);have z0:((((w.alloc (.cells #[.int .i64 x.kind,.int .i64 x.int,.string s,.slice Q G kc,.slice va I vc] 30)).alloc (.cells #[.int .i64 y.kind,.int .i64 y.int,.string s',.slice R V T,.slice Z a3 a1] 30)).alloc (.cells #[.int .i64 t.kind,.int .i64 t.int,.string s3,.slice f m j,.slice o A p] 30)).alloc (.cells #[.int .i64 0,.int .i64 0,.string ⟨#[]⟩,.slice none 0 0,.slice none 0 0] 30)).heap.size=w.heap.size+4:=by simp
 by_cases h1:x.kind=6
 ·have b1:(((x.kind:Nat):Int)==6)=true:=by rw[h1];rfl
  have a6:Hid _:=fun W hW=>J8 (n+1) P W Q G kc x.keys y _ (r1.grew hW) (hy.grew hW) (hA h1) ⟨_,_,_,_,_,rfl⟩;have a5:Hid _:=H2 h1;have J:Hid _:=H1 h1;have K:Hid (_=true->B6 (n+1) x.keys y<x.vals.length):=fun h=>by
   have:=(E6 (x:=y) (hA h1)).yes h;have:=(List.getElem?_eq_some_iff.1 this).1;have:=hlen h1;omega
  have b2:Hid _:=hlen h1;have HX:Hid (Ref P w (n+2) x _):=hx;have b4:Hid (Ref P w (n+1) t _):=ht;have HP:Hid _:=hP;have a7:Hid _:=hW;have b0:Hid (Bm P w _ Q G x.keys):=r1;have M:Hid (Bm P w _ va I x.vals):=q1;clear H0 H1 H2 h1 t1 r1 q1 cv hx hy ht hA hlen hP hW;generalize Ch (n+1) x.keys y=B at a6 J a5 K;generalize B6 (n+1) x.keys y=q at a6 J K a7;go_enter func47,ntmps47
  go_wp2_with fail
  generalize (((w.alloc _).alloc _).alloc _).alloc _=W0 at G0 A0 C0 R0 z0 |-;refine(a6.out W0 G0.out).mono ?_;rintro e c ⟨rfl,hg⟩;have G1:Hid (Ac w c):=G0.out.trans hg;have A1:Hid _:=Ac1 hg.below A0.out;have C1:Hid _:=Ac1 hg.below C0.out;have R1:Hid _:=Ac1 hg.below R0.out;have z1:_+4<=_:=Aa R1.out;clear hg G0 A0 C0 R0 z0 a6;obtain⟨i0,i1,i2,i3,i4⟩:=Ah A1.out;have za:=Aa A1.out;cases B with
  | false =>
   have hz:=a5.out rfl;subst hz;have b3:Hid (Ref (fun k=>P k/\k≠w.heap.size+1+1+1) c (n+2) z _):=(HX.out.fr (Fr.refl _ w) (fun k hk hp=>⟨hp,by omega⟩) _ _ _).grew G1.out;clear J a5 K b2 HX b4 a7 b0 M A1 C1;obtain⟨HE,e0,e1,e2,e3,e4,e5,e6,e7,e8,e9,f0,XF⟩:=Bg R1.out (by omega) G1.out.below b3.out;go_wp2_with fail
   obtain⟨k0,k1,k2,k3,k4⟩:=Ah XF.out;change bodyPost _ _ _ _ _ (Ao _ _ 0 _ _ _ _ _);exact Ae2 (by simp[results,results47,go_sem,k0,k1,k2,k3,k4]) rfl HE.out
  | true =>
   have hq:=K.out rfl;have d5:=J.out rfl;have HZ:Hid _:=d5;have b6:Hid (I=x.vals.length):=M.out.1;have f4:I<=524288:=by have:=M.out.1;omega
   have VR:Hid (Bm (fun k=>P k/\k≠w.heap.size+1+1+1) c (Ref (fun k=>P k/\k≠w.heap.size+1+1+1) c (n+1)) va I x.vals):=M.out.fr (Fr.grew G1.out) (fun x v=>Ref.fr (Fr.grew G1.out) (fun k hk hp=>⟨hp,by omega⟩) (n+1) x v) (fun k hk hp=>⟨hp,by omega⟩);have KR:Hid (Bm (fun k=>P k/\k≠w.heap.size+1+1+1) c (Ref (fun k=>P k/\k≠w.heap.size+1+1+1) c (n+1)) Q G x.keys):=b0.out.fr (Fr.grew G1.out) (fun x v=>Ref.fr (Fr.grew G1.out) (fun k hk hp=>⟨hp,by omega⟩) (n+1) x v) (fun k hk hp=>⟨hp,by omega⟩);have TR:Hid (Ref (fun k=>P k/\k≠w.heap.size+1+1+1) c (n+1) t _):=(b4.out.fr (Fr.refl _ w) (fun k hk hp=>⟨hp,by omega⟩) _ _ _).grew G1.out;clear d5 J a5 K HX b4 b0 M;go_wp2_with fail
   go_loopw [9,10] (fun l i wr=>∃k:Nat,k<=I/\i=.int .i64 k/\Hid (I5 (fun k=>P k/\k≠w.heap.size+1+1+1) c wr (n+1) (c.heap.size) ((x.vals.set q t).take k) l)) (fun _ i _=>I-(intOf i).toNat)
   case atStart=>exact⟨0,Ae1 _,rfl,⟨⟨[],Ca _ _,rfl,by simp⟩,Below.refl _ _⟩⟩
   case round =>
    clear i0 i1 i2 i3 i4;obtain⟨k,hk,rfl,d⟩:=hrel;have A2:Hid _:=Ac1 d.out.low A1.out;have C2:Hid _:=Ac1 d.out.low C1.out;obtain⟨-,-,-,i3,i4⟩:=Ah A2.out;have f6:=Aa A2.out;have f2:=d.out.low.size;have b9:_<=c.heap.size:=Ad9 _;by_cases f3:k<I
    ·have d8:k<x.vals.length:=by have:=b6.out;omega
     have a8:((x.vals.set q t).take k).length<=524288:=by have:=List.length_take_le k (x.vals.set q t);omega
     by_cases a9:k=q
     ·have bq:((k:Int)==(q:Int))=true:=by rw[a9];simp
      have D:Hid ((x.vals.set q t).take (k+1)=(x.vals.set q t).take k++[t]):=by
       show _=_;rw[List.take_add_one,a9,List.getElem?_set_self (by omega),Option.toList_some]
      obtain⟨c0,c1,c2,c3,c4⟩:=Ah C2.out;have zc:=Aa C2.out;clear a9;obtain⟨hs,H,F⟩:=d.out.own;have KV:Hid (Are _ c (n+1) _ hs):=F;obtain⟨L,hL⟩:∃L,((x.vals.set q t).take k).length=L:=⟨_,rfl⟩;have C:Hid _:=hL;have d6:L<=524288:=by have:=a8;omega
      rw[hL] at H;have OA:Hid ((wr.alloc (.cells #[.int .i64 t.kind,.int .i64 t.int,.string s3,.slice f m j,.slice o A p] 30)).ownsRow _ 30 5 u9 L _):=Bo H (fun g _ hg=>(((Ac.refl wr).alloc _).below).block g hg);have SA:Hid (Hl (wr.alloc (.cells #[.int .i64 t.kind,.int .i64 t.int,.string s3,.slice f m j,.slice o A p] 30)) _ 1 [(⟨_,_,_,_,_,rfl,rfl,rfl,rfl,rfl⟩:H5)]):=El wr _;have LA:Hid (Below _ c (wr.alloc (.cells #[.int .i64 t.kind,.int .i64 t.int,.string s3,.slice f m j,.slice o A p] 30))):=d.out.low.trans ((((Ac.refl wr).alloc _).below).mono d.out.low.size);have E:Hid (Ref _ c (n+1) t _):=TR.out;clear H F hL a8;go_wp2_with (at_builtin;refine Az _ rfl _ _ rfl _ u9 L hs rfl OA.out _ 1 1 _ rfl SA.out (by omega) ?q1 ?_)
      case q1=>first|omega|(simp;omega)
      intro l4 w4 H N;have HN:Hid (I5 (fun k=>P k/\k≠w.heap.size+1+1+1) c w4 (n+1) (c.heap.size) ((x.vals.set q t).take (k+1)) l4):=by
       refine⟨⟨hs++[(⟨.int .i64 t.kind,.int .i64 t.int,.string s3,.slice f m j,.slice o A p,rfl,rfl,rfl,rfl,rfl⟩:H5)],?_,?_⟩,B8 LA.out b9 OA.out N⟩
       ·rw[D.out,List.length_append,C.out];exact H
       ·rw[D.out];exact KV.out.app (Are.one E.out)
      clear H N OA SA LA KV d D C E A2 C2 c0 c1 c2 c3 c4 i3 i4;go_wp2_with fail
      go_roundw
      case rel=>exact⟨k+1,by omega,by go_num,HN⟩
      case measure=>simp[intOf];omega
     ·have bq:((k:Int)==(q:Int))=false:=by simp;omega
      obtain⟨b,f5,d9,c5,d7,c6⟩:=VR.out.2.2.resolve_left (by omega);subst d9;have b5:=List.getElem?_eq_getElem d8;obtain⟨v,hf,hr⟩:=c6 k x.vals[k] b5;have D:Hid ((x.vals.set q t).take (k+1)=(x.vals.set q t).take k++[x.vals[k]]):=by
       show _=_;rw[List.take_add_one,List.getElem?_set_ne (by omega),b5,Option.toList_some]
      generalize x.vals[k]=e at hr D;obtain⟨c0,c1,c2,c3,c4,rfl,d0,d1,d2,d3,d4⟩:=hf;obtain⟨Y,S,X,U,a0,a4,a2,c9,-,-,-,-⟩:=id hr;simp only[Value.agg.injEq,Array.mk.injEq,List.cons.injEq,and_true] at c9;obtain⟨rfl,rfl,rfl,rfl,rfl⟩:=c9;have zv:=Ad8 c5 d.out.low.size;obtain⟨m0,m1,m2,m3,m4⟩:=A9 d.out.low c5 d0 d1 d2 d3 d4;have b7:Hid (Ref _ c (n+1) e _):=hr;clear c6 d7 b5 hr d0 d1 d2 d3 d4 a9;obtain⟨hs,H,F⟩:=d.out.own;have KV:Hid (Are _ c (n+1) _ hs):=F;obtain⟨L,hL⟩:∃L,((x.vals.set q t).take k).length=L:=⟨_,rfl⟩;have C:Hid _:=hL;have d6:L<=524288:=by have:=a8;omega
      rw[hL] at H;have OA:Hid ((wr.alloc (.cells #[.int .i64 e.kind,.int .i64 e.int,.string Y,.slice S X U,.slice a0 a4 a2] 30)).ownsRow _ 30 5 u9 L _):=Bo H (fun g _ hg=>(((Ac.refl wr).alloc _).below).block g hg);have SA:Hid (Hl (wr.alloc (.cells #[.int .i64 e.kind,.int .i64 e.int,.string Y,.slice S X U,.slice a0 a4 a2] 30)) _ 1 [(⟨_,_,_,_,_,rfl,rfl,rfl,rfl,rfl⟩:H5)]):=El wr _;have LA:Hid (Below _ c (wr.alloc (.cells #[.int .i64 e.kind,.int .i64 e.int,.string Y,.slice S X U,.slice a0 a4 a2] 30))):=d.out.low.trans ((((Ac.refl wr).alloc _).below).mono d.out.low.size);have E:Hid (Ref _ c (n+1) e _):=b7.out;clear H F hL a8;go_wp2_with (at_builtin;refine Az _ rfl _ _ rfl _ u9 L hs rfl OA.out _ 1 1 _ rfl SA.out (by omega) ?q1 ?_)
      case q1=>first|omega|(simp;omega)
      intro l4 w4 H N;have HN:Hid (I5 (fun k=>P k/\k≠w.heap.size+1+1+1) c w4 (n+1) (c.heap.size) ((x.vals.set q t).take (k+1)) l4):=by
       refine⟨⟨hs++[(⟨.int .i64 e.kind,.int .i64 e.int,.string Y,.slice S X U,.slice a0 a4 a2,rfl,rfl,rfl,rfl,rfl⟩:H5)],?_,?_⟩,B8 LA.out b9 OA.out N⟩
       ·rw[D.out,List.length_append,C.out];exact H
       ·rw[D.out];exact KV.out.app (Are.one E.out)
      clear H N OA SA LA KV d D C E A2 C2 m0 m1 m2 m3 m4 i3 i4 b7;go_wp2_with fail
      go_roundw
      case rel=>exact⟨k+1,by omega,by go_num,HN⟩
      case measure=>simp[intOf];omega
    ·obtain rfl:k=I:=by omega
     have HT:Hid ((x.vals.set q t).take k=x.vals.set q t):=by
      show _=_;exact List.take_of_length_le (by rw[List.length_set];have:=b6.out;omega)
     rw[HT.out] at d;have R2:Hid _:=Ac1 d.out.low R1.out;have L2:Hid _:=G1.out.below.trans (d.out.low.mono (by omega));obtain⟨a,b8,rfl,O⟩:=d.out.row (by rw[List.length_set];omega) (fun k hk=>⟨HP.out k (by omega),by omega⟩);have c7:(x.vals.set q t).length=G:=by rw[List.length_set,<- b2.out];exact KR.out.1.symm
     rw[c7] at O |-;have f1:G<=524288:=by have:=KR.out.1;have:=b2.out;have:=b6.out;omega
     have c8:Bm _ wr (Ref _ wr (n+1)) Q G x.keys:=KR.out.fr (Fr.below d.out.low) (fun x v=>Ref.fr (Fr.below d.out.low) (fun k _ hp=>hp) (n+1) x v) (fun k _ hp=>hp);have HN:Hid (Calls prog 67 #[.slice Q G kc,.slice a G b8] wr (Aw (fun k=>P k/\k≠w.heap.size+1+1+1) wr (n+2) z)):=by
      have:=O8 (n+1) _ wr Q a G kc b8 x.keys _ c8 O (by omega) a7.out;rw[HZ.out];refine Calls.mono this ?_;intro e w' h;exact Ek (fun k hk=>⟨HP.out k (by omega),by omega⟩) h
     clear O c8 c7 d HT HZ a7 VR KR TR;go_wp2_with fail
     refine HN.out.mono ?_;rintro e w5 ⟨t,rfl,hb,hr⟩;obtain⟨Y,S,X,U,a0,a4,a2,rfl,-,-,-,-⟩:=id hr;have RZ:Hid _:=Ac1 hb R2.out;have LZ:Hid _:=(L2.out).trans (hb.mono (L2.out).size);have b3:Hid (Ref _ w5 (n+2) z _):=hr;clear hb hr;obtain⟨HE,e0,e1,e2,e3,e4,e5,e6,e7,e8,e9,f0,XF⟩:=Bg RZ.out (by omega) LZ.out b3.out;go_wp2_with fail
     obtain⟨k0,k1,k2,k3,k4⟩:=Ah XF.out;change bodyPost _ _ _ _ _ (Ao _ _ 0 _ _ _ _ _);exact Ae2 (by simp[results,results47,go_sem,k0,k1,k2,k3,k4]) rfl HE.out
 ·have b1:(((x.kind:Nat):Int)==6)=false:=by simp;omega
  obtain rfl:=H0 h1;clear H0 H1 H2 h1 t1 r1 q1 cv hx hy ht hA hlen hP hW;go_enter func47,ntmps47
  go_wp2_with fail
  exact Ae2 (by simp[results,results47,go_sem,Bk]) rfl (Dj (n+1) G0.out.below)
theorem Oo {i:Nat}{s:ByteArray}{C:World->Value->Prop}{f:Nat}(hi:Cc[i]?=some (s.data.toList,-1,C))(hs:i=18/\f=44\/i=34/\f=45\/i=29/\f=46)(m:Nat)(P:Nat->Prop)(w:World)(a:Option Addr)(len cap:Nat)(z:AV (m+1))
  (H:∀(W:World),Ac w W->w.heap.size<W.heap.size->Calls prog f #[.slice a len cap] W (Aw (fun k=>P k/\k≠w.heap.size) W (m+1) z)) :
  Calls prog 22 #[.string s,.slice a len cap] w (Aw P w (m+1) z):=by
 have j:Hid _:=fun W=>Ii s i _ C hi W;have o:Hid _:=H;clear H;have mo:=follows;have b:Hid (Ac w (w.alloc (.cells #[.int .i64 0,.int .i64 0,.string ⟨#[]⟩,.slice none 0 0,.slice none 0 0] 30))):=(Ac.refl w).alloc _;have d:Hid ((w.alloc (.cells #[.int .i64 0,.int .i64 0,.string ⟨#[]⟩,.slice none 0 0,.slice none 0 0] 30)).heap[w.heap.size]?=_):=Af rfl;rcases hs with⟨rfl,rfl⟩|⟨rfl,rfl⟩|⟨rfl,rfl⟩
 all_goals
  simp only[Cc,List.getElem?_cons_zero,List.getElem?_cons_succ,Option.some.injEq,Prod.mk.injEq] at hi;obtain⟨l,-,-⟩:=hi;obtain rfl:=Gt l;clear l;go_enter func22,ntmps22
  go_wp2_with fail
  generalize w.alloc _=W0 at b d |-;refine(j.out W0).mono ?_;rintro e V ⟨rfl,rfl⟩;have Y:=Aa d.out;clear j;go_wp2_with fail
  refine(o.out V b.out Y).mono ?_;rintro e X ⟨t,rfl,g,h⟩;obtain⟨L,B,E,D,S,U,T,rfl,-,-,-,-⟩:=id h;have q:Hid _:=Ac1 g d.out;have p:Hid _:=(b.out.below).trans (g.mono (b.out.below).size);have c:Hid (Ref _ X (m+1) z _):=h;clear g h;obtain⟨n,F,G,I,J,K,M,N,O,Q,R,Z,r⟩:=Bg q.out (by omega) p.out c.out;go_wp2_with fail
  obtain⟨u,v,x,y,A⟩:=Ah r.out;change bodyPost _ _ _ _ _ (Ao _ _ 0 _ _ _ _ _);exact Ae2 (by simp[results,results22,go_sem,u,v,x,y,A]) rfl n.out
theorem jY (m:Nat)(P:Nat->Prop)(w:World)(op:ByteArray)(a:Option Addr)(len cap:Nat)(HT0:∀W,Calls prog 43 #[.string op] W (G9 W (-2))) :
  Calls prog 22 #[.string op,.slice a len cap] w (Aw P w (m+1) (Ar:Ag (AV m))):=by
 have d:Hid _:=HT0;clear HT0;have E:=follows;have c:Hid (Ac w (w.alloc (.cells #[.int .i64 0,.int .i64 0,.string ⟨#[]⟩,.slice none 0 0,.slice none 0 0] 30))):=(Ac.refl w).alloc _;have f:Hid ((w.alloc (.cells #[.int .i64 0,.int .i64 0,.string ⟨#[]⟩,.slice none 0 0,.slice none 0 0] 30)).heap[w.heap.size]?=_):=Af rfl;obtain⟨z,b⟩:∃z:AV (m+1),z=(Ar:Ag (AV m)):=⟨_,rfl⟩;have h:Hid (∀W:World,Ref (fun k=>P k/\k≠w.heap.size) W (m+1) z Bk):=fun W=>by rw[b];exact Cm _ W _
 rw[<- b];clear b;go_enter func22,ntmps22
 go_wp2_with fail
 generalize (w.alloc _)=W0 at c f |-;refine(d.out W0).mono ?_;rintro e C ⟨rfl,rfl⟩;clear d;obtain⟨g,q,r,s,t,u,v,x,y,A,B,D,i⟩:=Bg f.out (by omega) c.out.below (h.out C);go_wp2_with fail
 obtain⟨j,l,n,o,p⟩:=Ah i.out;change bodyPost _ _ _ _ _ (Ao _ _ 0 _ _ _ _ _);exact Ae2 (by simp[results,results22,go_sem,j,l,n,o,p]) rfl g.out
theorem jZ (m:Nat)(P:Nat->Prop)(w:World)(op:ByteArray)(a:Option Addr)(len cap:Nat)(t:Int)(h0:0<=t)(h1:t≠(len:Int))(HT0:∀W,Calls prog 43 #[.string op] W (G9 W t)) :
  Calls prog 22 #[.string op,.slice a len cap] w (Aw P w (m+1) (Ar:Ag (AV m))):=by
 have d:Hid _:=HT0;clear HT0;have H:=follows;have F:(t==-2)=false:=by simp;omega
 have G:(t != (len:Int))=true:=by simpa using h1
 have c:Hid (Ac w (w.alloc (.cells #[.int .i64 0,.int .i64 0,.string ⟨#[]⟩,.slice none 0 0,.slice none 0 0] 30))):=(Ac.refl w).alloc _;have f:Hid ((w.alloc (.cells #[.int .i64 0,.int .i64 0,.string ⟨#[]⟩,.slice none 0 0,.slice none 0 0] 30)).heap[w.heap.size]?=_):=Af rfl;obtain⟨z,b⟩:∃z:AV (m+1),z=(Ar:Ag (AV m)):=⟨_,rfl⟩;have h:Hid (∀W:World,Ref (fun k=>P k/\k≠w.heap.size) W (m+1) z Bk):=fun W=>by rw[b];exact Cm _ W _
 rw[<- b];clear b;go_enter func22,ntmps22
 go_wp2_with fail
 generalize (w.alloc _)=W0 at c f |-;refine(d.out W0).mono ?_;rintro e D ⟨rfl,rfl⟩;clear d;obtain⟨g,q,r,s,u,v,x,y,A,B,C,E,i⟩:=Bg f.out (by omega) c.out.below (h.out D);go_wp2_with fail
 obtain⟨j,l,n,o,p⟩:=Ah i.out;change bodyPost _ _ _ _ _ (Ao _ _ 0 _ _ _ _ _);exact Ae2 (by simp[results,results22,go_sem,j,l,n,o,p]) rfl g.out
theorem pH:∀x∈Cc.map (fun x=>x.2.1),x=-1\/0<=x:=by decide
theorem eW (m:Nat)(P:Nat->Prop)(w:World)(op:ByteArray)(a:Option Addr)(len cap:Nat)(h:jD op.data.toList len) :
  Calls prog 22 #[.string op,.slice a len cap] w (Aw P w (m+1) (Ar:Ag (AV m))):=by
 by_cases c:∃x∈Cc,x.1=op.data.toList
 ·obtain⟨x,hm,e⟩:=c;obtain⟨i,g⟩:=List.mem_iff_getElem?.1 hm;obtain⟨d,f⟩:=h x hm e;have j:=pH x.2.1 (List.mem_map.2 ⟨x,hm,rfl⟩);have b:Cc[i]?=some (op.data.toList,x.2.1,x.2.2):=by rw[g,<- e]
  exact jZ m P w op a len cap x.2.1 (j.resolve_left d) f (fun W=>Ii op i x.2.1 x.2.2 b W)
 ·exact jY m P w op a len cap (fun W=>eS op W (fun x hm e=>c ⟨x,hm,e⟩))
/-- as Az, and where the new row lies -/
theorem Dk (w:World){ops:Array Oper}{rest:List Oper}{o:Oper}{a:Act}{Q:Exit->Act->World->Prop}(hgd:o.guard=none)(s x:Operand)
  (ho:o.op=.call { callee:=.builtin .append,args:=#[s,x],argTypes:=#[28,28] })
  (base:Nat) (v:Value) (n:Nat) (xs:List H5) (hs:a.eval s=v) (hown:w.ownsRow base 30 5 v n (Bi xs))
  (b c:Nat) (u:H5) (hx:a.eval x=.slice (some ⟨b,0,none⟩) 1 c) (hS:Hl w (some ⟨b,0,none⟩) 1 [u]) (hlen:n+1<=4294967296) (hbase:base<=w.heap.size)
  (h:∀v' w',w'.ownsRow base 30 5 v' (n+1) (Bi (xs++[u]))->w.grownBy w' v.ownBlock->(v'.ownBlock=v.ownBlock\/v'.ownBlock=some w.heap.size)->wpList prog ops Q rest (a.put o.dst v') w'):wpList prog ops Q (o::rest) a w:=by
 obtain⟨i,t,z,d,l⟩:=info_parts Zi;obtain⟨D,C|⟨B,A,e,y,p⟩⟩:=hS
 ·omega
 ·simp only[Option.some.injEq,Addr.mk.injEq,and_true] at e;obtain⟨rfl,rfl⟩:=e;refine wpList_append_lies w hgd s x 28 ho base 30 i Bk 5 80 underlying28 t z d l rfl (by decide) v n (Bi xs) hs hown ⟨b,0,none⟩ 1 c (Bi [u]) hx (by rw[Lv];rfl) (fun j q hq=>by rw[add_plain];exact p j q hq) (Tz [u]) (by omega) (by unfold maxLen;omega) (by omega) hbase w.heap.size rfl ?_;intro g m w' f r k _;rw[<- O7] at f;exact h _ w' f r (k.elim (fun q=>.inl q.symm) (fun q=>.inr (by rw[q];rfl)))
theorem kC {w w':World}{base n:Nat}{sl:Value}{xs:List Value}{row:Option Nat}(h:w.ownsRow base 30 5 sl n xs)(hg:w.grownBy w' row)(hne:∀g,sl.ownBlock=some g->row≠some g):w'.ownsRow base 30 5 sl n xs:=by
 refine⟨h.1,?_⟩;rcases h.2 with d|⟨g,a,b,rfl,f,c,i⟩
 ·exact .inl d
 ·exact .inr ⟨g,a,b,rfl,f,(hg.block g (Aa c) (fun e=>hne g rfl e.symm)).trans c,i⟩
theorem tH {w:World}{base n g:Nat}{sl:Value}{xs:List Value}(h:w.ownsRow base 30 5 sl n xs)(e:sl.ownBlock=some g):g<w.heap.size:=by
 rcases h.2 with⟨rfl,_⟩|⟨d,a,b,rfl,_,c,_⟩
 ·simp[Value.ownBlock] at e
 ·simp[Value.ownBlock] at e;subst e;exact Aa c
def Ab6 (s1 s2:Value):Prop:=∀g,s1.ownBlock=some g->s2.ownBlock≠some g
structure Jz (P:Nat->Prop)(w wr:World)(n base:Nat)(ks vs:List (AV n))(s1 s2:Value):Prop where
 own1:∃hs:List H5,wr.ownsRow base 30 5 s1 ks.length (Bi hs)/\Are P w n ks hs
 own2:∃hs:List H5,wr.ownsRow base 30 5 s2 vs.length (Bi hs)/\Are P w n vs hs
 apart:Ab6 s1 s2
 low:Below w.heap.size w wr
theorem Jz.keep {P:Nat->Prop}{w wr w':World}{n base:Nat}{ks vs:List (AV n)}{s1 s2:Value}(h:Jz P w wr n base ks vs s1 s2)(hb:Below wr.heap.size wr w'):Jz P w w' n base ks vs s1 s2:=by
 obtain⟨c,e,a⟩:=h.own1;obtain⟨d,f,b⟩:=h.own2;exact⟨⟨c,Bo e (fun g _ hg=>hb.block g hg),a⟩,⟨d,Bo f (fun g _ hg=>hb.block g hg),b⟩,h.apart,h.low.trans (hb.mono h.low.size)⟩
theorem Jz.swap {P:Nat->Prop}{w wr:World}{n base:Nat}{ks vs:List (AV n)}{s1 s2:Value}(h:Jz P w wr n base ks vs s1 s2):Jz P w wr n base vs ks s2 s1 :=
 ⟨h.own2,h.own1,fun g e1 e2=>h.apart g e2 e1,h.low⟩
theorem Jz.push {P:Nat->Prop}{w W w':World}{n base:Nat}{ks vs:List (AV n)}{s1 s2 s1':Value}(h:Jz P w W n base ks vs s1 s2)(hb:w.heap.size<=base){hs:List H5}{u:H5}{x:AV n}(ha:Are P w n ks hs)(ho:W.ownsRow base 30 5 s1 ks.length (Bi hs))(ho':w'.ownsRow base 30 5 s1' (ks.length+1) (Bi (hs++[u])))(hg:W.grownBy w' s1.ownBlock)(hat:s1'.ownBlock=s1.ownBlock\/s1'.ownBlock=some W.heap.size)(hx:Ref P w n x u.v):Jz P w w' n base (ks++[x]) vs s1' s2:=by
 obtain⟨c,a,b⟩:=h.own2;refine⟨⟨hs++[u],by rw[List.length_append];exact ho',ha.app (Are.one hx)⟩,⟨c,kC a hg (fun g e1 e2=>h.apart g e2 e1),b⟩,?_,B8 h.low hb ho hg⟩;intro g e1 e2;rcases hat with q|q
 ·exact h.apart g (q ▸ e1) e2
 ·rw[q] at e1;have:=tH a e2;have:=Ae5 e1;omega
theorem Jz.row1 {P:Nat->Prop}{w wr:World}{n base:Nat}{ks vs:List (AV n)}{s1 s2:Value}(h:Jz P w wr n base ks vs s1 s2)(hl:ks.length<=4294967296)(hP:∀k,base<=k->P k):∃a cap,s1=.slice a ks.length cap/\Bm P wr (Ref P wr n) a ks.length ks :=
 I5.row ⟨h.own1,h.low⟩ hl hP
/-- a list, two by two -/
def Bs {α:Type}:List α->List (α×α)
 | x::y::r=>(x,y)::Bs r
 | _=>[]
theorem Xb {α:Type}:∀(l:List α)(k:Nat)(x y:α),l[2*k]?=some x->l[2*k+1]?=some y->(Bs l)[k]?=some (x,y)
 | [],k,x,y,h,_=>by simp at h
 | [a],k,x,y,h,h2=>by
  cases k with
  | zero=>simp at h2
  | succ k=>simp at h2
 | a::b::r,k,x,y,h,h2=>by
  cases k with
  | zero=>simp at h h2;subst h h2;rfl
  | succ k =>
   have e1:2*(k+1)=2*k+1+1:=by omega
   have c:2*(k+1)+1=2*k+1+1+1:=by omega
   rw[e1] at h;rw[c] at h2;show(Bs r)[k]?=some (x,y);exact Xb r k x y (by simpa using h) (by simpa using h2)
theorem K8 {α:Type}:∀(l:List α),(Bs l).length=l.length / 2
 | []=>by simp[Bs]
 | [a]=>by simp[Bs]
 | a::b::r=>by
  show(Bs r).length+1=(r.length+1+1) / 2;rw[K8 r];omega
theorem Gu {α:Type}:∀(l:List α)(p:α×α),p∈Bs l->p.1∈l/\p.2∈l
 | [],p,h=>by simp[Bs] at h
 | [a],p,h=>by simp[Bs] at h
 | a::b::r,p,h=>by
  rcases List.mem_cons.1 h with rfl|h
  ·simp
  ·have:=Gu r p h;exact⟨by simp[this.1],by simp[this.2]⟩
end Go.Proofs.YtdpeliifdlhhkaaGreatDoor.Sx
