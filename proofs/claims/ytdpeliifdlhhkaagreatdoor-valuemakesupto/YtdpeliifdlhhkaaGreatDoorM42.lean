/- The reference, over values that are handed in: their own row is not kept. -/
import Derived.Test.YtdpeliifdlhhkaaGreatDoorM38
import Derived.Test.YtdpeliifdlhhkaaGreatDoorM32
import Derived.Test.YtdpeliifdlhhkaaGreatDoorM15
import Derived.Test.YtdpeliifdlhhkaaGreatDoorM14
namespace Go.Proofs.YtdpeliifdlhhkaaGreatDoor.Sx
open Go.RowKit Go.Sort Tryz
set_option maxRecDepth 100000
set_option maxHeartbeats 4000000
theorem fH {P:Nat->Prop}{w:World}{n:Nat}{a:Option Addr}{x y t:AV n}{Q0:Nat->Prop}(h:Bm Q0 w (Ref P w n) a 3 [x,y,t]):∃b off u v r,a=some ⟨b,off,none⟩/\b<w.heap.size/\Qe w b off u/\Qe w b (off+5) v/\Qe w b (off+5+5) r/\Ref P w n x u/\Ref P w n y v/\Ref P w n t r:=by
 obtain⟨m,_,l|⟨b,off,rfl,d,_,c⟩⟩:=h
 ·omega
 ·obtain⟨u,e,j⟩:=c 0 x rfl;obtain⟨v,f,k⟩:=c 1 y rfl;obtain⟨r,g,i⟩:=c 2 t rfl;exact⟨b,off,u,v,r,rfl,d,by simpa using e,by simpa using f,by simpa [Nat.add_assoc] using g,j,k,i⟩
theorem Ou (n m:Nat)(P:Nat->Prop)(w:World)(a:Option Addr)(cap:Nat)(x y t:AV n){Q0:Nat->Prop}(h:Bm Q0 w (Ref P w n) a 3 [x,y,t])(z:AV (m+1))
  (H:∀(u v r:Value)(W:World),Ac w W->Ref P W n x u->Ref P W n y v->Ref P W n t r->w.heap.size<W.heap.size->Calls prog 47 #[u,v,r] W (Aw (fun k=>P k/\k≠w.heap.size) W (m+1) z)) :
  Calls prog 22 #[.string ⟨#[112,117,116]⟩,.slice a 3 cap] w (Aw P w (m+1) z):=by
 obtain⟨b,a4,u,v,r,rfl,d,f0,f1,f2,hu,hv,g⟩:=fH h;obtain⟨u0,u1,u2,u3,u4,rfl,q,s,A,B,C⟩:=f0;obtain⟨v0,v1,v2,v3,v4,rfl,D,E,F,G,I⟩:=f1;obtain⟨r0,r1,r2,r3,r4,rfl,i,j,l,o,p⟩:=f2;have HT:Hid (∀W,Calls _ 43 #[.string ⟨#[112,117,116]⟩] W _):=fun W=>Ii _ 31 _ _ rfl W;have HH:Hid _:=fun W hW hs=>H _ _ _ W hW (hu.grew hW) (hv.grew hW) (g.grew hW) hs;clear h H hu hv g;have mo:=follows;have f:Hid (Ac w (w.alloc (.cells #[.int .i64 0,.int .i64 0,.string ⟨#[]⟩,.slice none 0 0,.slice none 0 0] 30))):=(Ac.refl w).alloc _;have M:Hid ((w.alloc (.cells #[.int .i64 0,.int .i64 0,.string ⟨#[]⟩,.slice none 0 0,.slice none 0 0] 30)).heap[w.heap.size]?=_):=Af rfl;go_enter func22,ntmps22
 go_wp2_with fail
 generalize (w.alloc _)=W0 at f M |-;refine(HT.out W0).mono ?_;rintro e c ⟨rfl,rfl⟩;obtain⟨T,U,V,X,Y⟩:=A9 f.out.below d q s A B C;obtain⟨Z,a0,a1,a2,a3⟩:=A9 f.out.below d D E F G I;obtain⟨N,O,Q,R,S⟩:=A9 f.out.below d i j l o p;clear q s A B C D E F G I i j l o p HT;go_wp2_with fail
 have zl:=Ad8 d f.out.below.size;have zz:=Aa M.out;have b5:c.drew.cell? _=some u0:=T;have b6:c.drew.cell? _=some u1:=U;have b7:c.drew.cell? _=some u2:=V;have b8:c.drew.cell? _=some u3:=X;have b9:c.drew.cell? _=some u4:=Y;have c0:c.drew.cell? _=some v0:=Z;have c1:c.drew.cell? _=some v1:=a0;have c2:c.drew.cell? _=some v2:=a1;have c3:c.drew.cell? _=some v3:=a2;have c4:c.drew.cell? _=some v4:=a3;have b0:c.drew.cell? _=some r0:=N;have b1:c.drew.cell? _=some r1:=O;have b2:c.drew.cell? _=some r2:=Q;have b3:c.drew.cell? _=some r3:=R;have b4:c.drew.cell? _=some r4:=S;go_region_with (go_at_call 47;refine(HH.out _ ?_ ?_).mono ?_;exact f.out.drew;exact zz;rintro e K ⟨tt,rfl,hb,g⟩;obtain⟨sb,ka,kl,kc,va,vl,vc,rfl,-,-,-,-⟩:=id g;have J:Hid _:=Ac1 hb M.out;have L:Hid (Ref _ K (m+1) z _):=g;have L2:Hid _:=(f.out.drew).below.trans (hb.mono (f.out.drew).below.size);obtain⟨a5,a6,a7,a8,a9⟩:=Ah J.out;obtain⟨s0,s1,s2,s3,s4⟩:=Ax J.out;have zw:=Aa J.out;clear hb g)
 all_goals have HE:Hid (Aw P w (m+1) z _ _):=Ka L2.out L.out
 all_goals have XF:Hid ((Ao K w.heap.size 0 (.int .i64 z.kind) (.int .i64 z.int) (.string sb) (.slice ka kl kc) (.slice va vl vc)).heap[w.heap.size]?=_):=Bc J.out _ _ _ _ _
 all_goals change Exit.then _ _ _ _ (Ao K _ 0 _ _ _ _ _)
 all_goals generalize Ao K _ 0 _ _ _ _ _=WZ at HE XF |-
 all_goals go_wp2_with fail
 all_goals obtain⟨t0,t1,t2,t3,t4⟩:=Ah XF.out
 all_goals exact Ae2 (by simp[results,results22,go_sem,t0,t1,t2,t3,t4]) rfl HE.out
theorem fI (n:Nat)(P:Nat->Prop)(w:World)(a:Option Addr)(len cap:Nat)(es:List (AV (n+1))){Q0:Nat->Prop}(h:Bm Q0 w (Ref P w (n+1)) a len es)(hP:∀k,w.heap.size<=k->P k)(hl:len<=1048576)(hW:∀q∈es,Wgt (n+1) q)(z:AV (n+2))
  (H0:len % 2=1->z=(Ar:Ag (AV (n+1)))) (H1:len % 2=0->z=(mkP (wt (n+1)) (Dp (Al (n+1)) (Bs es)):Ag (AV (n+1)))) :
  Calls prog 46 #[.slice a len cap] w (Aw P w (n+2) z):=by
 have mo:=follows;have G0:Hid (Ac w (w.alloc (.cells #[.int .i64 0,.int .i64 0,.string ⟨#[]⟩,.slice none 0 0,.slice none 0 0] 30))):=(Ac.refl w).alloc _;have R0:Hid ((w.alloc (.cells #[.int .i64 0,.int .i64 0,.string ⟨#[]⟩,.slice none 0 0,.slice none 0 0] 30)).heap[w.heap.size]?=_):=Af rfl;have z0:(w.alloc (.cells #[.int .i64 0,.int .i64 0,.string ⟨#[]⟩,.slice none 0 0,.slice none 0 0] 30)).heap.size=w.heap.size+1:=by simp
 have XR:Hid (Bm _ _ (Ref (fun k=>P k/\k≠w.heap.size) _ (n+1)) a len es):=h.fr (Fr.grew G0.out) (fun x v=>Ref.fr (Fr.grew G0.out) (fun k hk hp=>⟨hp,by omega⟩) (n+1) x v) (fun _ _ _=>trivial);have HP:Hid _:=hP;have A:Hid _:=hW;have S:Hid (len=es.length):=h.1;have tm:Int.tmod (len:Int) 2=((len % 2:Nat):Int):=by rw[Int.tmod_eq_emod_of_nonneg (by omega)];omega
 by_cases h2:len % 2=1
 ·have b2:(((len % 2:Nat):Int)==1)=true:=by rw[h2];rfl
  obtain rfl:=H0 h2;clear H0 H1 h2 h hP hW XR HP A;go_enter func46,ntmps46
  go_wp2_with fail
  exact Ae2 (by simp[results,results46,go_sem,Bk]) rfl (Dj (n+1) G0.out.below)
 ·have b2:(((len % 2:Nat):Int)==1)=false:=by simp;omega
  have HZ:Hid _:=H1 (by omega);have g8:len % 2=0:=by omega
  clear H0 H1 h2 h hP hW;go_enter func46,ntmps46
  go_wp2_with fail
  generalize (w.alloc _)=W0 at G0 R0 XR z0 |-;go_loopw [3,4,5] (fun s1 s2 i wr=>∃k:Nat,2*k<=len/\i=.int .i64 ((2*k:Nat):Int)/\Hid (Jz (fun k=>P k/\k≠w.heap.size) W0 wr (n+1) (w.heap.size+1) (((Bs es).take k).map Prod.fst) (((Bs es).take k).map Prod.snd) s1 s2)) (fun _ _ i _=>len-(intOf i).toNat)
  case atStart=>exact⟨0,Ae1 _,rfl,⟨⟨[],Ca _ _,rfl,by simp⟩,⟨[],Ca _ _,rfl,by simp⟩,fun g e=>by simp[Value.ownBlock] at e,Below.refl _ _⟩⟩
  case round =>
   obtain⟨k,hk,rfl,f⟩:=hrel;by_cases h5:2*k<len
   ·have h3:2*k+1<es.length:=by have:=S.out;omega
    obtain⟨b,d,e5,c,e4,T⟩:=XR.out.2.2.resolve_left (by omega);subst e5;obtain⟨s,m⟩:∃e,es[2*k]?=some e:=⟨_,List.getElem?_eq_getElem (by omega)⟩;obtain⟨j,o⟩:∃e,es[2*k+1]?=some e:=⟨_,List.getElem?_eq_getElem (by omega)⟩;have Y:=Xb es k s j m o;have b8:Hid (((Bs es).take (k+1)).map Prod.fst=((Bs es).take k).map Prod.fst++[s]):=by
     show _=_;rw[List.take_add_one,Y,Option.toList_some,List.map_append];rfl
    have b9:Hid (((Bs es).take (k+1)).map Prod.snd=((Bs es).take k).map Prod.snd++[j]):=by
     show _=_;rw[List.take_add_one,Y,Option.toList_some,List.map_append];rfl
    obtain⟨vx,e7,a4⟩:=T (2*k) s m;obtain⟨f8,f9,g0,g1,g2,rfl,c4,c5,c6,c7,c8⟩:=e7;obtain⟨a9,a6,a8,a7,b0,b3,b1,O,-,-,-,-⟩:=id a4;simp only[Value.agg.injEq,Array.mk.injEq,List.cons.injEq,and_true] at O;obtain⟨rfl,rfl,rfl,rfl,rfl⟩:=O;obtain⟨vy,e8,a5⟩:=T _ j o;obtain⟨g3,g4,g5,g6,g7,rfl,c9,d0,d1,d2,d3⟩:=e8;obtain⟨E,B,D,C,F,H,G,Q,-,-,-,-⟩:=id a5;simp only[Value.agg.injEq,Array.mk.injEq,List.cons.injEq,and_true] at Q;obtain⟨rfl,rfl,rfl,rfl,rfl⟩:=Q;have e6:w.heap.size+1<=wr.heap.size:=by have:=f.out.low.size;omega
    have zv:=Ad8 c f.out.low.size;have U:(((Bs es).take k).map Prod.fst).length<=1048576:=by rw[List.length_map];have:=List.length_take_le k (Bs es);omega
    have V:(((Bs es).take k).map Prod.snd).length<=1048576:=by rw[List.length_map];have:=List.length_take_le k (Bs es);omega
    obtain⟨f1,f2,f3,f4,f5⟩:=A9 f.out.low c c4 c5 c6 c7 c8;obtain⟨d8,d9,e0,e1,e2⟩:=A9 f.out.low c c9 d0 d1 d2 d3;have c0:Hid (Ref _ W0 (n+1) s _):=a4;have c1:Hid (Ref _ W0 (n+1) j _):=a5;clear T e4 m o Y a4 a5 c4 c5 c6 c7 c8 c9 d0 d1 d2 d3;obtain⟨d6,W,d4⟩:=f.out.own1;obtain⟨L,hL⟩:∃L,(((Bs es).take k).map Prod.fst).length=L:=⟨_,rfl⟩;have b6:Hid _:=hL;have g9:L<=1048576:=by omega
    have c2:Hid (Are _ W0 (n+1) _ d6):=d4;have b4:Hid (Jz _ W0 (wr.alloc (.cells #[.int .i64 s.kind,.int .i64 s.int,.string a9,.slice a6 a8 a7,.slice b0 b3 b1] 30)) (n+1) _ _ _ u3 u4):=f.out.keep ((Ac.refl wr).alloc _).below;rw[hL] at W;have OA:Hid ((wr.alloc (.cells #[.int .i64 s.kind,.int .i64 s.int,.string a9,.slice a6 a8 a7,.slice b0 b3 b1] 30)).ownsRow _ 30 5 u3 L _):=Bo W (fun g _ hg=>(((Ac.refl wr).alloc _).below).block g hg);have SA:Hid (Hl (wr.alloc (.cells #[.int .i64 s.kind,.int .i64 s.int,.string a9,.slice a6 a8 a7,.slice b0 b3 b1] 30)) _ 1 [(⟨_,_,_,_,_,rfl,rfl,rfl,rfl,rfl⟩:H5)]):=El wr _;clear W d4 hL U;go_wp2_with (at_builtin;refine Dk _ rfl _ _ rfl _ u3 L d6 rfl OA.out _ 1 _ rfl SA.out (by omega) ?q1 ?_)
    case q1=>first|omega|(simp;omega)
    intro l4 I ho r l;have y:Hid (Jz (fun k=>P k/\k≠w.heap.size) W0 I (n+1) (w.heap.size+1) (((Bs es).take (k+1)).map Prod.fst) (((Bs es).take k).map Prod.snd) l4 u4):=by
     rw[b8.out];have e9:=b6.out;exact b4.out.push (u:=⟨_,_,_,_,_,rfl,rfl,rfl,rfl,rfl⟩) (by omega) c2.out (by rw[e9];exact OA.out) (by rw[e9];exact ho) r (by simpa using l) c0.out
    have J:Below W0.heap.size W0 I:=y.out.low;have n0:=(J.cell (p:=⟨b,d+(2*k+1)*5,none⟩) c).trans ((f.out.low.cell (p:=⟨b,d+(2*k+1)*5,none⟩) c).symm.trans d8);have n1:=(J.cell (p:=⟨b,d+(2*k+1)*5+1,none⟩) c).trans ((f.out.low.cell (p:=⟨b,d+(2*k+1)*5+1,none⟩) c).symm.trans d9);have n2:=(J.cell (p:=⟨b,d+(2*k+1)*5+2,none⟩) c).trans ((f.out.low.cell (p:=⟨b,d+(2*k+1)*5+2,none⟩) c).symm.trans e0);have n3:=(J.cell (p:=⟨b,d+(2*k+1)*5+3,none⟩) c).trans ((f.out.low.cell (p:=⟨b,d+(2*k+1)*5+3,none⟩) c).symm.trans e1);have n4:=(J.cell (p:=⟨b,d+(2*k+1)*5+4,none⟩) c).trans ((f.out.low.cell (p:=⟨b,d+(2*k+1)*5+4,none⟩) c).symm.trans e2);have j4:=Ad8 c J.size;have h1:w.heap.size+1<=I.heap.size:=by have:=J.size;omega
    have h6:wrap64 (((2*k:Nat):Int)+1)=((2*k+1:Nat):Int):=by unfold wrap64;omega
    have f7:((2*k+1:Nat):Int)<(len:Int):=by omega
    obtain⟨d7,X,d5⟩:=y.out.own2;obtain⟨M,hM⟩:∃M,(((Bs es).take k).map Prod.snd).length=M:=⟨_,rfl⟩;have b7:Hid _:=hM;have h0:M<=1048576:=by omega
    have c3:Hid (Are _ W0 (n+1) _ d7):=d5;have b5:Hid (Jz _ W0 (I.alloc (.cells #[.int .i64 j.kind,.int .i64 j.int,.string E,.slice B D C,.slice F H G] 30)) (n+1) _ _ _ l4 u4):=y.out.keep ((Ac.refl I).alloc _).below;rw[hM] at X;have OB:Hid ((I.alloc (.cells #[.int .i64 j.kind,.int .i64 j.int,.string E,.slice B D C,.slice F H G] 30)).ownsRow _ 30 5 u4 M _):=Bo X (fun g _ hg=>(((Ac.refl I).alloc _).below).block g hg);have SB:Hid (Hl (I.alloc (.cells #[.int .i64 j.kind,.int .i64 j.int,.string E,.slice B D C,.slice F H G] 30)) _ 1 [(⟨_,_,_,_,_,rfl,rfl,rfl,rfl,rfl⟩:H5)]):=El I _;clear ho r l b4 OA SA c2 b6 b8 c0 f y J X d5 hM V f1 f2 f3 f4 f5 d8 d9 e0 e1 e2 zv e6;go_wp2_with (at_builtin;refine Dk _ rfl _ _ rfl _ u4 M d7 rfl OB.out _ 1 _ rfl SB.out (by omega) ?q2 ?_)
    case q2=>first|omega|(simp;omega)
    intro l5 w5 ho r l;have HN:Hid (Jz (fun k=>P k/\k≠w.heap.size) W0 w5 (n+1) (w.heap.size+1) (((Bs es).take (k+1)).map Prod.fst) (((Bs es).take (k+1)).map Prod.snd) l4 l5):=by
     rw[b9.out];have e9:=b7.out;exact(b5.out.swap.push (u:=⟨.int .i64 j.kind,.int .i64 j.int,.string E,.slice B D C,.slice F H G,rfl,rfl,rfl,rfl,rfl⟩) (by omega) c3.out (by rw[e9];exact OB.out) (by rw[e9];exact ho) r (by simpa using l) c1.out).swap
    clear ho r l b5 OB SB c3 b7 b9 c1 n0 n1 n2 n3 n4;go_wp2_with fail
    go_roundw
    case rel=>exact⟨k+1,by omega,by go_num,HN⟩
    case measure=>simp[intOf];omega
   ·have h4:2*k=len:=by omega
    have HT:Hid ((Bs es).take k=Bs es):=by
     show _=_;exact List.take_of_length_le (by rw[K8];have:=S.out;omega)
    rw[HT.out] at f;have R1:Hid _:=Ac1 f.out.low R0.out;have L1:Hid _:=G0.out.below.trans (f.out.low.mono (by omega));have Z:(Bs es).length=k:=by rw[K8];have:=S.out;omega
    obtain⟨a1,K,rfl,a0⟩:=f.out.row1 (by rw[List.length_map];omega) (fun k hk=>⟨HP.out k (by omega),by omega⟩);obtain⟨a2,N,rfl,a3⟩:=f.out.swap.row1 (by rw[List.length_map];omega) (fun k hk=>⟨HP.out k (by omega),by omega⟩);rw[List.length_map,Z] at a0 a3;rw[List.length_map,List.length_map,Z];have f0:=f.out.low.size;have R:((Bs es).map Prod.fst).zip ((Bs es).map Prod.snd)=Bs es:=by
     rw[List.zip_map'];simp
    have HN:Hid (Calls prog 67 #[.slice a1 k K,.slice a2 k N] wr (Aw (fun k=>P k/\k≠w.heap.size) wr (n+2) z)):=by
     have:=O8 (n+1) _ wr a1 a2 k K N _ _ a0 a3 (by omega) (fun q hq=>by
      rcases hq with hq|hq
      ·obtain⟨p,hp,rfl⟩:=List.mem_map.1 hq;exact A.out _ (Gu es p hp).1
      ·obtain⟨p,hp,rfl⟩:=List.mem_map.1 hq;exact A.out _ (Gu es p hp).2)
     rw[R] at this;rw[HZ.out];refine Calls.mono this ?_;intro e w' h;exact Ek (fun k hk=>⟨HP.out k (by omega),by omega⟩) h
    clear a0 a3 f f0 R Z HT HZ A XR;have f6:¬((2*k:Nat):Int)<(len:Int):=by omega
    go_wp2_with fail
    refine HN.out.mono ?_;rintro e w5 ⟨t,rfl,hb,hr⟩;obtain⟨i5,h7,h9,h8,j1,j3,j2,rfl,-,-,-,-⟩:=id hr;have RZ:Hid _:=Ac1 hb R1.out;have LZ:Hid _:=(L1.out).trans (hb.mono (L1.out).size);have e3:Hid (Ref _ w5 (n+2) z _):=hr;clear hb hr;obtain⟨HE,i0,i1,i2,i3,i4,i6,i7,i8,i9,j0,j5,XF⟩:=Bg RZ.out (by omega) LZ.out e3.out;go_wp2_with fail
    obtain⟨k0,k1,k2,k3,k4⟩:=Ah XF.out;change bodyPost _ _ _ _ _ (Ao _ _ 0 _ _ _ _ _);exact Ae2 (by simp[results,results46,go_sem,k0,k1,k2,k3,k4]) rfl HE.out
end Go.Proofs.YtdpeliifdlhhkaaGreatDoor.Sx
