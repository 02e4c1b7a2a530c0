/- The law of operators: what is read on both sides; what is shown, what it weighs. -/
import Derived.Test.YtdpeliifdlhhkaaGreatDoorM20
import Derived.Test.YtdpeliifdlhhkaaGreatDoorM44
namespace Go.Proofs.YtdpeliifdlhhkaaGreatDoor.Sx
open Go.RowKit Go.Sort Tryz
set_option maxRecDepth 100000
set_option maxHeartbeats 8000000
def Pm (w:World)(e:Ending)(w':World):Prop:=Below w.heap.size w w'/\∃(v u:Value)(x:AV 25),e=.returned (.tuple #[.agg #[v],u])/\Cr (fun k=>w.heap.size<=k) w' 25 x v u
theorem Z3 {w wB:World}{x:AV 25}{v c0 c1 c2 c3 c4:Value}(X:wB.heap[w.heap.size]?=some (.cells #[.nilIface] 23 (0,0)))(Y:wB.heap[w.heap.size+1]?=some (.cells #[.int .i64 0,.int .i64 0,.string ⟨#[]⟩,.slice none 0 0,.slice none 0 0] 30 (0,0)))(L:Below w.heap.size w wB)
  (H:Aj (fun k=>w.heap.size+2<=k) wB 25 x v) (hf:Bn 25 x) (hw:wt 25 x<=1024) (U:Ref (fun k=>w.heap.size+2<=k) wB 25 x (.agg #[c0,c1,c2,c3,c4])) :
  (Ao (wB.setCell ⟨w.heap.size,0,none⟩ v) (w.heap.size+1) 0 c0 c1 c2 c3 c4).drew.heap[w.heap.size]?=some (.cells #[v] 23 (0,0))/\(Ao (wB.setCell ⟨w.heap.size,0,none⟩ v) (w.heap.size+1) 0 c0 c1 c2 c3 c4).drew.heap[w.heap.size+1]?=some (.cells #[c0,c1,c2,c3,c4] 30 (0,0)) /\
  Pm w (.returned (.tuple #[.agg #[v],.agg #[c0,c1,c2,c3,c4]])) (Ao (wB.setCell ⟨w.heap.size,0,none⟩ v) (w.heap.size+1) 0 c0 c1 c2 c3 c4).drew:=by
 have c:Fr (fun k=>w.heap.size+2<=k) wB (Ao (wB.setCell ⟨w.heap.size,0,none⟩ v) (w.heap.size+1) 0 c0 c1 c2 c3 c4).drew:=(Cz ((Fr.refl _ wB).set (by simp) v) (by omega) _ _ _ _ _ _).drew;have a:Fr (fun k=>k<w.heap.size) w (Ao (wB.setCell ⟨w.heap.size,0,none⟩ v) (w.heap.size+1) 0 c0 c1 c2 c3 c4).drew:=(Cz ((Fr.below L).set (by simp) v) (by omega) _ _ _ _ _ _).drew;have d:(wB.setCell ⟨w.heap.size,0,none⟩ v).heap[w.heap.size]?=some (.cells #[v] 23 (0,0)):=Ai X 0 v;have g:(wB.setCell ⟨w.heap.size,0,none⟩ v).heap[w.heap.size+1]?=some (.cells #[.int .i64 0,.int .i64 0,.string ⟨#[]⟩,.slice none 0 0,.slice none 0 0] 30 (0,0)):=(Below.heap_setCell _ _ _ _ (by simp)).trans Y;have f:=Bc g c0 c1 c2 c3 c4;have e:=((Cz (b:=w.heap.size+1) (P:=fun k=>k≠w.heap.size+1) (Fr.refl _ (wB.setCell ⟨w.heap.size,0,none⟩ v)) (by simp) 0 c0 c1 c2 c3 c4).block w.heap.size (Aa d) (by omega)).trans d;generalize Ao (wB.setCell ⟨w.heap.size,0,none⟩ v) (w.heap.size+1) 0 c0 c1 c2 c3 c4=S at c a e f |-;have j:Below w.heap.size w S.drew:=⟨a.os,a.tape,a.output,a.size,fun i hi=>a.block i hi hi⟩;have l:Cr (fun k=>w.heap.size<=k) S.drew 25 x v (.agg #[c0,c1,c2,c3,c4]):=⟨H.fr c (fun k _ h=>by omega) _ _ _,U.fr c (fun k _ h=>by omega) _ _ _,hf,hw⟩;exact⟨e,f,j,v,.agg #[c0,c1,c2,c3,c4],x,rfl,l⟩
theorem bZ (t:ByteArray)(w:World)(hB:Ju w)(hs:t.size<=9223372036854775806):Calls prog 16 #[.string t] w (Pm w):=by
 have HR:Hid (∀W:World,Ju W->Calls prog 9 #[.string t] W (N4 W (Fq t.data.toList))):=fun W h=>qY t W h.env hs;have HQ:Hid (∀W:World,Calls prog 10 #[.string t] W (Zp W (Fq t.data.toList))):=fun W=>oC W t hs;have G0:Hid (Ac w ((w.alloc (.cells #[.nilIface] 23)).alloc (.cells #[.int .i64 0,.int .i64 0,.string ⟨#[]⟩,.slice none 0 0,.slice none 0 0] 30))):=((Ac.refl w).alloc _).alloc _;have B0:Hid (Ju ((w.alloc (.cells #[.nilIface] 23)).alloc (.cells #[.int .i64 0,.int .i64 0,.string ⟨#[]⟩,.slice none 0 0,.slice none 0 0] 30))):=hB.below G0.out.below;have X0:Hid (((w.alloc (.cells #[.nilIface] 23)).alloc (.cells #[.int .i64 0,.int .i64 0,.string ⟨#[]⟩,.slice none 0 0,.slice none 0 0] 30)).heap[w.heap.size]?=some (.cells #[.nilIface] 23 (0,0))):=Ac1 ((Ac.refl _).alloc _).below (Af rfl);have Y0:Hid (((w.alloc (.cells #[.nilIface] 23)).alloc (.cells #[.int .i64 0,.int .i64 0,.string ⟨#[]⟩,.slice none 0 0,.slice none 0 0] 30)).heap[w.heap.size+1]?=some (.cells #[.int .i64 0,.int .i64 0,.string ⟨#[]⟩,.slice none 0 0,.slice none 0 0] 30 (0,0))):=Af (by simp);have c0:((w.alloc (.cells #[.nilIface] 23)).alloc (.cells #[.int .i64 0,.int .i64 0,.string ⟨#[]⟩,.slice none 0 0,.slice none 0 0] 30)).heap.size=w.heap.size+2:=by simp
 clear hB hs;go_enter func16,ntmps16
 go_wp2_with fail
 generalize ((w.alloc (.cells #[.nilIface] 23)).alloc (.cells #[.int .i64 0,.int .i64 0,.string ⟨#[]⟩,.slice none 0 0,.slice none 0 0] 30))=W0 at G0 B0 X0 Y0 c0 |-;refine(HR.out W0 B0.out).mono ?_;rintro e b ⟨D,v,er,p,rfl,x,hx,hw,hr⟩;have a0:Aj (fun k=>w.heap.size+2<=k) b 25 x v:=hx.fr (Fr.refl _ b) (fun k _ hk=>by omega) 25 x v;have HH:Hid (Aj (fun k=>w.heap.size+2<=k) b 25 x v):=a0;have G:Hid (Bn 25 x/\wt 25 x<=1024):=by
  rcases hr with⟨C,_⟩|⟨c,C,h2,_⟩
  ·exact⟨iW C,hw⟩
  ·exact⟨by rw[h2];exact Br 24,hw⟩
 have N:Hid (Fq t.data.toList=.ok x\/∃c p,Fq t.data.toList=.error (c,p)/\x=(Ar:Ag (AV 24))):=by
  rcases hr with⟨C,_⟩|⟨c,C,h2,_⟩
  ·exact .inl C
  ·exact .inr ⟨c,p,C,h2⟩
 have L1:Hid (Below w.heap.size w b):=G0.out.below.trans (D.mono G0.out.below.size);have X1:Hid (b.heap[w.heap.size]?=some (.cells #[.nilIface] 23 (0,0))):=Ac1 D X0.out;have Y1:Hid (b.heap[w.heap.size+1]?=some (.cells #[.int .i64 0,.int .i64 0,.string ⟨#[]⟩,.slice none 0 0,.slice none 0 0] 30 (0,0))):=Ac1 D Y0.out;have st:=Ae (a0.rep _ _ _).one;have zy:w.heap.size+1<b.heap.size:=Aa Y1.out;clear D hx a0 hw hr G0 B0 X0 Y0 HR c0;go_wp2_with fail
 have G1:Below b.heap.size b (b.alloc (.cells #[v] 23)):=((Ac.refl b).alloc _).below;have LA:Hid (Below w.heap.size w (b.alloc (.cells #[v] 23))):=L1.out.trans (G1.mono L1.out.size);have XA:Hid ((b.alloc (.cells #[v] 23)).heap[w.heap.size]?=_):=Ac1 G1 X1.out;have YA:Hid ((b.alloc (.cells #[v] 23)).heap[w.heap.size+1]?=_):=Ac1 G1 Y1.out;have VA:Hid ((b.alloc (.cells #[v] 23)).heap[b.heap.size]?=some (.cells #[v] 23 (0,0))):=Af rfl;have HA:Hid (Aj (fun k=>w.heap.size+2<=k) (b.alloc (.cells #[v] 23)) 25 x v):=HH.out.keep (Fr.below G1);clear G1 L1 X1 Y1 HH;generalize b.alloc (.cells #[v] 23)=wA at LA XA YA VA HA |-;refine(HQ.out wA).mono ?_;rintro e a ⟨u,y,c6,c,rfl,hf,b9,hR⟩;have D:=Fr.all hf;have L2:Hid (Below w.heap.size w a):=LA.out.trans (D.mono LA.out.size);have X2:Hid (a.heap[w.heap.size]?=some (.cells #[.nilIface] 23 (0,0))):=Ac1 D XA.out;have Y2:Hid (a.heap[w.heap.size+1]?=some (.cells #[.int .i64 0,.int .i64 0,.string ⟨#[]⟩,.slice none 0 0,.slice none 0 0] 30 (0,0))):=Ac1 D YA.out;have V2:Hid (a.heap[b.heap.size]?=some (.cells #[v] 23 (0,0))):=Ac1 D VA.out;have H2:Hid (Aj (fun k=>w.heap.size+2<=k) a 25 x v):=HA.out.keep (Fr.below D);have c8:b.heap.size<a.heap.size:=Aa V2.out;have zA:w.heap.size+2<=wA.heap.size:=by have:=Aa VA.out;omega
 have E:Ref (fun k=>w.heap.size+2<=k) a 25 y u:=b9.fr (Fr.refl _ a) (fun k _ hk=>by omega) _ _ _;obtain⟨l,g,j,i,m,o,n,rfl,c1,hk,c2,_⟩:=id E;have U2:Hid (Ref (fun k=>w.heap.size+2<=k) a 25 y (.agg #[.int .i64 y.kind,.int .i64 y.int,.string l,.slice g j i,.slice m o n])):=E;have HC:Hid ((c=0/\x=y)\/(c≠0/\x=(Ar:Ag (AV 24)))):=by
  rcases hR with⟨C,h2,_⟩|⟨C,h2,h3⟩
  ·rcases N.out with q|⟨c',p',q,_⟩
   ·rw[C] at q;injection q with q;exact .inl ⟨h2,q.symm⟩
   ·rw[C] at q;cases q
  ·rcases N.out with q|⟨c',p',q,q2⟩
   ·rw[C] at q;cases q
   ·exact .inr ⟨h2,q2⟩
 clear hf D b9 E hR c1 hk c2 LA XA YA VA HA N HQ;rcases HC.out with⟨hc,c4⟩|⟨hc,c3⟩
 ·subst hc;subst c4;have r:Ac a (a.alloc (.cells #[.int .i64 x.kind,.int .i64 x.int,.string l,.slice g j i,.slice m o n] 30)):=(Ac.refl a).alloc _;have L3:Hid (Below w.heap.size w (a.alloc (.cells #[.int .i64 x.kind,.int .i64 x.int,.string l,.slice g j i,.slice m o n] 30))):=L2.out.trans (r.below.mono L2.out.size);have B:Hid ((a.alloc (.cells #[.int .i64 x.kind,.int .i64 x.int,.string l,.slice g j i,.slice m o n] 30)).heap[w.heap.size]?=_):=Ac1 r.below X2.out;have d:Hid ((a.alloc (.cells #[.int .i64 x.kind,.int .i64 x.int,.string l,.slice g j i,.slice m o n] 30)).heap[w.heap.size+1]?=_):=Ac1 r.below Y2.out;have O:Hid ((a.alloc (.cells #[.int .i64 x.kind,.int .i64 x.int,.string l,.slice g j i,.slice m o n] 30)).heap[b.heap.size]?=_):=Ac1 r.below V2.out;have f:Hid ((a.alloc (.cells #[.int .i64 x.kind,.int .i64 x.int,.string l,.slice g j i,.slice m o n] 30)).heap[a.heap.size]?=some (.cells #[.int .i64 x.kind,.int .i64 x.int,.string l,.slice g j i,.slice m o n] 30 (0,0))):=Af rfl;have H3:Hid (Aj (fun k=>w.heap.size+2<=k) (a.alloc (.cells #[.int .i64 x.kind,.int .i64 x.int,.string l,.slice g j i,.slice m o n] 30)) 25 x v):=H2.out.keep (Fr.below r.below);have R3:Hid (Ref (fun k=>w.heap.size+2<=k) (a.alloc (.cells #[.int .i64 x.kind,.int .i64 x.int,.string l,.slice g j i,.slice m o n] 30)) 25 x (.agg #[.int .i64 x.kind,.int .i64 x.int,.string l,.slice g j i,.slice m o n])):=U2.out.grew r;clear r L2 X2 Y2 V2 U2 H2;go_wp2_with fail
  generalize (a.alloc (.cells #[.int .i64 x.kind,.int .i64 x.int,.string l,.slice g j i,.slice m o n] 30))=wB at L3 B d O f H3 R3 |-;obtain⟨s,z,A⟩:=Z3 B.out d.out L3.out H3.out G.out.1 G.out.2 R3.out;have E1:Hid (_=_):=s;have E2:Hid (_=_):=z;have RP:Hid (Pm w _ _):=A;clear s z A;have z0:=Aa B.out;have z1:=Aa d.out;have z2:=Aa O.out;have z3:=Aa f.out;have n1:=Ab O.out 0;have a1:wB.drew.cell? ⟨b.heap.size,0,none⟩=some v:=n1;have M:=Ab B.out 0;have a2:wB.drew.cell? ⟨w.heap.size,0,none⟩=some _:=M;have s0:=Ad B.out 0;have a3:wB.drew.frozen? ⟨w.heap.size,0,none⟩=_:=s0;have u0:=Ab f.out 0;have a4:wB.drew.cell? ⟨a.heap.size,0,none⟩=some _:=u0;have H:=Ab d.out 0;have P:wB.drew.cell? ⟨w.heap.size+1,0,none⟩=some _:=H;have g0:=Ad d.out 0;have U:wB.drew.frozen? ⟨w.heap.size+1,0,none⟩=_:=g0;have u1:=Ab f.out 1;have a6:wB.drew.cell? ⟨a.heap.size,1,none⟩=some _:=u1;have I:=Ab d.out 1;have Q:wB.drew.cell? ⟨w.heap.size+1,1,none⟩=some _:=I;have g1:=Ad d.out 1;have V:wB.drew.frozen? ⟨w.heap.size+1,1,none⟩=_:=g1;have u2:=Ab f.out 2;have a8:wB.drew.cell? ⟨a.heap.size,2,none⟩=some _:=u2;have J:=Ab d.out 2;have R:wB.drew.cell? ⟨w.heap.size+1,2,none⟩=some _:=J;have g2:=Ad d.out 2;have X:wB.drew.frozen? ⟨w.heap.size+1,2,none⟩=_:=g2;have u3:=Ab f.out 3;have b5:wB.drew.cell? ⟨a.heap.size,3,none⟩=some _:=u3;have K:=Ab d.out 3;have S:wB.drew.cell? ⟨w.heap.size+1,3,none⟩=some _:=K;have g3:=Ad d.out 3;have Y:wB.drew.frozen? ⟨w.heap.size+1,3,none⟩=_:=g3;have u4:=Ab f.out 4;have b7:wB.drew.cell? ⟨a.heap.size,4,none⟩=some _:=u4;have L:=Ab d.out 4;have T:wB.drew.cell? ⟨w.heap.size+1,4,none⟩=some _:=L;have g4:=Ad d.out 4;have Z:wB.drew.frozen? ⟨w.heap.size+1,4,none⟩=_:=g4;have F:a.heap.size≠w.heap.size:=by omega
  have q2:a.heap.size≠w.heap.size+1:=by omega
  have q3:b.heap.size≠w.heap.size:=by omega
  have q4:b.heap.size≠w.heap.size+1:=by omega
  have a5:(wB.setCell ⟨w.heap.size,0,none⟩ v).drew.cell? ⟨a.heap.size,0,none⟩=some _:=Hm u0 F;have a7:(wB.setCell ⟨w.heap.size,0,none⟩ v).drew.cell? ⟨a.heap.size,1,none⟩=some _:=Hm u1 F;have a9:(wB.setCell ⟨w.heap.size,0,none⟩ v).drew.cell? ⟨a.heap.size,2,none⟩=some _:=Hm u2 F;have b6:(wB.setCell ⟨w.heap.size,0,none⟩ v).drew.cell? ⟨a.heap.size,3,none⟩=some _:=Hm u3 F;have b8:(wB.setCell ⟨w.heap.size,0,none⟩ v).drew.cell? ⟨a.heap.size,4,none⟩=some _:=Hm u4 F;have mo:=follows;go_big_region_o
  change Exit.then _ _ _ _ (Ao (wB.setCell ⟨w.heap.size,0,none⟩ v) (w.heap.size+1) 0 (.int .i64 x.kind) (.int .i64 x.int) (.string l) (.slice g j i) (.slice m o n)).drew;clear a5 a7 a9 b6 b8 n1 a1 M a2 s0 a3 u0 a4 H P g0 U u1 a6 I Q g1 V u2 a8 J R g2 X u3 b5 K S g3 Y u4 b7 L T g4 Z;generalize (Ao (wB.setCell ⟨w.heap.size,0,none⟩ v) (w.heap.size+1) 0 (.int .i64 x.kind) (.int .i64 x.int) (.string l) (.slice g j i) (.slice m o n)).drew=WZ at E1 E2 RP |-;go_wp2_with fail
  have M:=Ab E1.out 0;obtain⟨H,I,J,K,L⟩:=Ah E2.out;exact Ae2 (v:=.tuple #[.agg #[v],.agg #[.int .i64 x.kind,.int .i64 x.int,.string l,.slice g j i,.slice m o n]]) (by simp[results,results16,go_sem,M,H,I,J,K,L]) rfl RP.out
 ·have c7:((c:Int)==0)=false:=by simp;omega
  have c5:((c:Int) != 0)=true:=by simp;omega
  have r:Ac a (a.alloc (.cells #[.int .i64 0,.int .i64 0,.string ⟨#[]⟩,.slice none 0 0,.slice none 0 0] 30)):=(Ac.refl a).alloc _;have L3:Hid (Below w.heap.size w (a.alloc (.cells #[.int .i64 0,.int .i64 0,.string ⟨#[]⟩,.slice none 0 0,.slice none 0 0] 30))):=L2.out.trans (r.below.mono L2.out.size);have B:Hid ((a.alloc (.cells #[.int .i64 0,.int .i64 0,.string ⟨#[]⟩,.slice none 0 0,.slice none 0 0] 30)).heap[w.heap.size]?=_):=Ac1 r.below X2.out;have d:Hid ((a.alloc (.cells #[.int .i64 0,.int .i64 0,.string ⟨#[]⟩,.slice none 0 0,.slice none 0 0] 30)).heap[w.heap.size+1]?=_):=Ac1 r.below Y2.out;have O:Hid ((a.alloc (.cells #[.int .i64 0,.int .i64 0,.string ⟨#[]⟩,.slice none 0 0,.slice none 0 0] 30)).heap[b.heap.size]?=_):=Ac1 r.below V2.out;have f:Hid ((a.alloc (.cells #[.int .i64 0,.int .i64 0,.string ⟨#[]⟩,.slice none 0 0,.slice none 0 0] 30)).heap[a.heap.size]?=some (.cells #[.int .i64 0,.int .i64 0,.string ⟨#[]⟩,.slice none 0 0,.slice none 0 0] 30 (0,0))):=Af rfl;have H3:Hid (Aj (fun k=>w.heap.size+2<=k) (a.alloc (.cells #[.int .i64 0,.int .i64 0,.string ⟨#[]⟩,.slice none 0 0,.slice none 0 0] 30)) 25 x v):=H2.out.keep (Fr.below r.below);have R3:Hid (Ref (fun k=>w.heap.size+2<=k) (a.alloc (.cells #[.int .i64 0,.int .i64 0,.string ⟨#[]⟩,.slice none 0 0,.slice none 0 0] 30)) 25 x (.agg #[.int .i64 0,.int .i64 0,.string ⟨#[]⟩,.slice none 0 0,.slice none 0 0])):=by rw[c3];exact Cm _ _ 24
  clear r L2 X2 Y2 V2 U2 H2;go_wp2_with fail
  generalize (a.alloc (.cells #[.int .i64 0,.int .i64 0,.string ⟨#[]⟩,.slice none 0 0,.slice none 0 0] 30))=wB at L3 B d O f H3 R3 |-;obtain⟨s,z,A⟩:=Z3 B.out d.out L3.out H3.out G.out.1 G.out.2 R3.out;have E1:Hid (_=_):=s;have E2:Hid (_=_):=z;have RP:Hid (Pm w _ _):=A;clear s z A;have z0:=Aa B.out;have z1:=Aa d.out;have z2:=Aa O.out;have z3:=Aa f.out;have n1:=Ab O.out 0;have a1:wB.drew.cell? ⟨b.heap.size,0,none⟩=some v:=n1;have M:=Ab B.out 0;have a2:wB.drew.cell? ⟨w.heap.size,0,none⟩=some _:=M;have s0:=Ad B.out 0;have a3:wB.drew.frozen? ⟨w.heap.size,0,none⟩=_:=s0;have u0:=Ab f.out 0;have a4:wB.drew.cell? ⟨a.heap.size,0,none⟩=some _:=u0;have H:=Ab d.out 0;have P:wB.drew.cell? ⟨w.heap.size+1,0,none⟩=some _:=H;have g0:=Ad d.out 0;have U:wB.drew.frozen? ⟨w.heap.size+1,0,none⟩=_:=g0;have u1:=Ab f.out 1;have a6:wB.drew.cell? ⟨a.heap.size,1,none⟩=some _:=u1;have I:=Ab d.out 1;have Q:wB.drew.cell? ⟨w.heap.size+1,1,none⟩=some _:=I;have g1:=Ad d.out 1;have V:wB.drew.frozen? ⟨w.heap.size+1,1,none⟩=_:=g1;have u2:=Ab f.out 2;have a8:wB.drew.cell? ⟨a.heap.size,2,none⟩=some _:=u2;have J:=Ab d.out 2;have R:wB.drew.cell? ⟨w.heap.size+1,2,none⟩=some _:=J;have g2:=Ad d.out 2;have X:wB.drew.frozen? ⟨w.heap.size+1,2,none⟩=_:=g2;have u3:=Ab f.out 3;have b5:wB.drew.cell? ⟨a.heap.size,3,none⟩=some _:=u3;have K:=Ab d.out 3;have S:wB.drew.cell? ⟨w.heap.size+1,3,none⟩=some _:=K;have g3:=Ad d.out 3;have Y:wB.drew.frozen? ⟨w.heap.size+1,3,none⟩=_:=g3;have u4:=Ab f.out 4;have b7:wB.drew.cell? ⟨a.heap.size,4,none⟩=some _:=u4;have L:=Ab d.out 4;have T:wB.drew.cell? ⟨w.heap.size+1,4,none⟩=some _:=L;have g4:=Ad d.out 4;have Z:wB.drew.frozen? ⟨w.heap.size+1,4,none⟩=_:=g4;have F:a.heap.size≠w.heap.size:=by omega
  have q2:a.heap.size≠w.heap.size+1:=by omega
  have q3:b.heap.size≠w.heap.size:=by omega
  have q4:b.heap.size≠w.heap.size+1:=by omega
  have a5:(wB.setCell ⟨w.heap.size,0,none⟩ v).drew.cell? ⟨a.heap.size,0,none⟩=some _:=Hm u0 F;have a7:(wB.setCell ⟨w.heap.size,0,none⟩ v).drew.cell? ⟨a.heap.size,1,none⟩=some _:=Hm u1 F;have a9:(wB.setCell ⟨w.heap.size,0,none⟩ v).drew.cell? ⟨a.heap.size,2,none⟩=some _:=Hm u2 F;have b6:(wB.setCell ⟨w.heap.size,0,none⟩ v).drew.cell? ⟨a.heap.size,3,none⟩=some _:=Hm u3 F;have b8:(wB.setCell ⟨w.heap.size,0,none⟩ v).drew.cell? ⟨a.heap.size,4,none⟩=some _:=Hm u4 F;have mo:=follows;go_big_region_o
  change Exit.then _ _ _ _ (Ao (wB.setCell ⟨w.heap.size,0,none⟩ v) (w.heap.size+1) 0 (.int .i64 0) (.int .i64 0) (.string ⟨#[]⟩) (.slice none 0 0) (.slice none 0 0)).drew;clear a5 a7 a9 b6 b8 n1 a1 M a2 s0 a3 u0 a4 H P g0 U u1 a6 I Q g1 V u2 a8 J R g2 X u3 b5 K S g3 Y u4 b7 L T g4 Z;generalize (Ao (wB.setCell ⟨w.heap.size,0,none⟩ v) (w.heap.size+1) 0 (.int .i64 0) (.int .i64 0) (.string ⟨#[]⟩) (.slice none 0 0) (.slice none 0 0)).drew=WZ at E1 E2 RP |-;go_wp2_with fail
  have M:=Ab E1.out 0;obtain⟨H,I,J,K,L⟩:=Ah E2.out;exact Ae2 (v:=.tuple #[.agg #[v],.agg #[.int .i64 0,.int .i64 0,.string ⟨#[]⟩,.slice none 0 0,.slice none 0 0]]) (by simp[results,results16,go_sem,M,H,I,J,K,L]) rfl RP.out
theorem uQ {P:Nat->Prop}{w:World}{n:Nat}{x:AV n}{v u:Value}(h:Cr P w n x v u)(hB:Ju w):Kl 12 #[.agg #[v]] w (.string ⟨(sh n x).toArray⟩) :=
 dE w n x v h.rep (Ce _ _ h.fine).1 hB.tab (by have:=hB.env.1;omega) (by have:=(Ce _ _ h.fine).2;have:=h.wt;omega)
theorem gC {P:Nat->Prop}{w:World}{n:Nat}{x:AV n}{v u:Value}(h:Cr P w n x v u):Kl 14 #[.agg #[v]] w (.int .i64 (wt n x)):=by
 refine(U5 n x v w (h.rep.rep _ _ _)).mono ?_;rintro e b ⟨rfl,a⟩;exact⟨rfl,a.below⟩
theorem mC {P:Nat->Prop}{w:World}{n:Nat}{x:AV n}{v u:Value}(h:Cr P w n x v u):Kl 13 #[u] w (.string ⟨(sh n x).toArray⟩):=by
 refine Calls.mono (Zq n _ w x u h.ref (Ce _ _ h.fine).1 (by have:=(Ce _ _ h.fine).2;have:=h.wt;omega)) ?_;rintro e b ⟨rfl,a⟩;exact⟨rfl,a.below⟩
theorem Z4 {P:Nat->Prop}{w:World}{n:Nat}{x:AV n}{v u:Value}(h:Cr P w n x v u):Kl 15 #[u] w (.int .i64 (wt n x)):=by
 have e:=Wa n x (Ce _ _ h.fine).1;have q:=h.wt;refine Calls.mono (N8 n _ w x u h.ref (by omega)) ?_;rintro e b ⟨rfl,a⟩;exact⟨by rw[Wa n x (Ce _ _ h.fine).1],a.below⟩
theorem uR (c:Int)(k:Nat)(w:World)(hc:-9223372036854775808<=c/\c<=9223372036854775807)(hk:k<=1048577)(h0:0<k):Calls prog 20 #[.int .i64 c,.int .i64 (k:Int)] w fun e w'=>∃j:Nat,j<k/\e=.returned (.int .i64 (j:Int))/\w'=w:=by
 have l:((k:Int)==0)=false:=by rw[beq_eq_false_iff_ne];omega
 have m:¬(k:Int)=0:=by omega
 have n:¬(k:Int)=-1:=by omega
 by_cases h:c<0
 ·obtain⟨d,f⟩:∃d:Nat,-(c+1)=(d:Int):=⟨(-(c+1)).toNat,by omega⟩;have p:wrap64 (c+1)=c+1:=by unfold wrap64;omega
  have o:wrap64 (-(c+1))=(d:Int):=by rw[f];unfold wrap64;omega
  have g:((d:Int).tmod (k:Int))=((d % k:Nat):Int):=by rw[Int.tmod_eq_emod_of_nonneg (by omega)];rfl
  have a:d % k<k:=Nat.mod_lt _ h0;have b:Hid (d % k<k):=a;have i:Hid (-((c+1).tmod (k:Int))=((d % k:Nat):Int)):=by
   show _=_;rw[<- g,<- f,Int.neg_tmod]
  clear f a o g;go_enter func20,ntmps20
  go_wp2_with fail
  exact Ae2 (v:=.int .i64 (-((c+1).tmod (k:Int)))) (by simp[results,results20,go_sem]) rfl ⟨d % k,b.out,by rw[i.out],rfl⟩
 ·obtain⟨d,rfl⟩:∃d:Nat,c=(d:Int):=⟨c.toNat,by omega⟩;have a:d % k<k:=Nat.mod_lt _ h0;have b:Hid (d % k<k):=a;clear a;go_enter func20,ntmps20
  go_wp2_with fail
  exact Ae2 (v:=.int .i64 ((d:Int) % (k:Int))) (by simp[results,results20,go_sem]) rfl ⟨d % k,b.out,rfl,rfl⟩
/-- what no row of the three lies in -/
def Ev (B:Nat)(l m s:Value)(q:Nat):Prop:=B<=q/\some q≠l.ownBlock/\some q≠m.ownBlock/\some q≠s.ownBlock
def txt (n:Nat)(x:AV n):Value:=.string ⟨(sh n x).toArray⟩
structure Dn (n:Nat)(w0 wr:World)(xl xm xs:List (AV n))(l m s:Value):Prop where
 pl:∃vs:List Value,wr.ownsRow w0.heap.size 23 1 l xl.length vs/\Ey (Ev w0.heap.size l m s) wr n xl vs
 pm:∃us:List H5,wr.ownsRow w0.heap.size 30 5 m xm.length (Bi us)/\Are (Ev w0.heap.size l m s) wr n xm us
 ps:wr.ownsRow w0.heap.size 9 1 s xs.length (xs.map (txt n))
 lm:∀g,l.ownBlock=some g->m.ownBlock≠some g
 ls:∀g,l.ownBlock=some g->s.ownBlock≠some g
 ms:∀g,m.ownBlock=some g->s.ownBlock≠some g
 low:Below w0.heap.size w0 wr
theorem Dn.keep {n:Nat}{w0 wr w':World}{xl xm xs:List (AV n)}{l m s:Value}(h:Dn n w0 wr xl xm xs l m s)(hb:Below wr.heap.size wr w'):Dn n w0 w' xl xm xs l m s:=by
 obtain⟨f,a,c⟩:=h.pl;obtain⟨e,b,d⟩:=h.pm;exact⟨⟨f,Kc a hb,c.fr (Fr.below hb) (fun _ _ h=>h)⟩,⟨e,Bo b (fun g _ hg=>hb.block g hg),d.frQ (Fr.below hb) (fun _ _ h=>h)⟩,Kc h.ps hb,h.lm,h.ls,h.ms,h.low.trans (hb.mono h.low.size)⟩
theorem Dn.ltL {n g:Nat}{w0 wr:World}{xl xm xs:List (AV n)}{l m s:Value}(h:Dn n w0 wr xl xm xs l m s)(hg:l.ownBlock=some g):w0.heap.size<=g/\g<wr.heap.size:=by
 obtain⟨b,a,-⟩:=h.pl;exact Ix a hg
theorem Dn.ltM {n g:Nat}{w0 wr:World}{xl xm xs:List (AV n)}{l m s:Value}(h:Dn n w0 wr xl xm xs l m s)(hg:m.ownBlock=some g):w0.heap.size<=g/\g<wr.heap.size:=by
 obtain⟨b,a,-⟩:=h.pm;exact Cp a hg
theorem Dn.ltS {n g:Nat}{w0 wr:World}{xl xm xs:List (AV n)}{l m s:Value}(h:Dn n w0 wr xl xm xs l m s)(hg:s.ownBlock=some g):w0.heap.size<=g/\g<wr.heap.size:=Ix h.ps hg
theorem Dn.fresh {n:Nat}{w0 wr:World}{xl xm xs:List (AV n)}{l m s:Value}(h:Dn n w0 wr xl xm xs l m s):∀k,wr.heap.size<=k->Ev w0.heap.size l m s k:=fun k hk =>
 ⟨Ae0 h.low.size hk,fun e=>by have:=(h.ltL e.symm).2;omega,fun e=>by have:=(h.ltM e.symm).2;omega,fun e=>by have:=(h.ltS e.symm).2;omega⟩
theorem Pn {w0 W w':World}{row:Option Nat}(hl:Below w0.heap.size w0 W)(hg:W.grownBy w' row)(hr:∀g,row=some g->w0.heap.size<=g):Below w0.heap.size w0 w' :=
 ⟨hg.os.trans hl.os,hg.tape.trans hl.tape,hg.output.trans hl.output,Ae0 hl.size hg.size,fun j hj=>(hg.block j (Ad8 hj hl.size) (fun e=>by have:=hr j e.symm;omega)).trans (hl.block j hj)⟩
theorem Ad4 {n:Nat}{w0 W w':World}{xl xm xs:List (AV n)}{l m s l':Value}(h:Dn n w0 W xl xm xs l m s){vs:List Value}{v:Value}{x:AV n}(ha:Ey (Ev w0.heap.size l m s) W n xl vs)(ho':w'.ownsRow w0.heap.size 23 1 l' (xl.length+1) (vs++[v]))(hg:W.grownBy w' l.ownBlock)(hat:l'.ownBlock=l.ownBlock\/l'.ownBlock=some W.heap.size)(hx:Aj (Ev w0.heap.size l m s) W n x v):Dn n w0 w' (xl++[x]) xm xs l' m s/\Fr (Ev w0.heap.size l m s) W w'/\∀k,k<W.heap.size->Ev w0.heap.size l m s k->Ev w0.heap.size l' m s k:=by
 obtain⟨j,d,f⟩:=h.pm;have a:Fr (Ev w0.heap.size l m s) W w':=⟨hg.os,hg.tape,hg.output,hg.size,fun k hk hp=>hg.block k hk hp.2.1⟩;have b:∀k,k<W.heap.size->Ev w0.heap.size l m s k->Ev w0.heap.size l' m s k:=by
  intro k hk hp;refine⟨hp.1,fun e=>?_,hp.2.2⟩;rcases hat with q|q
  ·rw[q] at e;exact hp.2.1 e
  ·rw[q] at e;have:=Ae5 e;omega
 have c:Ey (Ev w0.heap.size l m s) W n [x] [v]:=⟨rfl,fun i y hy=>by
  cases i with
  | zero=>simp at hy;subst hy;exact⟨v,rfl,hx⟩
  | succ i=>simp at hy⟩
 refine⟨⟨⟨vs++[v],by rw[List.length_append];exact ho',(ha.app c).fr a b⟩,⟨j,Sp d (fun g hg' e=>hg.block g hg' (fun e2=>h.lm g e2.symm e)),f.frQ a b⟩,L7 h.ps (fun g hg' e=>hg.block g hg' (fun e2=>h.ls g e2.symm e)),?_,?_,h.ms,Pn h.low hg (fun g e=>(h.ltL e).1)⟩,a,b⟩
 ·intro g e e2;rcases hat with q|q
  ·rw[q] at e;exact h.lm g e e2
  ·rw[q] at e;have:=Ae5 e;have:=(h.ltM e2).2;omega
 ·intro g e e2;rcases hat with q|q
  ·rw[q] at e;exact h.ls g e e2
  ·rw[q] at e;have:=Ae5 e;have:=(h.ltS e2).2;omega
theorem Ad5 {n:Nat}{w0 W w':World}{xl xm xs:List (AV n)}{l m s m':Value}(h:Dn n w0 W xl xm xs l m s){us:List H5}{u:H5}{x:AV n}(ha:Are (Ev w0.heap.size l m s) W n xm us)(ho':w'.ownsRow w0.heap.size 30 5 m' (xm.length+1) (Bi (us++[u])))(hg:W.grownBy w' m.ownBlock)(hat:m'.ownBlock=m.ownBlock\/m'.ownBlock=some W.heap.size)(hx:Ref (Ev w0.heap.size l m s) W n x u.v):Dn n w0 w' xl (xm++[x]) xs l m' s:=by
 obtain⟨f,c,d⟩:=h.pl;have a:Fr (Ev w0.heap.size l m s) W w':=⟨hg.os,hg.tape,hg.output,hg.size,fun k hk hp=>hg.block k hk hp.2.2.1⟩;have b:∀k,k<W.heap.size->Ev w0.heap.size l m s k->Ev w0.heap.size l m' s k:=by
  intro k hk hp;refine⟨hp.1,hp.2.1,fun e=>?_,hp.2.2.2⟩;rcases hat with q|q
  ·rw[q] at e;exact hp.2.2.1 e
  ·rw[q] at e;have:=Ae5 e;omega
 refine⟨⟨f,L7 c (fun g hg' e=>hg.block g hg' (fun e2=>h.lm g e e2.symm)),d.fr a b⟩,⟨us++[u],by rw[List.length_append];exact ho',(ha.app (Are.one hx)).frQ a b⟩,L7 h.ps (fun g hg' e=>hg.block g hg' (fun e2=>h.ms g e2.symm e)),?_,h.ls,?_,Pn h.low hg (fun g e=>(h.ltM e).1)⟩
 ·intro g e e2;rcases hat with q|q
  ·rw[q] at e2;exact h.lm g e e2
  ·rw[q] at e2;have:=Ae5 e2;have:=(h.ltL e).2;omega
 ·intro g e e2;rcases hat with q|q
  ·rw[q] at e;exact h.ms g e e2
  ·rw[q] at e;have:=Ae5 e;have:=(h.ltS e2).2;omega
theorem Ad6 {n:Nat}{w0 W w':World}{xl xm xs:List (AV n)}{l m s s':Value}(h:Dn n w0 W xl xm xs l m s){x:AV n}(ho':w'.ownsRow w0.heap.size 9 1 s' (xs.length+1) (xs.map (txt n)++[txt n x]))(hg:W.grownBy w' s.ownBlock)(hat:s'.ownBlock=s.ownBlock\/s'.ownBlock=some W.heap.size):Dn n w0 w' xl xm (xs++[x]) l m s':=by
 obtain⟨o,c,f⟩:=h.pl;obtain⟨j,d,i⟩:=h.pm;have a:Fr (Ev w0.heap.size l m s) W w':=⟨hg.os,hg.tape,hg.output,hg.size,fun k hk hp=>hg.block k hk hp.2.2.2⟩;have b:∀k,k<W.heap.size->Ev w0.heap.size l m s k->Ev w0.heap.size l m s' k:=by
  intro k hk hp;refine⟨hp.1,hp.2.1,hp.2.2.1,fun e=>?_⟩;rcases hat with q|q
  ·rw[q] at e;exact hp.2.2.2 e
  ·rw[q] at e;have:=Ae5 e;omega
 refine⟨⟨o,L7 c (fun g hg' e=>hg.block g hg' (fun e2=>h.ls g e e2.symm)),f.fr a b⟩,⟨j,Sp d (fun g hg' e=>hg.block g hg' (fun e2=>h.ms g e e2.symm)),i.frQ a b⟩,by rw[List.length_append,List.map_append];exact ho',h.lm,?_,?_,Pn h.low hg (fun g e=>(h.ltS e).1)⟩
 ·intro g e e2;rcases hat with q|q
  ·rw[q] at e2;exact h.ls g e e2
  ·rw[q] at e2;have:=Ae5 e2;have:=(h.ltL e).2;omega
 ·intro g e e2;rcases hat with q|q
  ·rw[q] at e2;exact h.ms g e e2
  ·rw[q] at e2;have:=Ae5 e2;have:=(h.ltM e).2;omega
theorem Dn.start (n:Nat)(w:World):Dn n w w [] [] [] (.slice none 0 0) (.slice none 0 0) (.slice none 0 0) :=
 ⟨⟨[],World.ownsRow_nil _ _ _ _,rfl,by simp⟩,⟨[],Ca _ _,rfl,by simp⟩,World.ownsRow_nil _ _ _ _,fun g e=>by simp[Value.ownBlock] at e,fun g e=>by simp[Value.ownBlock] at e,fun g e=>by simp[Value.ownBlock] at e,Below.refl _ _⟩
theorem gD (al:Option Addr)(k cl j:Nat)(hj:j<=k):∃al' cl',(∀W,(Instr.slice 47 (.slice al k cl) (some (.int .i64 ((k-j:Nat):Int))) none none).run prog W=.ok (.slice al' j cl') W)/\j<=k/\(k<=cl->j<=cl')/\cl'<=cl/\(al=none->al'=none)/\∀g,al=some ⟨g,0,none⟩->k<=cl->∃o,al'=some ⟨g,o,none⟩/\(0<j->o=k-j):=by
 refine⟨if cl=k-j then al else al.map (·.add ((k-j)*1)),cl-(k-j),fun W=>?_,hj,fun h=>by omega,by omega,fun h=>by rw[h];split<;>rfl,fun g hg hc=>?_⟩
 ·have a:prog.underlying 47=some (.slice (prog.elem 47)):=by simp[Program.elem,underlying47]
  have b:prog.elem 47=23:=by simp[Program.elem,underlying47]
  have c:∀w,(Go.sizeOf 23).run prog w=.ok 1 w:=fun w=>by kernel_rfl
  rw[run_slice_l W 47 _ _ _ a .i64 _ (by omega) (by omega),b,c];have e:k-(k-j)=j:=by omega
  simp only[Result.andThen,sliced,Int.toNat_natCast,e]
 ·rw[hg];split
  ·rename_i h
   exact⟨0,rfl,fun h0=>by omega⟩
  ·refine⟨k-j,?_,fun _=>rfl⟩;show some ((⟨g,0,none⟩:Addr).add ((k-j)*1))=_;rw[add_plain,Nat.zero_add,Nat.mul_one]
theorem gE (al:Option Addr)(k cl j:Nat)(hj:j<=k):∃al' cl',(∀W,(Instr.slice 28 (.slice al k cl) (some (.int .i64 ((k-j:Nat):Int))) none none).run prog W=.ok (.slice al' j cl') W)/\(al=none->al'=none)/\∀g,al=some ⟨g,0,none⟩->k<=cl->∃o,al'=some ⟨g,o,none⟩/\(0<j->o=(k-j)*5):=by
 refine⟨if cl=k-j then al else al.map (·.add ((k-j)*5)),cl-(k-j),fun W=>?_,fun h=>by rw[h];split<;>rfl,fun g hg hc=>?_⟩
 ·have a:prog.underlying 28=some (.slice (prog.elem 28)):=by simp[Program.elem,underlying28]
  have b:prog.elem 28=30:=by simp[Program.elem,underlying28]
  have c:∀w,(Go.sizeOf 30).run prog w=.ok 5 w:=fun w=>by kernel_rfl
  rw[run_slice_l W 28 _ _ _ a .i64 _ (by omega) (by omega),b,c];have e:k-(k-j)=j:=by omega
  simp only[Result.andThen,sliced,Int.toNat_natCast,e]
 ·rw[hg];split
  ·rename_i h
   exact⟨0,rfl,fun h0=>by omega⟩
  ·refine⟨(k-j)*5,?_,fun _=>rfl⟩;show some ((⟨g,0,none⟩:Addr).add ((k-j)*5))=_;rw[add_plain,Nat.zero_add]
theorem Ey.drop {P:Nat->Prop}{w:World}{n:Nat}{es:List (AV n)}{vs:List Value}(h:Ey P w n es vs)(i:Nat):Ey P w n (es.drop i) (vs.drop i):=by
 refine⟨by rw[List.length_drop,List.length_drop,h.1],fun k x hx=>?_⟩;rw[List.getElem?_drop] at hx;obtain⟨v,b,a⟩:=h.2 _ x hx;exact⟨v,by rw[List.getElem?_drop];exact b,a⟩
theorem Dn.tailL {n k cl j:Nat}{al:Option Addr}{w0 wr:World}{xs xm xt:List (AV n)}{m s:Value}(h:Dn n w0 wr xs xm xt (.slice al k cl) m s)(hk:xs.length=k)(hj:j<=k):∃al' cl',(∀W,(Instr.slice 47 (.slice al k cl) (some (.int .i64 ((k-j:Nat):Int))) none none).run prog W=.ok (.slice al' j cl') W)/\∃vs,Src wr al' j vs/\Ey (Ev w0.heap.size (.slice al k cl) m s) wr n (xs.drop (k-j)) vs:=by
 obtain⟨al',cl',y,-,E,F,H,z⟩:=gD al k cl j hj;obtain⟨vs,l,t⟩:=h.pl;rw[hk] at l;refine⟨al',cl',y,vs.drop (k-j),?_,t.drop _⟩;have q:vs.length=k:=by have:=l.1;omega
 refine⟨by rw[List.length_drop,q];omega,?_,?_⟩
 ·intro u hu;obtain⟨i,r⟩:=List.mem_iff_getElem?.1 (List.mem_of_mem_drop hu);have d:i<xs.length:=by have:=(List.getElem?_eq_some_iff.1 r).1;omega
  obtain⟨v,a,B⟩:=t.2 i xs[i] (List.getElem?_eq_getElem d);rw[r] at a;obtain rfl:=Ae5 a;exact(B.rep _ _ _).one
 ·rcases Nat.eq_zero_or_pos j with b|b
  ·exact .inl b
  ·obtain⟨C,D,e,A,I|⟨g,w,G,f,c⟩⟩:=Gv l
   ·omega
   ·simp only[Value.slice.injEq] at e;obtain⟨rfl,-,rfl⟩:=e;obtain⟨o,x,p⟩:=z g w A;refine .inr ⟨g,k-j,by rw[x,p b],f,fun i u hu=>?_⟩;rw[List.getElem?_drop] at hu;exact c _ u hu
theorem Dn.tailM {n k cl j:Nat}{al:Option Addr}{w0 wr:World}{xl xs xt:List (AV n)}{l s:Value}(h:Dn n w0 wr xl xs xt l (.slice al k cl) s)(hk:xs.length=k)(hj:j<=k)(hk9:k<=1048576):∃al' cl',(∀W,(Instr.slice 28 (.slice al k cl) (some (.int .i64 ((k-j:Nat):Int))) none none).run prog W=.ok (.slice al' j cl') W)/\Bm (fun _=>True) wr (Ref (Ev w0.heap.size l (.slice al k cl) s) wr n) al' j (xs.drop (k-j)):=by
 obtain⟨al',cl',y,K,z⟩:=gE al k cl j hj;obtain⟨D,b,f⟩:=h.pm;rw[hk] at b;refine⟨al',cl',y,by rw[List.length_drop,hk];omega,by omega,?_⟩;rcases Nat.eq_zero_or_pos j with a|a
 ·exact .inl a
 ·rcases b.2 with⟨e,_⟩|⟨g,p,q,e,J,A,B,_⟩
  ·simp at e;omega
  ·have d:=e;simp only[Value.slice.injEq] at d;obtain⟨t,-,rfl⟩:=d;obtain⟨o,w,c⟩:=z g t B;have O:=(Gh.of (by rw[<- e];exact b)).1;refine .inr ⟨g,(k-j)*5,by rw[w,c a],Aa A,trivial,fun i x hx=>?_⟩;rw[List.getElem?_drop] at hx;have C:=(List.getElem?_eq_some_iff.1 hx).1;obtain⟨u,m⟩:∃u,D[k-j+i]?=some u:=⟨_,List.getElem?_eq_getElem (by rw[f.1];exact C)⟩;obtain⟨⟨E,F,G,H,I⟩,_⟩:=O.at m;have r:(k-j)*5+i*5=(k-j+i)*5:=by omega
   refine⟨u.v,⟨u.c0,u.c1,u.c2,u.c3,u.c4,rfl,?_,?_,?_,?_,?_⟩,f.2 _ x u hx m⟩
   all_goals rw[r];assumption
end Go.Proofs.YtdpeliifdlhhkaaGreatDoor.Sx
