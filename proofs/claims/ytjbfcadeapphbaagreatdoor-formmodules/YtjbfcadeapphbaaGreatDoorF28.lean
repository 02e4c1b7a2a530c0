/- The reference: signs between two parts, level by level. -/
import Derived.Test.YtjbfcadeapphbaaGreatDoorF27
import Derived.Deep.DeepCutAuto
namespace Go.Proofs.YtjbfcadeapphbaaGreatDoor.Sx
set_option maxRecDepth 100000
set_option maxHeartbeats 8000000
open Go.RowKit Go.Sort
theorem Qx {l:List UInt8}(h:Ak l≠0):l∈E0.map Prod.fst:=by
 by_cases q:l∈E0.map Prod.fst
 ·exact q
 ·exact absurd (by unfold Ak;rw[Gn _ q];rfl) h
theorem Qy {l:List UInt8}(h:l∈E0.map Prod.fst):l∈Dp:=by
 unfold Dp;exact List.mem_append_right _ h
theorem Xt {t:Tk}(h:Bs t)(hl:Ak t.tx≠0):t.cl=1\/t.cl=4:=I9 h (Qy (Qx hl)) rfl
theorem aQ {t:Tk}(h:Bs t):Ak (Cf t).data.toList=Ak t.tx:=by
 by_cases a:t.cl=5
 ·have e:Ak t.tx=0:=by
   by_cases q:Ak t.tx=0
   ·exact q
   ·have:=Xt h q;omega
  rw[e];unfold Cf;rw[if_pos a];rfl
 ·rw[Ga t a]
theorem eM {K:Nat->Tk}{self:Nat->Nat->Nat->RX PX}{n d f i:Nat}{x:PX}{r:Except (Nat×Nat) (PX×Nat)}(hp:I0 K self n d (f+1) x i=some r) :
  (Ak (K i).tx=n/\∃r1,Az (.ok (i+1)) (self (Ca n) d)=some r1/\Az (stX r1) (fun j=>if I5 n then I0 K self n d f (B8 (K i).tx x (Ao noX r1)) j else okX (B8 (K i).tx x (Ao noX r1)) j)=some r) \/
  (Ak (K i).tx≠n/\r=.ok (x,i)):=by
 simp only[I0] at hp;by_cases c:Ak (K i).tx=n
 ·rw[if_pos c] at hp;obtain⟨r1,a,b⟩:=A3 (s:=.ok (i+1)) (f:=self (Ca n) d) noX hp;exact .inl ⟨c,r1,a,b⟩
 ·rw[if_neg c] at hp;refine .inr ⟨c,?_⟩;simp only[okX,Option.some.injEq] at hp;exact hp.symm
theorem eN (c:Nat)(h:c=1\/c=4):Bn c=111\/Bn c=119:=by rcases h with rfl|rfl<;>decide
theorem Ap.all {w:World}{b v:Nat}{tx:ByteArray}{a:Int}(h:Ap w b v tx a)(v2:Nat)(tx2:ByteArray)(a2:Int):Ap (((w.setCell ⟨b,0,none⟩ (.int .u8 (v2:Int))).setCell ⟨b,1,none⟩ (.string tx2)).setCell ⟨b,2,none⟩ (.int .i64 a2)).drew b v2 tx2 a2:=by
 have c:Ap (((w.setCell ⟨b,0,none⟩ (.int .u8 (v2:Int))).setCell ⟨b,1,none⟩ (.string tx2)).setCell ⟨b,2,none⟩ (.int .i64 a2)) b v2 tx2 a2:=by
  have:=Ag (Ag (Ag h 0 (.int .u8 (v2:Int))) 1 (.string tx2)) 2 (.int .i64 a2);simpa [Ap] using this
 exact c.grew (Ad.refl _).drew
theorem iG {K:Nat->Tk}{N br bl:Nat}{self:Nat->Nat->Nat->RX PX}(hS:Ch K N br bl self)(hK:∀i,Bs (K i))(hL:Bi K N)(hN:N<=1000000)(w:World)(d m n i:Nat)(hd:d<=24)(h:RSd K N w br bl (.ok i) d)
  (hn:1<=n/\n<=11/\n≠6) (q r:Except (Nat×Nat) (PX×Nat)) (hP:∀W,RSd K N W br bl (.ok i) d->Calls Tryz.prog 18 #[.pointer (some ⟨br,0,none⟩),.int .i64 ((n:Int)+1)] W (C0 K N W br bl d q))
  (hr:Az (stX q) (fun j=>I0 K self n d m (Ao noX q) j)=some r) :
  Calls Tryz.prog 18 #[.pointer (some ⟨br,0,none⟩),.int .i64 (n:Int)] w (C0 K N w br bl d r):=by
 have HS:Hid (Ch K N br bl self):=hS;have HK:Hid (∀i,Bs (K i)):=hK;have HL:Hid (Bi K N):=hL;have HR:Hid (RSd K N w br bl (.ok i) d):=h;have HP:Hid (∀W,RSd K N W br bl (.ok i) d->Calls _ _ _ _ _):=hP;have H0:Hid (Az (stX q) (fun j=>I0 K self n d m (Ao noX q) j)=some r):=hr;obtain⟨d5,d4,dd,hb,hI,d8,c6,t0,t1,t2⟩:=h.open;obtain⟨Z,u0,u1,u2⟩:=RS.cells hb c6 t0 t1 t2;have c0:=Aa hb 0;have c1:=Aa hb 1;have c3:=Aa hb 3;have k0:=Aa Z 0;have k1:=Aa Z 1;have d6:=Ac hb;have b6:(i:Int)<((N+1:Nat):Int):=by omega
 have mo:=follows;obtain⟨sb,a2⟩:∃sb,Bn (K i).cl=sb:=⟨_,rfl⟩;obtain⟨tx,a3⟩:∃tx,Cf (K i)=tx:=⟨_,rfl⟩;obtain⟨aa,a5⟩:∃aa,(K i).at'=aa:=⟨_,rfl⟩;rw[a2] at t0 u0;rw[a3] at t1 u1;rw[a5] at t2 u2;have n0:((n:Int)==0)=false:=by rw[beq_eq_false_iff_ne];omega
 have n6:((n:Int)==6)=false:=by rw[beq_eq_false_iff_ne];omega
 have f0:((n:Int)==12)=false:=by rw[beq_eq_false_iff_ne];omega
 have e4:n<=11:=hn.2.1;have HN:Hid (1<=n/\n<=11/\n≠6):=hn;clear hb Z h hS hK hL a2 a3 a5 hP hr hn;go_enter Tryz.func18,Tryz.ntmps18
 go_wp2_with fail
 go_big_region_o
 have T:Hid (Ap _ w.heap.size sb tx (aa:Int)):=Ap.new w sb tx (aa:Int);have G1:Hid (Ad w (w.alloc (.cells #[.int .u8 (sb:Int),.string tx,.int .i64 (aa:Int)] 55)).drew):=((Ad.refl w).alloc _).drew;clear c0 c1 c3 k0 k1 u0 u1 u2 t0 t1 t2 b6;generalize (w.alloc (.cells #[.int .u8 (sb:Int),.string tx,.int .i64 (aa:Int)] 55)).drew=W1 at G1 T |-;obtain⟨a,c7⟩:∃a,w.heap.size=a:=⟨_,rfl⟩;rw[c7] at T d6 |-;have e6:a<=w.heap.size:=by omega
 have d9:w.heap.size<=a:=by omega
 clear c7;have F:a≠br:=by omega
 have c8:a≠bl:=by omega
 have R1:Hid (RSd K N W1 br bl (.ok i) d):=HR.out.grew G1.out;go_wp2_with fail
 refine(HP.out W1 R1.out).mono ?_;rintro e J ⟨b7,d1,b2,rfl,d3⟩;have R2:Hid (RSd K N J br bl (stX q) d):=d1;have F2:Hid (Fr (·≠br) w J):=(Fr.grew G1.out).trans b7;have T2:Hid (Ap J a sb tx (aa:Int)):=T.out.fr b7 F;have e9:=G1.out.below.size;have e0:a<W1.heap.size:=Ac T.out;have X2:Hid (OkS (stX q)->Aj (fun k=>a<k) J (Ao noX q) (.pointer (some ⟨b2,0,none⟩))):=fun o=>by
  obtain⟨j,e⟩:=Ci noX o;exact(d3 _ _ e).fr (Fr.refl _ _) fun _ _ q=>by omega
 clear b7 d1 d3 R1 G1 T HP HR;go_wp2_with fail
 go_loopg [15] (m) (fun f s15 wr=>∃(s:SX)(x:PX)(b sb:Nat)(tx:ByteArray)(aa:Int),s15=.pointer (some ⟨b,0,none⟩)/\Hid (RSd K N wr br bl s d)/\Hid (Ap wr a sb tx aa)/\Hid (OkS s->Aj (fun k=>a<k) wr x (.pointer (some ⟨b,0,none⟩)))/\Hid (Az s (fun j=>I0 K self n d f x j)=some r)/\Hid (Fr (·≠br) w wr))
 case atStart=>exact⟨stX q,Ao noX q,b2,sb,tx,(aa:Int),rfl,R2,T2,X2,H0,F2⟩
 case round =>
  clear R2 T2 X2 H0 F2;obtain⟨s1,G,L,sb,tx,aa,rfl,R1,T,X1,P1,F1⟩:=hrel;obtain⟨e3,P⟩:=R1.out.err;rcases s1 with⟨c,p⟩|A
  ·have hc:=P c p rfl;simp only[ec] at e3;have R:Hid (r=.error (c,p)):=by have:=P1.out;simp only[Az,Option.some.injEq] at this;exact this.symm
   clear P P1;go_wp2_with fail
   go_ret
   rw[R.out];exact⟨F1.out,R1.out,L,rfl,fun l j e=>by simp at e⟩
  ·obtain⟨f,rfl⟩:∃f,gk=f+1:=by
    cases gk with
    | zero=>exact absurd P1.out (by simp[I0,Az])
    | succ f=>exact⟨f,rfl⟩
   simp only[ec] at e3;have c5:Hid (Aj (fun k=>a<k) wr G (.pointer (some ⟨L,0,none⟩))):=X1.out ⟨A,rfl⟩;have HB:Hid _:=eM (show I0 K self n d (f+1) G A=some r from P1.out);have b5:Hid (Ak (Cf (K A)).data.toList=Ak (K A).tx):=aQ (HK.out A);obtain⟨d5,d4,dd,hb,hI,d8,b3,t0,t1,t2⟩:=R1.out.open;obtain⟨Z,u0,u1,u2⟩:=RS.cells hb b3 t0 t1 t2;have c0:=Aa hb 0;have c1:=Aa hb 1;have c3:=Aa hb 3;have k0:=Aa Z 0;have k1:=Aa Z 1;have Y:Ap wr.drew a sb tx aa:=T.out.grew (Ad.refl wr).drew;have p0:=Aa T.out 0;have p1:=Aa T.out 1;have p2:=Aa T.out 2;have l0:=Ab T.out 0;have l1:=Ab T.out 1;have l2:=Ab T.out 2;have s0:=Aa Y 0;have s1:=Aa Y 1;have s2:=Aa Y 2;have m0:=Ab Y 0;have m1:=Ab Y 1;have m2:=Ab Y 2;have e2:=Ac T.out;have e8:=F1.out.size;have b6:(A:Int)<((N+1:Nat):Int):=by omega
   obtain⟨B,a2⟩:∃sb,Bn (K A).cl=sb:=⟨_,rfl⟩;obtain⟨t,a3⟩:∃tx,Cf (K A)=tx:=⟨_,rfl⟩;obtain⟨u,a5⟩:∃aa,(K A).at'=aa:=⟨_,rfl⟩;have c2:Hid (Bn (K A).cl=B):=a2;have c4:Hid (Cf (K A)=t):=a3;rw[a2] at t0 u0;rw[a3] at t1 u1 b5;rw[a5] at t2 u2;clear hb Z a2 a3 a5 P P1 X1 e3 Y;go_wp2_with fail
   go_big_region_o
   have b3:bl<w.heap.size:=c6;have b0:Fr (·≠a) wr (((wr.setCell ⟨a,0,none⟩ (.int .u8 (B:Int))).setCell ⟨a,1,none⟩ (.string t)).setCell ⟨a,2,none⟩ (.int .i64 (u:Int))).drew:=((((Fr.refl _ wr).set (by simp) _).set (by simp) _).set (by simp) _).drew;have T2:Hid (Ap (((wr.setCell ⟨a,0,none⟩ (.int .u8 (B:Int))).setCell ⟨a,1,none⟩ (.string t)).setCell ⟨a,2,none⟩ (.int .i64 (u:Int))).drew a B t (u:Int)):=Ap.all T.out B t (u:Int);have R2:Hid (RSd K N (((wr.setCell ⟨a,0,none⟩ (.int .u8 (B:Int))).setCell ⟨a,1,none⟩ (.string t)).setCell ⟨a,2,none⟩ (.int .i64 (u:Int))).drew br bl (.ok A) d):=R1.out.fr b0 (Ne.symm F) (Ne.symm c8);have F2:Hid (Fr (·≠br) w (((wr.setCell ⟨a,0,none⟩ (.int .u8 (B:Int))).setCell ⟨a,1,none⟩ (.string t)).setCell ⟨a,2,none⟩ (.int .i64 (u:Int))).drew):=Fr.freshT F1.out (b0.mono fun _ q=>q.2) d9;have X2:Hid (Aj (fun k=>a<k) (((wr.setCell ⟨a,0,none⟩ (.int .u8 (B:Int))).setCell ⟨a,1,none⟩ (.string t)).setCell ⟨a,2,none⟩ (.int .i64 (u:Int))).drew G (.pointer (some ⟨L,0,none⟩))):=c5.out.fr (b0.mono fun k q=>by omega) fun _ _ q=>q;clear c0 c1 c3 k0 k1 t0 t1 t2 u0 u1 u2 p0 p1 p2 l0 l1 l2 s0 s1 s2 m0 m1 m2 b6 b0 R1 T F1 c5;generalize (((wr.setCell ⟨a,0,none⟩ (.int .u8 (B:Int))).setCell ⟨a,1,none⟩ (.string t)).setCell ⟨a,2,none⟩ (.int .i64 (u:Int))).drew=J at T2 R2 F2 X2 |-;have a7:Hid (∀W,Calls Tryz.prog 48 #[.string t] W fun e w'=>e=.returned (.int .i64 (Ak (K A).tx:Int))/\w'=W):=fun W=>by have:=Qv t W;rw[b5.out] at this;exact this
   have p0:=Aa T2.out 0;have p1:=Aa T2.out 1;have p2:=Aa T2.out 2;rcases HB.out with⟨a6,z,h1,hk⟩|⟨a6,d2⟩
   ·have c9:=Xt (HK.out A) (by have:=HN.out.1;omega);have d7:A<N:=HL.out.lt hI (m:=(K A).tx) (by simp) (Qy (Qx (by have:=HN.out.1;omega)));have b8:=eN _ c9;rw[c2.out] at b8;have H:Hid (t.data.toList=(K A).tx):=by show _=_;rw[<- c4.out];exact Ga _ (by omega)
    have HJ:Hid ((K A).tx∈E0.map Prod.fst):=Qx (by have:=HN.out.1;omega);obtain⟨e1,f1⟩:=R2.out.block;have V:Hid (RSd K N (J.setCell ⟨br,1,none⟩ (.int .i64 ((A:Int)+1))) br bl (.ok (A+1)) d):=R2.out.next d7;have a9:Fr (·≠br) J (J.setCell ⟨br,1,none⟩ (.int .i64 ((A:Int)+1))):=(Fr.refl _ J).set (by simp) _;have M:Hid (Fr (·≠br) w (J.setCell ⟨br,1,none⟩ (.int .i64 ((A:Int)+1)))):=F2.out.trans a9;have O:Hid (Ap (J.setCell ⟨br,1,none⟩ (.int .i64 ((A:Int)+1))) a B t (u:Int)):=T2.out.fr a9 F;have X:Hid (Aj (fun k=>a<k) (J.setCell ⟨br,1,none⟩ (.int .i64 ((A:Int)+1))) G (.pointer (some ⟨L,0,none⟩))):=X2.out.fr (a9.mono fun k q=>by omega) fun _ _ q=>q;have H1:Hid (Az (.ok (A+1)) (self (Ca n) d)=some z):=h1;have a4:Hid (Az (stX z) (fun j=>if I5 n then I0 K self n d f (B8 (K A).tx G (Ao noX z)) j else okX (B8 (K A).tx G (Ao noX z)) j)=some r):=hk;have b9:Hid (∀W,Calls Tryz.prog 48 #[.string t] W fun e w'=>e=.returned (.int .i64 (n:Int))/\w'=W):=fun W=>by have:=a7.out W;rw[a6] at this;exact this
    have nn:((n:Int) != (n:Int))=false:=by simp
    have e7:w.heap.size<=J.heap.size:=F2.out.size;have e5:br<J.heap.size:=R2.out.lt;have d0:((B:Int) != 111)=false\/(((B:Int) != 111)=true/\((B:Int) != 119)=false):=by rcases b8 with h|h<;>rw[h]<;>decide
    clear HB a7 a6 h1 hk c9 a9 R2 F2 T2 X2 b8;go_upto_region 38 with(go_at_call 48;refine(b9.out _).mono ?_;rintro e w' ⟨rfl,hw⟩;obtain rfl:=hw.symm)
    go_cut [142] (fun s142 wc=>s142=.bool false/\J=wc)
    case first =>
     rcases d0 with g1|⟨g1,g2⟩
     all_goals
      go_wp2_with fail
      go_meet
      case rel=>exact⟨rfl,rfl⟩
    case rest =>
     obtain⟨rfl,rfl⟩:=hcut;clear p0 p1 p2 d0;rcases(show n=1\/n=3\/(7<=n/\n<=9)\/(n=2\/n=4\/n=5)\/(n=10\/n=11) from by have:=HN.out;omega) with rfl|rfl|⟨ha,hb⟩|hc|hc
     ·clear HN;go_upto_region 43 with fail
      clear e1 f1;generalize J.setCell ⟨br,1,none⟩ (.int .i64 ((A:Int)+1))=W3 at V M O X |-;go_wp2_with fail
      refine(HS.out W3 2 d (.ok (A+1)) z (by omega) (fun _=>hd) V.out H1.out).mono ?_;rintro e g ⟨v,D,C,rfl,E⟩;have b1:=M.out.size;have a8:br<W3.heap.size:=by omega
      have a0:a<W3.heap.size:=Ac O.out;have R4:Hid (RSd K N g br bl (stX z) d):=D;have F4:Hid (Fr (·≠br) w g):=M.out.trans v;have I:Hid (Ap g a B t (u:Int)):=O.out.fr v F;have X4:Hid (Aj (fun k=>a<k) g G (.pointer (some ⟨L,0,none⟩))):=X.out.fr (v.mono fun k q=>by omega) fun _ _ q=>q;have Y4:Hid (OkS (stX z)->Aj (fun k=>a<k) g (Ao noX z) (.pointer (some ⟨C,0,none⟩))):=fun o=>by
       obtain⟨j,e⟩:=Ci noX o;exact(E _ _ e).fr (Fr.refl _ _) fun _ _ q=>by omega
      clear v D E V M O X H1;have q1:=Aa I.out 1;have q2:=Aa I.out 2;have a1:=Ac I.out;have U:Hid (Ad g ((g.alloc (.cells #[.pointer (some ⟨L,0,none⟩),.pointer (some ⟨C,0,none⟩)] 26)).alloc (.cells #[.string t,.int .i64 (u:Int),.string ⟨#[]⟩,.int .i64 0,.int .i64 0,.string ⟨#[]⟩,.slice none 0 0,.slice none 0 0,.slice (some ⟨g.heap.size,0,none⟩) 2 2,.int .i64 0,.int .i64 0] 95))):=((Ad.refl _).alloc _).alloc _;have A5:Hid (OkS (stX z)->Aj (fun k=>a<k) ((g.alloc (.cells #[.pointer (some ⟨L,0,none⟩),.pointer (some ⟨C,0,none⟩)] 26)).alloc (.cells #[.string t,.int .i64 (u:Int),.string ⟨#[]⟩,.int .i64 0,.int .i64 0,.string ⟨#[]⟩,.slice none 0 0,.slice none 0 0,.slice (some ⟨g.heap.size,0,none⟩) 2 2,.int .i64 0,.int .i64 0] 95)) (B8 (K A).tx G (Ao noX z)) (.pointer (some ⟨g.heap.size+1,0,none⟩))):=fun o=>Si (lo:=a+1) (nm:=⟨#[]⟩) (kids:=[G,Ao noX z]) rfl (by decide) (fun k y e=>by
       match k,e with
       | 0,e=>simp at e;subst e;exact⟨_,rfl,X4.out⟩
       | 1,e=>simp at e;subst e;exact⟨_,rfl,Y4.out o⟩
       | k+2,e=>simp at e) (by omega) (.inr (.inr (.inr (.inr (.inr (.inr (.inr (.inr (.inr (.inr (.inr (.inr (.inr (.inr (.inr (.inr (.inr (.inr (.inr ⟨by rw[H.out];exact HJ.out,_,_,rfl,by rw[H.out]⟩)))))))))))))))))))
      have R:Hid (stX r=stX z/\∀y j,r=.ok (y,j)->y=B8 (K A).tx G (Ao noX z)):=by
       have:=a4.out;have Q:I5 1=false:=by rfl
       simp only[Q,Bool.false_eq_true,if_false] at this;exact Cz this
      go_wp2_with fail
      go_ret
      refine⟨F4.out.trans (Fr.grew U.out),by rw[R.out.1];exact R4.out.grew U.out,g.heap.size+1,rfl,fun y j e=>?_⟩;rw[R.out.2 y j e];exact(A5.out (by rw[<- R.out.1];exact Dz e)).fr (Fr.refl _ _) fun _ _ q=>by omega
     ·clear HN;go_upto_region 43 with fail
      clear e1 f1;generalize J.setCell ⟨br,1,none⟩ (.int .i64 ((A:Int)+1))=W3 at V M O X |-;go_wp2_with fail
      refine(HS.out W3 3 d (.ok (A+1)) z (by omega) (fun _=>hd) V.out H1.out).mono ?_;rintro e g ⟨v,D,C,rfl,E⟩;have b1:=M.out.size;have a8:br<W3.heap.size:=by omega
      have a0:a<W3.heap.size:=Ac O.out;have R4:Hid (RSd K N g br bl (stX z) d):=D;have F4:Hid (Fr (·≠br) w g):=M.out.trans v;have I:Hid (Ap g a B t (u:Int)):=O.out.fr v F;have X4:Hid (Aj (fun k=>a<k) g G (.pointer (some ⟨L,0,none⟩))):=X.out.fr (v.mono fun k q=>by omega) fun _ _ q=>q;have Y4:Hid (OkS (stX z)->Aj (fun k=>a<k) g (Ao noX z) (.pointer (some ⟨C,0,none⟩))):=fun o=>by
       obtain⟨j,e⟩:=Ci noX o;exact(E _ _ e).fr (Fr.refl _ _) fun _ _ q=>by omega
      clear v D E V M O X H1;have q1:=Aa I.out 1;have q2:=Aa I.out 2;have a1:=Ac I.out;have U:Hid (Ad g ((g.alloc (.cells #[.pointer (some ⟨L,0,none⟩),.pointer (some ⟨C,0,none⟩)] 26)).alloc (.cells #[.string t,.int .i64 (u:Int),.string ⟨#[]⟩,.int .i64 0,.int .i64 0,.string ⟨#[]⟩,.slice none 0 0,.slice none 0 0,.slice (some ⟨g.heap.size,0,none⟩) 2 2,.int .i64 0,.int .i64 0] 95))):=((Ad.refl _).alloc _).alloc _;have A5:Hid (OkS (stX z)->Aj (fun k=>a<k) ((g.alloc (.cells #[.pointer (some ⟨L,0,none⟩),.pointer (some ⟨C,0,none⟩)] 26)).alloc (.cells #[.string t,.int .i64 (u:Int),.string ⟨#[]⟩,.int .i64 0,.int .i64 0,.string ⟨#[]⟩,.slice none 0 0,.slice none 0 0,.slice (some ⟨g.heap.size,0,none⟩) 2 2,.int .i64 0,.int .i64 0] 95)) (B8 (K A).tx G (Ao noX z)) (.pointer (some ⟨g.heap.size+1,0,none⟩))):=fun o=>Si (lo:=a+1) (nm:=⟨#[]⟩) (kids:=[G,Ao noX z]) rfl (by decide) (fun k y e=>by
       match k,e with
       | 0,e=>simp at e;subst e;exact⟨_,rfl,X4.out⟩
       | 1,e=>simp at e;subst e;exact⟨_,rfl,Y4.out o⟩
       | k+2,e=>simp at e) (by omega) (.inr (.inr (.inr (.inr (.inr (.inr (.inr (.inr (.inr (.inr (.inr (.inr (.inr (.inr (.inr (.inr (.inr (.inr (.inr ⟨by rw[H.out];exact HJ.out,_,_,rfl,by rw[H.out]⟩)))))))))))))))))))
      have R:Hid (stX r=stX z/\∀y j,r=.ok (y,j)->y=B8 (K A).tx G (Ao noX z)):=by
       have:=a4.out;have Q:I5 3=false:=by rfl
       simp only[Q,Bool.false_eq_true,if_false] at this;exact Cz this
      go_wp2_with fail
      go_ret
      refine⟨F4.out.trans (Fr.grew U.out),by rw[R.out.1];exact R4.out.grew U.out,g.heap.size+1,rfl,fun y j e=>?_⟩;rw[R.out.2 y j e];exact(A5.out (by rw[<- R.out.1];exact Dz e)).fr (Fr.refl _ _) fun _ _ q=>by omega
     ·have n1:((n:Int)==1)=false:=by rw[beq_eq_false_iff_ne];omega
      have n3:((n:Int)==3)=false:=by rw[beq_eq_false_iff_ne];omega
      have S:Ca n=n+1:=by unfold Ca;rw[if_neg (by omega)]
      rw[S] at H1;have n7:(7:Int)<=(n:Int):=by omega
      have n9:(n:Int)<=9:=by omega
      clear HN S;go_upto_region 43 with fail
      clear e1 f1;generalize J.setCell ⟨br,1,none⟩ (.int .i64 ((A:Int)+1))=W3 at V M O X |-;go_wp2_with fail
      refine(HS.out W3 (n+1) d (.ok (A+1)) z (by omega) (fun _=>hd) V.out H1.out).mono ?_;rintro e g ⟨v,D,C,rfl,E⟩;have b1:=M.out.size;have a8:br<W3.heap.size:=by omega
      have a0:a<W3.heap.size:=Ac O.out;have R4:Hid (RSd K N g br bl (stX z) d):=D;have F4:Hid (Fr (·≠br) w g):=M.out.trans v;have I:Hid (Ap g a B t (u:Int)):=O.out.fr v F;have X4:Hid (Aj (fun k=>a<k) g G (.pointer (some ⟨L,0,none⟩))):=X.out.fr (v.mono fun k q=>by omega) fun _ _ q=>q;have Y4:Hid (OkS (stX z)->Aj (fun k=>a<k) g (Ao noX z) (.pointer (some ⟨C,0,none⟩))):=fun o=>by
       obtain⟨j,e⟩:=Ci noX o;exact(E _ _ e).fr (Fr.refl _ _) fun _ _ q=>by omega
      clear v D E V M O X H1;have q1:=Aa I.out 1;have q2:=Aa I.out 2;have a1:=Ac I.out;have U:Hid (Ad g ((g.alloc (.cells #[.pointer (some ⟨L,0,none⟩),.pointer (some ⟨C,0,none⟩)] 26)).alloc (.cells #[.string t,.int .i64 (u:Int),.string ⟨#[]⟩,.int .i64 0,.int .i64 0,.string ⟨#[]⟩,.slice none 0 0,.slice none 0 0,.slice (some ⟨g.heap.size,0,none⟩) 2 2,.int .i64 0,.int .i64 0] 95))):=((Ad.refl _).alloc _).alloc _;have A5:Hid (OkS (stX z)->Aj (fun k=>a<k) ((g.alloc (.cells #[.pointer (some ⟨L,0,none⟩),.pointer (some ⟨C,0,none⟩)] 26)).alloc (.cells #[.string t,.int .i64 (u:Int),.string ⟨#[]⟩,.int .i64 0,.int .i64 0,.string ⟨#[]⟩,.slice none 0 0,.slice none 0 0,.slice (some ⟨g.heap.size,0,none⟩) 2 2,.int .i64 0,.int .i64 0] 95)) (B8 (K A).tx G (Ao noX z)) (.pointer (some ⟨g.heap.size+1,0,none⟩))):=fun o=>Si (lo:=a+1) (nm:=⟨#[]⟩) (kids:=[G,Ao noX z]) rfl (by decide) (fun k y e=>by
       match k,e with
       | 0,e=>simp at e;subst e;exact⟨_,rfl,X4.out⟩
       | 1,e=>simp at e;subst e;exact⟨_,rfl,Y4.out o⟩
       | k+2,e=>simp at e) (by omega) (.inr (.inr (.inr (.inr (.inr (.inr (.inr (.inr (.inr (.inr (.inr (.inr (.inr (.inr (.inr (.inr (.inr (.inr (.inr ⟨by rw[H.out];exact HJ.out,_,_,rfl,by rw[H.out]⟩)))))))))))))))))))
      have R:Hid (stX r=stX z/\∀y j,r=.ok (y,j)->y=B8 (K A).tx G (Ao noX z)):=by
       have:=a4.out;have Q:I5 n=false:=by unfold I5;simp;omega
       simp only[Q,Bool.false_eq_true,if_false] at this;exact Cz this
      go_wp2_with fail
      go_ret
      refine⟨F4.out.trans (Fr.grew U.out),by rw[R.out.1];exact R4.out.grew U.out,g.heap.size+1,rfl,fun y j e=>?_⟩;rw[R.out.2 y j e];exact(A5.out (by rw[<- R.out.1];exact Dz e)).fr (Fr.refl _ _) fun _ _ q=>by omega
     ·have n1:((n:Int)==1)=false:=by rw[beq_eq_false_iff_ne];omega
      have n3:((n:Int)==3)=false:=by rw[beq_eq_false_iff_ne];omega
      have S:Ca n=n+1:=by unfold Ca;rw[if_neg (by omega)]
      rw[S] at H1;have n7:¬(7:Int)<=(n:Int):=by omega
      clear HN S;go_upto_region 43 with fail
      clear e1 f1;generalize J.setCell ⟨br,1,none⟩ (.int .i64 ((A:Int)+1))=W3 at V M O X |-;go_wp2_with fail
      refine(HS.out W3 (n+1) d (.ok (A+1)) z (by omega) (fun _=>hd) V.out H1.out).mono ?_;rintro e g ⟨v,D,C,rfl,E⟩;have b1:=M.out.size;have a8:br<W3.heap.size:=by omega
      have a0:a<W3.heap.size:=Ac O.out;have R4:Hid (RSd K N g br bl (stX z) d):=D;have F4:Hid (Fr (·≠br) w g):=M.out.trans v;have I:Hid (Ap g a B t (u:Int)):=O.out.fr v F;have X4:Hid (Aj (fun k=>a<k) g G (.pointer (some ⟨L,0,none⟩))):=X.out.fr (v.mono fun k q=>by omega) fun _ _ q=>q;have Y4:Hid (OkS (stX z)->Aj (fun k=>a<k) g (Ao noX z) (.pointer (some ⟨C,0,none⟩))):=fun o=>by
       obtain⟨j,e⟩:=Ci noX o;exact(E _ _ e).fr (Fr.refl _ _) fun _ _ q=>by omega
      clear v D E V M O X H1;have q1:=Aa I.out 1;have q2:=Aa I.out 2;have a1:=Ac I.out;have U:Hid (Ad g ((g.alloc (.cells #[.pointer (some ⟨L,0,none⟩),.pointer (some ⟨C,0,none⟩)] 26)).alloc (.cells #[.string t,.int .i64 (u:Int),.string ⟨#[]⟩,.int .i64 0,.int .i64 0,.string ⟨#[]⟩,.slice none 0 0,.slice none 0 0,.slice (some ⟨g.heap.size,0,none⟩) 2 2,.int .i64 0,.int .i64 0] 95))):=((Ad.refl _).alloc _).alloc _;have A5:Hid (OkS (stX z)->Aj (fun k=>a<k) ((g.alloc (.cells #[.pointer (some ⟨L,0,none⟩),.pointer (some ⟨C,0,none⟩)] 26)).alloc (.cells #[.string t,.int .i64 (u:Int),.string ⟨#[]⟩,.int .i64 0,.int .i64 0,.string ⟨#[]⟩,.slice none 0 0,.slice none 0 0,.slice (some ⟨g.heap.size,0,none⟩) 2 2,.int .i64 0,.int .i64 0] 95)) (B8 (K A).tx G (Ao noX z)) (.pointer (some ⟨g.heap.size+1,0,none⟩))):=fun o=>Si (lo:=a+1) (nm:=⟨#[]⟩) (kids:=[G,Ao noX z]) rfl (by decide) (fun k y e=>by
       match k,e with
       | 0,e=>simp at e;subst e;exact⟨_,rfl,X4.out⟩
       | 1,e=>simp at e;subst e;exact⟨_,rfl,Y4.out o⟩
       | k+2,e=>simp at e) (by omega) (.inr (.inr (.inr (.inr (.inr (.inr (.inr (.inr (.inr (.inr (.inr (.inr (.inr (.inr (.inr (.inr (.inr (.inr (.inr ⟨by rw[H.out];exact HJ.out,_,_,rfl,by rw[H.out]⟩)))))))))))))))))))
      have R:Hid (Az (stX z) (fun j=>I0 K self n d f (B8 (K A).tx G (Ao noX z)) j)=some r):=by
       have:=a4.out;have Q:I5 n=true:=by unfold I5;rcases hc with h|h|h<;>rw[h]<;>rfl
       simp only[Q,if_true] at this;exact this
      go_wp2_with fail
      go_roundg f
      case measure=>omega
      case rel=>exact⟨_,_,g.heap.size+1,B,t,(u:Int),rfl,R4.out.grew U.out,I.out.grew U.out,A5,R,F4.out.trans (Fr.grew U.out)⟩
     ·have n1:((n:Int)==1)=false:=by rw[beq_eq_false_iff_ne];omega
      have n3:((n:Int)==3)=false:=by rw[beq_eq_false_iff_ne];omega
      have S:Ca n=n+1:=by unfold Ca;rw[if_neg (by omega)]
      rw[S] at H1;have n7:(7:Int)<=(n:Int):=by omega
      have n9:¬(n:Int)<=9:=by omega
      clear HN S;go_upto_region 43 with fail
      clear e1 f1;generalize J.setCell ⟨br,1,none⟩ (.int .i64 ((A:Int)+1))=W3 at V M O X |-;go_wp2_with fail
      refine(HS.out W3 (n+1) d (.ok (A+1)) z (by omega) (fun _=>hd) V.out H1.out).mono ?_;rintro e g ⟨v,D,C,rfl,E⟩;have b1:=M.out.size;have a8:br<W3.heap.size:=by omega
      have a0:a<W3.heap.size:=Ac O.out;have R4:Hid (RSd K N g br bl (stX z) d):=D;have F4:Hid (Fr (·≠br) w g):=M.out.trans v;have I:Hid (Ap g a B t (u:Int)):=O.out.fr v F;have X4:Hid (Aj (fun k=>a<k) g G (.pointer (some ⟨L,0,none⟩))):=X.out.fr (v.mono fun k q=>by omega) fun _ _ q=>q;have Y4:Hid (OkS (stX z)->Aj (fun k=>a<k) g (Ao noX z) (.pointer (some ⟨C,0,none⟩))):=fun o=>by
       obtain⟨j,e⟩:=Ci noX o;exact(E _ _ e).fr (Fr.refl _ _) fun _ _ q=>by omega
      clear v D E V M O X H1;have q1:=Aa I.out 1;have q2:=Aa I.out 2;have a1:=Ac I.out;have U:Hid (Ad g ((g.alloc (.cells #[.pointer (some ⟨L,0,none⟩),.pointer (some ⟨C,0,none⟩)] 26)).alloc (.cells #[.string t,.int .i64 (u:Int),.string ⟨#[]⟩,.int .i64 0,.int .i64 0,.string ⟨#[]⟩,.slice none 0 0,.slice none 0 0,.slice (some ⟨g.heap.size,0,none⟩) 2 2,.int .i64 0,.int .i64 0] 95))):=((Ad.refl _).alloc _).alloc _;have A5:Hid (OkS (stX z)->Aj (fun k=>a<k) ((g.alloc (.cells #[.pointer (some ⟨L,0,none⟩),.pointer (some ⟨C,0,none⟩)] 26)).alloc (.cells #[.string t,.int .i64 (u:Int),.string ⟨#[]⟩,.int .i64 0,.int .i64 0,.string ⟨#[]⟩,.slice none 0 0,.slice none 0 0,.slice (some ⟨g.heap.size,0,none⟩) 2 2,.int .i64 0,.int .i64 0] 95)) (B8 (K A).tx G (Ao noX z)) (.pointer (some ⟨g.heap.size+1,0,none⟩))):=fun o=>Si (lo:=a+1) (nm:=⟨#[]⟩) (kids:=[G,Ao noX z]) rfl (by decide) (fun k y e=>by
       match k,e with
       | 0,e=>simp at e;subst e;exact⟨_,rfl,X4.out⟩
       | 1,e=>simp at e;subst e;exact⟨_,rfl,Y4.out o⟩
       | k+2,e=>simp at e) (by omega) (.inr (.inr (.inr (.inr (.inr (.inr (.inr (.inr (.inr (.inr (.inr (.inr (.inr (.inr (.inr (.inr (.inr (.inr (.inr ⟨by rw[H.out];exact HJ.out,_,_,rfl,by rw[H.out]⟩)))))))))))))))))))
      have R:Hid (Az (stX z) (fun j=>I0 K self n d f (B8 (K A).tx G (Ao noX z)) j)=some r):=by
       have:=a4.out;have Q:I5 n=true:=by unfold I5;rcases hc with h|h<;>rw[h]<;>rfl
       simp only[Q,if_true] at this;exact this
      go_wp2_with fail
      go_roundg f
      case measure=>omega
      case rel=>exact⟨_,_,g.heap.size+1,B,t,(u:Int),rfl,R4.out.grew U.out,I.out.grew U.out,A5,R,F4.out.trans (Fr.grew U.out)⟩
   ·obtain⟨lv,b4⟩:∃lv,Ak (K A).tx=lv:=⟨_,rfl⟩;rw[b4] at a6 a7;have nn:((lv:Int) != (n:Int))=true:=by rw[bne_iff_ne];omega
    have HH:Hid (C0 K N w br bl d r (.returned (.pointer (some ⟨L,0,none⟩))) J):=by
     rw[d2];exact⟨F2.out,R2.out,L,rfl,fun y j e=>by rw[<- (Prod.mk.inj (Except.ok.inj e)).1];exact X2.out.fr (Fr.refl _ _) fun _ _ q=>by omega⟩
    clear HB a6 b4 d2 b5 c4 c2 R2 F2 T2 X2;cases g1:((B:Int) != 111)
    all_goals cases g2:((B:Int) != 119)
    all_goals
     go_wp2_with (go_at_call 48;refine(a7.out _).mono ?_;rintro e w' ⟨rfl,hw⟩;obtain rfl:=hw.symm)
     go_ret
     exact HH.out
end Go.Proofs.YtjbfcadeapphbaaGreatDoor.Sx
