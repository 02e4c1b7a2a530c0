/- The program: modules: rows of declarations in memory. -/
import Derived.Test.YthcndopglfkmiaaGreatDoorK26
namespace Go.Proofs.YthcndopglfkmiaaGreatDoor.Sx
set_option maxRecDepth 100000
set_option maxHeartbeats 2000000
open Go.RowKit Go.Sort
def Kr:List (List UInt8):=[Cy,Fm,Bj]++H6
theorem eD {a b:List UInt8}(hl:a=b)(h:b∈H6):∃k,3<=k/\k<10/\∀q l,Kr[q]?=some l->(a==l)=decide (q=k):=by
 subst hl;have d:∀k,k<10->∀q,q<10->3<=k->(Kr[k]! == Kr[q]!)=decide (q=k):=by decide
 obtain⟨j,g,e⟩:=List.getElem_of_mem h;have n:j<7:=g;refine⟨j+3,by omega,by omega,fun q l hq=>?_⟩;have c:q<10:=(List.getElem?_eq_some_iff.1 hq).1;have f:=d (j+3) (by omega) q c (by omega);have i:Kr[j+3]! = a:=by
  rw[<- e];have:Kr[j+3]?=some H6[j]:=by
   unfold Kr;rw[List.getElem?_append_right (by simp)];simp only[List.length_cons,List.length_nil,Nat.zero_add,Nat.reduceAdd,Nat.add_sub_cancel];exact List.getElem?_eq_getElem g
  rw[List.getElem!_eq_getElem?_getD,this];rfl
 have m:Kr[q]! = l:=by rw[List.getElem!_eq_getElem?_getD,hq];rfl
 rw[i,m] at f;exact f
theorem Lt {br:Nat}{t:ByteArray}{self:Nat->Nat->Nat->RX PX}(hS:Ax br t self)(w:World)(bd:Nat)(m i:Nat)(word nm how:ByteArray)(a na:Int)(ht:t.size<=4000)(hm:m<=1000000)(hbd:bd≠br)(hb34:bd≠5/\bd≠6)(hI:Bl w br)(hr:RdF w br t i 0)(hD:A0 w bd word a nm na (.slice none 0 0) how (.pointer none))
  (r:Except (Nat×Nat) ((List (List UInt8)×Option PX)×Nat)) (h:Gr (tkF t.data.toList) self m word.data.toList i=some r) :
  Calls Tryz.prog 89 #[.pointer (some ⟨br,0,none⟩),.pointer (some ⟨bd,0,none⟩)] w (Nh w br bd t word a nm na how r):=by
 unfold Gr at h;by_cases b:word.data.toList=Bq
 ·rw[if_pos b] at h;exact Pt w br bd t m i word nm how a na ht hm hbd hr hD b r h
 by_cases c:word.data.toList=Al
 ·rw[if_neg b,if_pos c] at h;exact Nw hS w bd m i word nm how a na ht hm hbd hb34 hI hr hD c r h
 ·rw[if_neg b,if_neg c] at h;exact Pu hS w bd i word nm how a na ht hbd hb34 hI hr hD ⟨b,c⟩ r h
theorem Xz {br:Nat}{t:ByteArray}{self:Nat->Nat->Nat->RX PX}(hS:Ax br t self)(w:World)(m i:Nat)(ht:t.size<=4000)(hm:m<=1000000)(hI:Bl w br)(hr:RdF w br t i 0)(hw:(tkF t.data.toList i).tx∈H6)
  (r:Except (Nat×Nat) (List UInt8×Nat)) (h:Dd (tkF t.data.toList) self m i=some r) :
  Calls Tryz.prog 54 #[.pointer (some ⟨br,0,none⟩)] w (Iy w br t r):=by
 have HS:Hid (Ax br t self):=hS;have HI:Hid (Bl w br):=hI;have HA:Hid (∀W:World,_):=fun W h=>Co W br t i 0 h ht;have HX:Hid (bX (Bo (tkF t.data.toList) (i+1)) (fun n j=>bX (Gr (tkF t.data.toList) self m (txF t.data.toList i) j) fun c j=>okX (E0 (txF t.data.toList i) [] n c.1 c.2) j)=some r):=by have:=h;rw[Tp (fun k=>Ti t.data.toList k) m i hw] at this;exact this
 clear h;have d6:=Ab hr;have a1:Ag w (w.alloc (.cells #[.string ⟨#[]⟩,.int .i64 0,.string ⟨#[]⟩,.int .i64 0,.slice none 0 0,.string ⟨#[]⟩,.pointer none] 81)):=(Ag.refl w).alloc _;have T:Hid (RdF (w.alloc (.cells #[.string ⟨#[]⟩,.int .i64 0,.string ⟨#[]⟩,.int .i64 0,.slice none 0 0,.string ⟨#[]⟩,.pointer none] 81)) br t i 0):=RdF.of hr (P:=fun _=>True) (Fr.grew a1) trivial;have F0:Hid (Fr (·≠br) w (w.alloc (.cells #[.string ⟨#[]⟩,.int .i64 0,.string ⟨#[]⟩,.int .i64 0,.slice none 0 0,.string ⟨#[]⟩,.pointer none] 81))):=Fr.grew a1;have Z0:Hid (A0 (w.alloc (.cells #[.string ⟨#[]⟩,.int .i64 0,.string ⟨#[]⟩,.int .i64 0,.slice none 0 0,.string ⟨#[]⟩,.pointer none] 81)) w.heap.size ⟨#[]⟩ 0 ⟨#[]⟩ 0 (.slice none 0 0) ⟨#[]⟩ (.pointer none)):=Ak rfl;have c1:=Aa T.out 1;have c2:=Aa T.out 2;clear hr hI hS a1;have mo:=follows;obtain⟨d,M⟩:∃d,pcF t i=d:=⟨_,rfl⟩;have O:Hid (d.data.toList=txF t.data.toList i):=by rw[<- M];exact A5 t i
 obtain⟨g,Z⟩:∃g,atF t.data.toList i=g:=⟨_,rfl⟩;rw[M] at c2;rw[Z] at c1;have a5:Hid (∃k,3<=k/\k<10/\∀q l,Kr[q]?=some l->(d.toList==l)=decide (q=k)):=by
  have h1:=O.out;have a4:txF t.data.toList i∈H6:=hw;rw[<- h1] at a4;have hl:d.toList=d.data.toList:=ByteArray.toList_eq _;exact eD hl a4
 go_enter Tryz.func54,Tryz.ntmps54
 go_wp2_with fail
 have X:=Aa (RdF.of T.out (P:=fun _=>True) (Fr.grew (Ag.refl _).drew) trivial) 1;have Y:=Aa (RdF.of T.out (P:=fun _=>True) (Fr.grew (Ag.refl _).drew) trivial) 2;rw[M] at Y;rw[Z] at X;generalize w.alloc (.cells #[.string ⟨#[]⟩,.int .i64 0,.string ⟨#[]⟩,.int .i64 0,.slice none 0 0,.string ⟨#[]⟩,.pointer none] 81)=W0 at T F0 Z0 c1 c2 X Y |-;obtain⟨u,a0⟩:∃u,w.heap.size=u:=⟨_,rfl⟩;rw[a0] at Z0 d6 |-;have a6:Hid (w.heap.size=u):=a0;have a8:Hid (pcF t i=d):=M;clear a0 M Z;have d7:=Ab T.out;have d8:=Ab Z0.out;go_big_region_o
 have R:Ag W0 (W0.alloc (.cells #[.string d,.int .i64 (g:Int),.string ⟨#[]⟩,.int .i64 0,.slice none 0 0,.string ⟨#[]⟩,.pointer none] 81)).drew:=((Ag.refl W0).alloc _).drew;have D1:Hid (A0 (W0.alloc (.cells #[.string d,.int .i64 (g:Int),.string ⟨#[]⟩,.int .i64 0,.slice none 0 0,.string ⟨#[]⟩,.pointer none] 81)).drew W0.heap.size d (g:Int) ⟨#[]⟩ 0 (.slice none 0 0) ⟨#[]⟩ (.pointer none)):=A0.of (w:=W0.alloc (.cells #[.string d,.int .i64 (g:Int),.string ⟨#[]⟩,.int .i64 0,.slice none 0 0,.string ⟨#[]⟩,.pointer none] 81)) (Ak rfl) (P:=fun _=>True) (Fr.grew (Ag.refl _).drew) trivial;have R1:Hid (RdF (W0.alloc (.cells #[.string d,.int .i64 (g:Int),.string ⟨#[]⟩,.int .i64 0,.slice none 0 0,.string ⟨#[]⟩,.pointer none] 81)).drew br t i 0):=RdF.of T.out (P:=fun _=>True) (Fr.grew R) trivial;have F1:Hid (Fr (·≠br) w (W0.alloc (.cells #[.string d,.int .i64 (g:Int),.string ⟨#[]⟩,.int .i64 0,.slice none 0 0,.string ⟨#[]⟩,.pointer none] 81)).drew):=F0.out.trans (Fr.grew R);have Z1:Hid (A0 (W0.alloc (.cells #[.string d,.int .i64 (g:Int),.string ⟨#[]⟩,.int .i64 0,.slice none 0 0,.string ⟨#[]⟩,.pointer none] 81)).drew u ⟨#[]⟩ 0 ⟨#[]⟩ 0 (.slice none 0 0) ⟨#[]⟩ (.pointer none)):=Z0.out.of (P:=fun _=>True) (Fr.grew R) trivial;have d9:=F0.out.size;clear c1 c2 X Y R;generalize (W0.alloc (.cells #[.string d,.int .i64 (g:Int),.string ⟨#[]⟩,.int .i64 0,.slice none 0 0,.string ⟨#[]⟩,.pointer none] 81)).drew=W1 at D1 R1 F1 Z1 |-;obtain⟨f,c3⟩:∃f,W0.heap.size=f:=⟨_,rfl⟩;rw[c3] at D1 d7 d8 d9 |-;clear c3 T F0 Z0;have x:f≠br:=by omega
 have C:u≠br:=by omega
 have L:f≠u:=by omega
 have c2:=Aa R1.out 2;rw[a8.out] at c2;obtain⟨kk,d3,d4,J⟩:=a5.out;have d5:kk=3\/kk=4\/kk=5\/kk=6\/kk=7\/kk=8\/kk=9:=by omega
 clear d3 d4 a5;rcases d5 with rfl|rfl|rfl|rfl|rfl|rfl|rfl
 all_goals
  have b0:(d.toList==[105,110,105,116])=_:=J 0 _ rfl;have b1:(d.toList==[102,97,105,114])=_:=J 1 _ rfl;have b2:(d.toList==[115,121,109,109,101,116,114,105,99])=_:=J 2 _ rfl;have b3:(d.toList==[99,111,110,115,116,97,110,116])=_:=J 3 _ rfl;have b4:(d.toList==[118,97,114,105,97,98,108,101])=_:=J 4 _ rfl;have b5:(d.toList==[97,99,116,105,111,110])=_:=J 5 _ rfl;have b6:(d.toList==[105,110,118,97,114,105,97,110,116])=_:=J 6 _ rfl;have b7:(d.toList==[112,114,111,112,101,114,116,121])=_:=J 7 _ rfl;have b8:(d.toList==[97,116,111,109,115])=_:=J 8 _ rfl;have b9:(d.toList==[100,101,102,105,110,101])=_:=J 9 _ rfl;simp only[Nat.reduceEqDiff,decide_false,decide_true] at b0 b1 b2 b3 b4 b5 b6 b7 b8 b9;clear J;go_wp2_with fail
  clear c2 b0 b1 b2 b3 b4 b5 b6 b7 b8 b9;refine(HA.out W1 R1.out).mono ?_;rintro e W2 ⟨rfl,c8,Q⟩;have R2:Hid (RdF W2 br t (i+1) 0):=c8;have F2:Hid (Fr (·≠br) w W2):=F1.out.trans Q;have D2:Hid (A0 W2 f d (g:Int) ⟨#[]⟩ 0 (.slice none 0 0) ⟨#[]⟩ (.pointer none)):=D1.out.of Q x;have Z2:Hid (A0 W2 u ⟨#[]⟩ 0 ⟨#[]⟩ 0 (.slice none 0 0) ⟨#[]⟩ (.pointer none)):=Z1.out.of Q C;clear c8 Q R1 F1 D1 Z1;go_wp2_with fail
  rcases Av HX.out with⟨⟨c,p⟩,N,rfl⟩|⟨n,j,N,hk⟩
  ·refine(C6 W2 br t (i+1) 0 R2.out ht _ N).mono ?_;rintro e W9 ⟨F,rfl⟩;exact⟨rfl,F2.out.trans F,rfl⟩
  refine(C6 W2 br t (i+1) 0 R2.out ht _ N).mono ?_;rintro e E ⟨F,rfl,hr⟩;have HN:Hid ((pcF t (i+1)).data.toList=n/\n≠[]):=Nz N;obtain⟨o,c7⟩:∃o,pcF t (i+1)=o:=⟨_,rfl⟩;obtain⟨s,c0⟩:∃s,atF t.data.toList (i+1)=s:=⟨_,rfl⟩;rw[c7] at HN |-;rw[c0];have a4:=F2.out.size;have e0:=Ab D2.out;have e3:=Ab Z2.out;have R3:Hid (RdF E br t j 0):=hr;have F3:Hid (Fr (·≠br) w E):=F2.out.trans F;have D3:Hid (A0 E f d (g:Int) ⟨#[]⟩ 0 (.slice none 0 0) ⟨#[]⟩ (.pointer none)):=D2.out.of F x;have Z3:Hid (A0 E u ⟨#[]⟩ 0 ⟨#[]⟩ 0 (.slice none 0 0) ⟨#[]⟩ (.pointer none)):=Z2.out.of F C;have a7:Hid (bX (Gr (tkF t.data.toList) self m (txF t.data.toList i) j) (fun c j=>okX (E0 (txF t.data.toList i) [] n c.1 c.2) j)=some r):=hk;clear F hr N hk c7 c0 HX R2 F2 D2 Z2;have x2:=Aa D3.out 2;have x3:=Aa D3.out 3;have y2:=Ac D3.out 2;have y3:=Ac D3.out 3;have c9:=a6.out;have A:Fr (·≠f) E ((E.setCell ⟨f,2,none⟩ (.string o)).setCell ⟨f,3,none⟩ (.int .i64 (s:Int))):=((Fr.refl _ E).set (by simp) _).set (by simp) _;have R4:Hid (RdF ((E.setCell ⟨f,2,none⟩ (.string o)).setCell ⟨f,3,none⟩ (.int .i64 (s:Int))) br t j 0):=RdF.of R3.out A (Ne.symm x);have U:Hid (Fr (·≠br) w ((E.setCell ⟨f,2,none⟩ (.string o)).setCell ⟨f,3,none⟩ (.int .i64 (s:Int)))):=F3.out.fresh (A.mono fun _ q=>q.2) (by omega);have D4:Hid (A0 ((E.setCell ⟨f,2,none⟩ (.string o)).setCell ⟨f,3,none⟩ (.int .i64 (s:Int))) f d (g:Int) o (s:Int) (.slice none 0 0) ⟨#[]⟩ (.pointer none)):=D3.out.ident o (s:Int);have Z4:Hid (A0 ((E.setCell ⟨f,2,none⟩ (.string o)).setCell ⟨f,3,none⟩ (.int .i64 (s:Int))) u ⟨#[]⟩ 0 ⟨#[]⟩ 0 (.slice none 0 0) ⟨#[]⟩ (.pointer none)):=Z3.out.of A (Ne.symm L);clear A;go_wp2_with fail
  clear x2 x3 y2 y3 R3 F3 D3 Z3;generalize (E.setCell ⟨f,2,none⟩ (.string o)).setCell ⟨f,3,none⟩ (.int .i64 (s:Int))=W4 at R4 U D4 Z4 |-;have K:f≠5/\f≠6:=HI.out.new (by omega);have e1:=Ab D4.out;have e4:=Ab Z4.out;have e2:=U.out.size;rcases Av a7.out with⟨⟨c,p⟩,N,rfl⟩|⟨⟨nl,ox⟩,j2,N,hk⟩
  ·refine(Lt HS.out W4 f m j d o ⟨#[]⟩ _ _ ht hm x K (HI.out.fr U.out) R4.out D4.out _ (by rw[O.out];exact N)).mono ?_;rintro e W9 ⟨F,rfl⟩;exact⟨rfl,U.out.fresh F (by omega),rfl⟩
  refine(Lt HS.out W4 f m j d o ⟨#[]⟩ _ _ ht hm x K (HI.out.fr U.out) R4.out D4.out _ (by rw[O.out];exact N)).mono ?_;rintro e z ⟨F,rfl,hr,ns,px,c4,a3,a2⟩;have R5:Hid (RdF z br t j2 0):=hr;have F5:Hid (Fr (·≠br) w z):=U.out.fresh F (by omega);have B:Hid (A0 z u ⟨#[]⟩ 0 ⟨#[]⟩ 0 (.slice none 0 0) ⟨#[]⟩ (.pointer none)):=Z4.out.of F ⟨C,Ne.symm L⟩;have S:Hid (A0 z f d (g:Int) o (s:Int) ns ⟨#[]⟩ px):=c4;obtain⟨H,I,rfl⟩:=a3.slice;obtain⟨G,rfl⟩:=a2.ptr;have N5:Hid (NmS z W4.heap.size (.slice H nl.length I) nl):=a3;have O5:Hid (OxE (fun k=>W4.heap.size<=k) z (.pointer G) ox):=a2;have HR:Hid (r=.ok (E0 (txF t.data.toList i) [] n nl ox,j2)):=by simp only[okX,Option.some.injEq] at hk;exact hk.symm
  obtain⟨D,c6⟩:∃D,nl.length=D:=⟨_,rfl⟩;rw[c6] at N5 S;clear F hr N hk c4 a3 a2 a7 R4 U D4 Z4 c6 K;clear c9;have x0:=Aa S.out 0;have x1:=Aa S.out 1;have x2:=Aa S.out 2;have x3:=Aa S.out 3;have x4:=Aa S.out 4;have x5:=Aa S.out 5;have x6:=Aa S.out 6;have n0:=Aa B.out 0;have m0:=Ac B.out 0;have n1:=Aa B.out 1;have m1:=Ac B.out 1;have n2:=Aa B.out 2;have m2:=Ac B.out 2;have n3:=Aa B.out 3;have m3:=Ac B.out 3;have n4:=Aa B.out 4;have m4:=Ac B.out 4;have n5:=Aa B.out 5;have m5:=Ac B.out 5;have n6:=Aa B.out 6;have m6:=Ac B.out 6;have A:Fr (·≠f) z (z):=Fr.refl _ _;have a9:=B.out.of A (Ne.symm L);have c5:=Ny (P:=(·≠u)) (a:=z) (Fr.refl _ _) (b:=u) (by simp) (.string d) (.int .i64 (g:Int)) (.string o) (.int .i64 (s:Int)) (.slice H D I) (.string ⟨#[]⟩) (.pointer G);have y:Fr (fun k=>k≠f/\k≠u) z (Ge (z) u (.string d) (.int .i64 (g:Int)) (.string o) (.int .i64 (s:Int)) (.slice H D I) (.string ⟨#[]⟩) (.pointer G)):=(A.mono fun _ q=>q.1).trans (c5.mono fun _ q=>q.2);have V:Hid (A0 (Ge (z) u (.string d) (.int .i64 (g:Int)) (.string o) (.int .i64 (s:Int)) (.slice H D I) (.string ⟨#[]⟩) (.pointer G)) u d (g:Int) o (s:Int) (.slice H D I) ⟨#[]⟩ (.pointer G)):=Jg a9 _ _ _ _ _ _ _;have c9:=a6.out;have FE:Hid (Fr (·≠br) w (Ge (z) u (.string d) (.int .i64 (g:Int)) (.string o) (.int .i64 (s:Int)) (.slice H D I) (.string ⟨#[]⟩) (.pointer G))):=⟨y.os.trans F5.out.os,y.tape.trans F5.out.tape,y.output.trans F5.out.output,Nat.le_trans F5.out.size y.size,fun k hk hq=>(y.block k (by have:=F5.out.size;omega) ⟨by omega,by omega⟩).trans (F5.out.block k hk hq)⟩;have RE:Hid (RdF (Ge (z) u (.string d) (.int .i64 (g:Int)) (.string o) (.int .i64 (s:Int)) (.slice H D I) (.string ⟨#[]⟩) (.pointer G)) br t j2 0):=RdF.of R5.out y ⟨Ne.symm x,Ne.symm C⟩;have HH:Hid (Iy w br t r (.returned (.agg #[.string d,.int .i64 (g:Int),.string o,.int .i64 (s:Int),.slice H D I,.string ⟨#[]⟩,.pointer G])) (Ge (z) u (.string d) (.int .i64 (g:Int)) (.string o) (.int .i64 (s:Int)) (.slice H D I) (.string ⟨#[]⟩) (.pointer G))):=by
   rw[HR.out];refine⟨FE.out,⟨_,rfl,d,_,o,_,_,_,_,nl,ox,rfl,N5.out.foot.fr (y.mono fun k q=>by omega) (fun _ _ q=>by omega),O5.out.fr (y.mono fun k q=>by omega) (fun _ _ q=>by omega),?_⟩,RE.out⟩;rw[O.out,HN.out.1]
  clear A a9 c5 y FE RE;go_wp2_with fail
  have r0:=Aa V.out 0;have d0:=Aa V.out 1;have d1:=Aa V.out 2;have d2:=Aa V.out 3;have r4:=Aa V.out 4;have r5:=Aa V.out 5;have r6:=Aa V.out 6;change bodyPost _ _ _ _ _ (Ge (z) u (.string d) (.int .i64 (g:Int)) (.string o) (.int .i64 (s:Int)) (.slice H D I) (.string ⟨#[]⟩) (.pointer G));generalize (Ge (z) u (.string d) (.int .i64 (g:Int)) (.string o) (.int .i64 (s:Int)) (.slice H D I) (.string ⟨#[]⟩) (.pointer G))=WE at HH r0 d0 d1 d2 r4 r5 r6 |-;refine bodyPost_ret (v:=.agg #[.string d,.int .i64 (g:Int),.string o,.int .i64 (s:Int),.slice H D I,.string ⟨#[]⟩,.pointer G]) (by simp[results,Tryz.results54,go_sem,r0,d0,d1,d2,r4,r5,r6]) rfl HH.out
theorem X7 {br:Nat}{t:ByteArray}(w:World)(i:Nat)(hr:RdF w br t i 0)(hw:∀l∈Kr,txF t.data.toList i≠l) :
  Calls Tryz.prog 54 #[.pointer (some ⟨br,0,none⟩)] w (Iy w br t (.error (1,atF t.data.toList i))):=by
 have z:=Ab hr;have n:Ag w (w.alloc (.cells #[.string ⟨#[]⟩,.int .i64 0,.string ⟨#[]⟩,.int .i64 0,.slice none 0 0,.string ⟨#[]⟩,.pointer none] 81)):=(Ag.refl w).alloc _;have g:Hid (RdF (w.alloc (.cells #[.string ⟨#[]⟩,.int .i64 0,.string ⟨#[]⟩,.int .i64 0,.slice none 0 0,.string ⟨#[]⟩,.pointer none] 81)) br t i 0):=RdF.of hr (P:=fun _=>True) (Fr.grew n) trivial;have u:Hid (Fr (·≠br) w (w.alloc (.cells #[.string ⟨#[]⟩,.int .i64 0,.string ⟨#[]⟩,.int .i64 0,.slice none 0 0,.string ⟨#[]⟩,.pointer none] 81))):=Fr.grew n;have q:Hid (A0 (w.alloc (.cells #[.string ⟨#[]⟩,.int .i64 0,.string ⟨#[]⟩,.int .i64 0,.slice none 0 0,.string ⟨#[]⟩,.pointer none] 81)) w.heap.size ⟨#[]⟩ 0 ⟨#[]⟩ 0 (.slice none 0 0) ⟨#[]⟩ (.pointer none)):=Ak rfl;have y:=Aa g.out 1;have r:=Aa g.out 2;clear hr n;have X:=follows;obtain⟨a,c⟩:∃a,pcF t i=a:=⟨_,rfl⟩;have b:Hid (a.data.toList=txF t.data.toList i):=by rw[<- c];exact A5 t i
 obtain⟨d,k⟩:∃d,atF t.data.toList i=d:=⟨_,rfl⟩;rw[c] at r;rw[k] at y;have M:(a.toList==[105,110,105,116])=false:=by rw[ByteArray.toList_eq,b.out];simpa using hw [105,110,105,116] (by decide)
 have N:(a.toList==[102,97,105,114])=false:=by rw[ByteArray.toList_eq,b.out];simpa using hw [102,97,105,114] (by decide)
 have O:(a.toList==[115,121,109,109,101,116,114,105,99])=false:=by rw[ByteArray.toList_eq,b.out];simpa using hw [115,121,109,109,101,116,114,105,99] (by decide)
 have Q:(a.toList==[99,111,110,115,116,97,110,116])=false:=by rw[ByteArray.toList_eq,b.out];simpa using hw [99,111,110,115,116,97,110,116] (by decide)
 have R:(a.toList==[118,97,114,105,97,98,108,101])=false:=by rw[ByteArray.toList_eq,b.out];simpa using hw [118,97,114,105,97,98,108,101] (by decide)
 have S:(a.toList==[97,99,116,105,111,110])=false:=by rw[ByteArray.toList_eq,b.out];simpa using hw [97,99,116,105,111,110] (by decide)
 have T:(a.toList==[105,110,118,97,114,105,97,110,116])=false:=by rw[ByteArray.toList_eq,b.out];simpa using hw [105,110,118,97,114,105,97,110,116] (by decide)
 have U:(a.toList==[112,114,111,112,101,114,116,121])=false:=by rw[ByteArray.toList_eq,b.out];simpa using hw [112,114,111,112,101,114,116,121] (by decide)
 have V:(a.toList==[97,116,111,109,115])=false:=by rw[ByteArray.toList_eq,b.out];simpa using hw [97,116,111,109,115] (by decide)
 have W:(a.toList==[100,101,102,105,110,101])=false:=by rw[ByteArray.toList_eq,b.out];simpa using hw [100,101,102,105,110,101] (by decide)
 go_enter Tryz.func54,Tryz.ntmps54
 go_wp2_with fail
 have h:=Aa (RdF.of g.out (P:=fun _=>True) (Fr.grew (Ag.refl _).drew) trivial) 1;have j:=Aa (RdF.of g.out (P:=fun _=>True) (Fr.grew (Ag.refl _).drew) trivial) 2;rw[c] at j;rw[k] at h;generalize w.alloc (.cells #[.string ⟨#[]⟩,.int .i64 0,.string ⟨#[]⟩,.int .i64 0,.slice none 0 0,.string ⟨#[]⟩,.pointer none] 81)=W0 at g u q y r h j |-;obtain⟨o,m⟩:∃o,w.heap.size=o:=⟨_,rfl⟩;rw[m] at q z |-;have J:Hid (w.heap.size=o):=m;have p:Hid (pcF t i=a):=c;clear m c k;have A:=Ab g.out;have B:=Ab q.out;go_big_region_o
 have f:Ag W0 (W0.alloc (.cells #[.string a,.int .i64 (d:Int),.string ⟨#[]⟩,.int .i64 0,.slice none 0 0,.string ⟨#[]⟩,.pointer none] 81)).drew:=((Ag.refl W0).alloc _).drew;have E:Hid (A0 (W0.alloc (.cells #[.string a,.int .i64 (d:Int),.string ⟨#[]⟩,.int .i64 0,.slice none 0 0,.string ⟨#[]⟩,.pointer none] 81)).drew W0.heap.size a (d:Int) ⟨#[]⟩ 0 (.slice none 0 0) ⟨#[]⟩ (.pointer none)):=A0.of (w:=W0.alloc (.cells #[.string a,.int .i64 (d:Int),.string ⟨#[]⟩,.int .i64 0,.slice none 0 0,.string ⟨#[]⟩,.pointer none] 81)) (Ak rfl) (P:=fun _=>True) (Fr.grew (Ag.refl _).drew) trivial;have x:Hid (RdF (W0.alloc (.cells #[.string a,.int .i64 (d:Int),.string ⟨#[]⟩,.int .i64 0,.slice none 0 0,.string ⟨#[]⟩,.pointer none] 81)).drew br t i 0):=RdF.of g.out (P:=fun _=>True) (Fr.grew f) trivial;have F:Hid (Fr (·≠br) w (W0.alloc (.cells #[.string a,.int .i64 (d:Int),.string ⟨#[]⟩,.int .i64 0,.slice none 0 0,.string ⟨#[]⟩,.pointer none] 81)).drew):=u.out.trans (Fr.grew f);have K:Hid (A0 (W0.alloc (.cells #[.string a,.int .i64 (d:Int),.string ⟨#[]⟩,.int .i64 0,.slice none 0 0,.string ⟨#[]⟩,.pointer none] 81)).drew o ⟨#[]⟩ 0 ⟨#[]⟩ 0 (.slice none 0 0) ⟨#[]⟩ (.pointer none)):=q.out.of (P:=fun _=>True) (Fr.grew f) trivial;have C:=u.out.size;clear y r h j f;generalize (W0.alloc (.cells #[.string a,.int .i64 (d:Int),.string ⟨#[]⟩,.int .i64 0,.slice none 0 0,.string ⟨#[]⟩,.pointer none] 81)).drew=W1 at E x F K |-;obtain⟨v,s⟩:∃v,W0.heap.size=v:=⟨_,rfl⟩;rw[s] at E A B C |-;clear s g u q;have G:v≠br:=by omega
 have I:o≠br:=by omega
 have H:v≠o:=by omega
 have r:=Aa x.out 2;rw[p.out] at r;go_wp2_with fail
 refine(Ey W1 br t i 0 1 x.out).mono ?_;rintro e L ⟨rfl,D⟩;cases D
 exact⟨rfl,F.out,rfl⟩
theorem Rq {br:Nat}{t:ByteArray}{self:Nat->Nat->Nat->RX PX}(hS:Ax br t self)(w:World)(m i:Nat)(ht:t.size<=4000)(hm:m<=1000000)(hI:Bl w br)(hr:RdF w br t i 0)
  (r:Except (Nat×Nat) (List UInt8×Nat)) (h:Dd (tkF t.data.toList) self m i=some r) :
  Calls Tryz.prog 54 #[.pointer (some ⟨br,0,none⟩)] w (Iy w br t r):=by
 have j:(tkF t.data.toList i).tx=txF t.data.toList i:=rfl;by_cases c:txF t.data.toList i=Cy
 ·exact Xx hS w m i ht hI hr c r h
 by_cases d:txF t.data.toList i=Fm
 ·exact Xy w m i ht hr d r h
 by_cases f:txF t.data.toList i=Bj
 ·exact Nx w m i ht hr f r h
 by_cases g:txF t.data.toList i∈H6
 ·exact Xz hS w m i ht hm hI hr g r h
 have a:∀l,txF t.data.toList i≠l->(txF t.data.toList i==l)=false:=fun l q=>by simpa using q
 have b:∀l∈H6,txF t.data.toList i≠l:=fun l hl e=>g (e ▸ hl);have n:r=.error (1,(tkF t.data.toList i).at'):=by
  have k:Eh.contains (txF t.data.toList i)=false:=by
   cases o:Eh.contains (txF t.data.toList i) with
   | false=>rfl
   | true =>
    exfalso;have:txF t.data.toList i∈Eh:=by simpa using o
    exact g (by unfold H6;simp[this])
  unfold Dd at h;rw[j,a _ c,a _ d,a _ f,a _ (b Bq (by decide)),a _ (b Al (by decide)),a _ (b Bt (by decide)),a _ (b Bu (by decide)),k] at h;simpa [Ck,eq_comm] using h
 rw[n];refine X7 w i hr fun l hl e=>?_;unfold Kr at hl;rcases List.mem_append.1 hl with q|q
 ·simp only[List.mem_cons,List.not_mem_nil,or_false] at q;rcases q with rfl|rfl|rfl
  ·exact c e
  ·exact d e
  ·exact f e
 ·exact b l q e
def Dh (P:Nat->Prop)(w:World):List (List UInt8)->List Value->Prop
 | [],vs=>vs=[]
 | l::ls,vs=>∃c0 c1 c2 c3 c4 c5 c6 vs',vs=c0::c1::c2::c3::c4::c5::c6::vs'/\Il P w (.agg #[c0,c1,c2,c3,c4,c5,c6]) l/\Dh P w ls vs'
theorem Dh.fr {P Q:Nat->Prop}{w w':World}(hf:Fr P w w')(hQ:∀k,k<w.heap.size->P k->Q k):∀(ls:List (List UInt8))(vs:List Value),Dh P w ls vs->Dh Q w' ls vs
 | [],_,h=>h
 | _::ls,_,⟨c0,c1,c2,c3,c4,c5,c6,vs',h1,h2,h3⟩=>⟨c0,c1,c2,c3,c4,c5,c6,vs',h1,h2.fr hf hQ,Dh.fr hf hQ ls vs' h3⟩
theorem Dh.push {P:Nat->Prop}{w:World}{c0 c1 c2 c3 c4 c5 c6:Value}{l:List UInt8}(hd:Il P w (.agg #[c0,c1,c2,c3,c4,c5,c6]) l):∀(ls:List (List UInt8))(vs:List Value),Dh P w ls vs->Dh P w (ls++[l]) (vs++[c0,c1,c2,c3,c4,c5,c6])
 | [],vs,h=>by
  have h':vs=[]:=h;subst h';exact⟨c0,c1,c2,c3,c4,c5,c6,[],rfl,hd,rfl⟩
 | _::ls,_,⟨d0,d1,d2,d3,d4,d5,d6,vs',h1,h2,h3⟩=>⟨d0,d1,d2,d3,d4,d5,d6,vs'++[c0,c1,c2,c3,c4,c5,c6],by rw[h1];rfl,h2,Dh.push hd ls vs' h3⟩
theorem Dh.at {P:Nat->Prop}{w:World}:∀(ls:List (List UInt8))(vs:List Value),Dh P w ls vs->∀(i:Nat)(l:List UInt8),ls[i]?=some l->∃c0 c1 c2 c3 c4 c5 c6,vs[i*7]?=some c0/\vs[i*7+1]?=some c1/\vs[i*7+2]?=some c2/\vs[i*7+3]?=some c3/\vs[i*7+4]?=some c4/\vs[i*7+5]?=some c5/\vs[i*7+6]?=some c6/\Il P w (.agg #[c0,c1,c2,c3,c4,c5,c6]) l
 | [],_,_,i,l,q=>by simp at q
 | _::ls,_,⟨c0,c1,c2,c3,c4,c5,c6,vs',h1,h2,h3⟩,0,l,q=>by
  simp at q;subst q;subst h1;exact⟨c0,c1,c2,c3,c4,c5,c6,rfl,rfl,rfl,rfl,rfl,rfl,rfl,h2⟩
 | _::ls,_,⟨c0,c1,c2,c3,c4,c5,c6,vs',h1,h2,h3⟩,i+1,l,q=>by
  simp at q;subst h1;obtain⟨d0,d1,d2,d3,d4,d5,d6,g0,g1,g2,g3,g4,g5,g6,g7⟩:=Dh.at ls vs' h3 i l q;have e:(i+1)*7=i*7+7:=by omega
  refine⟨d0,d1,d2,d3,d4,d5,d6,?_,?_,?_,?_,?_,?_,?_,g7⟩<;>rw[e]<;>simpa using by assumption
def Jh (w:World)(b:Nat)(nm:ByteArray)(na:Int)(sl:Value):Prop:=w.heap[b]?=some (.cells #[.string nm,.int .i64 na,sl] 78 (0,0))
theorem Jh.of {w w':World}{b:Nat}{nm:ByteArray}{na:Int}{sl:Value}(h:Jh w b nm na sl){P:Nat->Prop}(f:Fr P w w')(hp:P b):Jh w' b nm na sl:=(f.block b (Ab h) hp).trans h
theorem Jh.rows {w:World}{b:Nat}{nm:ByteArray}{na:Int}{sl:Value}(h:Jh w b nm na sl)(v:Value):Jh (w.setCell ⟨b,2,none⟩ v) b nm na v:=by
 have:=Ah h 2 v;simpa [Jh] using this
def Vd (lo:Nat)(w:World)(b:Nat)(tx:List UInt8):Prop :=
 lo<=b/\∃nm na sl n vs ls,Jh w b nm na sl/\w.ownsRow lo 81 7 sl n vs/\n=ls.length/\n<=1000000/\Dh (fun k=>lo<=k) w ls vs/\tx=C3++[32]++nm.data.toList++[10]++Dw ls
theorem fQ:(Tryz.prog.info? 81).map (fun i=>(i.zero,i.size,i.bytes))=some (some (.agg #[.string ⟨#[]⟩,.int .i64 0,.string ⟨#[]⟩,.int .i64 0,.slice none 0 0,.string ⟨#[]⟩,.pointer none]),7,96):=by kernel_rfl
theorem kR {a b c d e f g:Value}(ha:a.oneCell'=true)(hb:b.oneCell'=true)(hc:c.oneCell'=true)(hd:d.oneCell'=true)(he:e.oneCell'=true)(hf:f.oneCell'=true)(hg:g.oneCell'=true):∀u∈[a,b,c,d,e,f,g],u.oneCell'=true:=by
 intro u h;simp only[List.mem_cons,List.not_mem_nil,or_false] at h;rcases h with rfl|rfl|rfl|rfl|rfl|rfl|rfl<;>assumption
def eE (w:World)(br:Nat)(t:ByteArray)(r:Except (Nat×Nat) (List UInt8×Nat))(e:Ending)(w':World):Prop :=
 Fr (·≠br) w w'/\match r with
  | .ok (l,j)=>(∃b,e=.returned (.pointer (some ⟨b,0,none⟩))/\Vd w.heap.size w' b l)/\RdF w' br t j 0/\(tkF t.data.toList j).cl=0
  | .error (c,p)=>e=Flt c p
end Go.Proofs.YthcndopglfkmiaaGreatDoor.Sx
