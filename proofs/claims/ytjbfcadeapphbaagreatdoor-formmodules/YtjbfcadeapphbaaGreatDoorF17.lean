/- The program: a text is read as a module. -/
import Derived.Test.YtjbfcadeapphbaaGreatDoorF16
import Derived.Deep.RegionLaw
namespace Go.Proofs.YtjbfcadeapphbaaGreatDoor.Sx
set_option maxRecDepth 100000
set_option maxHeartbeats 4000000
open Go.RowKit Go.Sort
def Lq:List (List UInt8):=[Ea,Ew,B1]++Ix
theorem jE {a b:List UInt8}(hl:a=b)(h:b∈Ix):∃k,3<=k/\k<10/\∀q l,Lq[q]?=some l->(a==l)=decide (q=k):=by
 subst hl;have d:∀k,k<10->∀q,q<10->3<=k->(Lq[k]! == Lq[q]!)=decide (q=k):=by decide
 obtain⟨j,g,e⟩:=List.getElem_of_mem h;have n:j<7:=g;refine⟨j+3,by omega,by omega,fun q l hq=>?_⟩;have c:q<10:=(List.getElem?_eq_some_iff.1 hq).1;have f:=d (j+3) (by omega) q c (by omega);have i:Lq[j+3]! = a:=by
  rw[<- e];have:Lq[j+3]?=some Ix[j]:=by
   unfold Lq;rw[List.getElem?_append_right (by simp)];simp only[List.length_cons,List.length_nil,Nat.zero_add,Nat.reduceAdd,Nat.add_sub_cancel];exact List.getElem?_eq_getElem g
  rw[List.getElem!_eq_getElem?_getD,this];rfl
 have m:Lq[q]! = l:=by rw[List.getElem!_eq_getElem?_getD,hq];rfl
 rw[i,m] at f;exact f
theorem Nj {br:Nat}{t:ByteArray}{self:Nat->Nat->Nat->RX PX}(hS:Ba br t self)(w:World)(bd:Nat)(m i:Nat)(word nm how:ByteArray)(a na:Int)(ht:t.size<=4000)(hm:m<=1000000)(hbd:bd≠br)(hb34:bd≠5/\bd≠6)(hI:Cd w br)(hr:RdF w br t i 0)(hD:Bf w bd word a nm na (.slice none 0 0) how (.pointer none))
  (r:Except (Nat×Nat) ((List (List UInt8)×Option PX)×Nat)) (h:Gs (tkF t.data.toList) self m word.data.toList i=some r) :
  Calls Tryz.prog 116 #[.pointer (some ⟨br,0,none⟩),.pointer (some ⟨bd,0,none⟩)] w (Ox w br bd t word a nm na how r):=by
 unfold Gs at h;by_cases b:word.data.toList=B2
 ·rw[if_pos b] at h;exact Rh w br bd t m i word nm how a na ht hm hbd hr hD b r h
 by_cases c:word.data.toList=Aq
 ·rw[if_neg b,if_pos c] at h;exact Pf hS w bd m i word nm how a na ht hm hbd hb34 hI hr hD c r h
 ·rw[if_neg b,if_neg c] at h;exact Ri hS w bd i word nm how a na ht hbd hb34 hI hr hD ⟨b,c⟩ r h
theorem bQ {br:Nat}{t:ByteArray}{self:Nat->Nat->Nat->RX PX}(hS:Ba br t self)(w:World)(m i:Nat)(ht:t.size<=4000)(hm:m<=1000000)(hI:Cd w br)(hr:RdF w br t i 0)(hw:(tkF t.data.toList i).tx∈Ix)
  (r:Except (Nat×Nat) (List UInt8×Nat)) (h:Da (tkF t.data.toList) self m i=some r) :
  Calls Tryz.prog 87 #[.pointer (some ⟨br,0,none⟩)] w (Jl w br t r):=by
 have HS:Hid (Ba br t self):=hS;have HI:Hid (Cd w br):=hI;have HA:Hid (∀W:World,_):=fun W h=>Dc W br t i 0 h ht;have HX:Hid (bX (Au (tkF t.data.toList) (i+1)) (fun n j=>bX (Gs (tkF t.data.toList) self m (txF t.data.toList i) j) fun c j=>okX (Fp (txF t.data.toList i) [] n c.1 c.2) j)=some r):=by have:=h;rw[Vp (fun k=>cP t.data.toList k) m i hw] at this;exact this
 clear h;have d6:=Ac hr;have a1:Ad w (w.alloc (.cells #[.string ⟨#[]⟩,.int .i64 0,.string ⟨#[]⟩,.int .i64 0,.slice none 0 0,.string ⟨#[]⟩,.pointer none] 114)):=(Ad.refl w).alloc _;have T:Hid (RdF (w.alloc (.cells #[.string ⟨#[]⟩,.int .i64 0,.string ⟨#[]⟩,.int .i64 0,.slice none 0 0,.string ⟨#[]⟩,.pointer none] 114)) br t i 0):=RdF.of hr (P:=fun _=>True) (Fr.grew a1) trivial;have F0:Hid (Fr (·≠br) w (w.alloc (.cells #[.string ⟨#[]⟩,.int .i64 0,.string ⟨#[]⟩,.int .i64 0,.slice none 0 0,.string ⟨#[]⟩,.pointer none] 114))):=Fr.grew a1;have Z0:Hid (Bf (w.alloc (.cells #[.string ⟨#[]⟩,.int .i64 0,.string ⟨#[]⟩,.int .i64 0,.slice none 0 0,.string ⟨#[]⟩,.pointer none] 114)) w.heap.size ⟨#[]⟩ 0 ⟨#[]⟩ 0 (.slice none 0 0) ⟨#[]⟩ (.pointer none)):=Af rfl;have c1:=Aa T.out 1;have c2:=Aa T.out 2;clear hr hI hS a1;have mo:=follows;obtain⟨d,M⟩:∃d,pcF t i=d:=⟨_,rfl⟩;have O:Hid (d.data.toList=txF t.data.toList i):=by rw[<- M];exact Bm t i
 obtain⟨g,Z⟩:∃g,atF t.data.toList i=g:=⟨_,rfl⟩;rw[M] at c2;rw[Z] at c1;have a5:Hid (∃k,3<=k/\k<10/\∀q l,Lq[q]?=some l->(d.toList==l)=decide (q=k)):=by
  have h1:=O.out;have a4:txF t.data.toList i∈Ix:=hw;rw[<- h1] at a4;have hl:d.toList=d.data.toList:=ByteArray.toList_eq _;exact jE hl a4
 go_enter Tryz.func87,Tryz.ntmps87
 go_wp2_with fail
 have X:=Aa (RdF.of T.out (P:=fun _=>True) (Fr.grew (Ad.refl _).drew) trivial) 1;have Y:=Aa (RdF.of T.out (P:=fun _=>True) (Fr.grew (Ad.refl _).drew) trivial) 2;rw[M] at Y;rw[Z] at X;generalize w.alloc (.cells #[.string ⟨#[]⟩,.int .i64 0,.string ⟨#[]⟩,.int .i64 0,.slice none 0 0,.string ⟨#[]⟩,.pointer none] 114)=W0 at T F0 Z0 c1 c2 X Y |-;obtain⟨u,a0⟩:∃u,w.heap.size=u:=⟨_,rfl⟩;rw[a0] at Z0 d6 |-;have a6:Hid (w.heap.size=u):=a0;have a8:Hid (pcF t i=d):=M;clear a0 M Z;have d7:=Ac T.out;have d8:=Ac Z0.out;go_big_region_o
 have R:Ad W0 (W0.alloc (.cells #[.string d,.int .i64 (g:Int),.string ⟨#[]⟩,.int .i64 0,.slice none 0 0,.string ⟨#[]⟩,.pointer none] 114)).drew:=((Ad.refl W0).alloc _).drew;have D1:Hid (Bf (W0.alloc (.cells #[.string d,.int .i64 (g:Int),.string ⟨#[]⟩,.int .i64 0,.slice none 0 0,.string ⟨#[]⟩,.pointer none] 114)).drew W0.heap.size d (g:Int) ⟨#[]⟩ 0 (.slice none 0 0) ⟨#[]⟩ (.pointer none)):=Bf.of (w:=W0.alloc (.cells #[.string d,.int .i64 (g:Int),.string ⟨#[]⟩,.int .i64 0,.slice none 0 0,.string ⟨#[]⟩,.pointer none] 114)) (Af rfl) (P:=fun _=>True) (Fr.grew (Ad.refl _).drew) trivial;have R1:Hid (RdF (W0.alloc (.cells #[.string d,.int .i64 (g:Int),.string ⟨#[]⟩,.int .i64 0,.slice none 0 0,.string ⟨#[]⟩,.pointer none] 114)).drew br t i 0):=RdF.of T.out (P:=fun _=>True) (Fr.grew R) trivial;have F1:Hid (Fr (·≠br) w (W0.alloc (.cells #[.string d,.int .i64 (g:Int),.string ⟨#[]⟩,.int .i64 0,.slice none 0 0,.string ⟨#[]⟩,.pointer none] 114)).drew):=F0.out.trans (Fr.grew R);have Z1:Hid (Bf (W0.alloc (.cells #[.string d,.int .i64 (g:Int),.string ⟨#[]⟩,.int .i64 0,.slice none 0 0,.string ⟨#[]⟩,.pointer none] 114)).drew u ⟨#[]⟩ 0 ⟨#[]⟩ 0 (.slice none 0 0) ⟨#[]⟩ (.pointer none)):=Z0.out.of (P:=fun _=>True) (Fr.grew R) trivial;have d9:=F0.out.size;clear c1 c2 X Y R;generalize (W0.alloc (.cells #[.string d,.int .i64 (g:Int),.string ⟨#[]⟩,.int .i64 0,.slice none 0 0,.string ⟨#[]⟩,.pointer none] 114)).drew=W1 at D1 R1 F1 Z1 |-;obtain⟨f,c3⟩:∃f,W0.heap.size=f:=⟨_,rfl⟩;rw[c3] at D1 d7 d8 d9 |-;clear c3 T F0 Z0;have x:f≠br:=by omega
 have C:u≠br:=by omega
 have L:f≠u:=by omega
 have c2:=Aa R1.out 2;rw[a8.out] at c2;obtain⟨kk,d3,d4,J⟩:=a5.out;have d5:kk=3\/kk=4\/kk=5\/kk=6\/kk=7\/kk=8\/kk=9:=by omega
 clear d3 d4 a5;rcases d5 with rfl|rfl|rfl|rfl|rfl|rfl|rfl
 all_goals
  have b0:(d.toList==[105,110,105,116])=_:=J 0 _ rfl;have b1:(d.toList==[102,97,105,114])=_:=J 1 _ rfl;have b2:(d.toList==[115,121,109,109,101,116,114,105,99])=_:=J 2 _ rfl;have b3:(d.toList==[99,111,110,115,116,97,110,116])=_:=J 3 _ rfl;have b4:(d.toList==[118,97,114,105,97,98,108,101])=_:=J 4 _ rfl;have b5:(d.toList==[97,99,116,105,111,110])=_:=J 5 _ rfl;have b6:(d.toList==[105,110,118,97,114,105,97,110,116])=_:=J 6 _ rfl;have b7:(d.toList==[112,114,111,112,101,114,116,121])=_:=J 7 _ rfl;have b8:(d.toList==[97,116,111,109,115])=_:=J 8 _ rfl;have b9:(d.toList==[100,101,102,105,110,101])=_:=J 9 _ rfl;simp only[Nat.reduceEqDiff,decide_false,decide_true] at b0 b1 b2 b3 b4 b5 b6 b7 b8 b9;clear J;go_wp2_with fail
  clear c2 b0 b1 b2 b3 b4 b5 b6 b7 b8 b9;refine(HA.out W1 R1.out).mono ?_;rintro e W2 ⟨rfl,c8,Q⟩;have R2:Hid (RdF W2 br t (i+1) 0):=c8;have F2:Hid (Fr (·≠br) w W2):=F1.out.trans Q;have D2:Hid (Bf W2 f d (g:Int) ⟨#[]⟩ 0 (.slice none 0 0) ⟨#[]⟩ (.pointer none)):=D1.out.of Q x;have Z2:Hid (Bf W2 u ⟨#[]⟩ 0 ⟨#[]⟩ 0 (.slice none 0 0) ⟨#[]⟩ (.pointer none)):=Z1.out.of Q C;clear c8 Q R1 F1 D1 Z1;go_wp2_with fail
  rcases Ax HX.out with⟨⟨c,p⟩,N,rfl⟩|⟨n,j,N,hk⟩
  ·refine(Dy W2 br t (i+1) 0 R2.out ht _ N).mono ?_;rintro e W9 ⟨F,rfl⟩;exact⟨rfl,F2.out.trans F,rfl⟩
  refine(Dy W2 br t (i+1) 0 R2.out ht _ N).mono ?_;rintro e E ⟨F,rfl,hr⟩;have HN:Hid ((pcF t (i+1)).data.toList=n/\n≠[]):=Pj N;obtain⟨o,c7⟩:∃o,pcF t (i+1)=o:=⟨_,rfl⟩;obtain⟨s,c0⟩:∃s,atF t.data.toList (i+1)=s:=⟨_,rfl⟩;rw[c7] at HN |-;rw[c0];have a4:=F2.out.size;have e0:=Ac D2.out;have e3:=Ac Z2.out;have R3:Hid (RdF E br t j 0):=hr;have F3:Hid (Fr (·≠br) w E):=F2.out.trans F;have D3:Hid (Bf E f d (g:Int) ⟨#[]⟩ 0 (.slice none 0 0) ⟨#[]⟩ (.pointer none)):=D2.out.of F x;have Z3:Hid (Bf E u ⟨#[]⟩ 0 ⟨#[]⟩ 0 (.slice none 0 0) ⟨#[]⟩ (.pointer none)):=Z2.out.of F C;have a7:Hid (bX (Gs (tkF t.data.toList) self m (txF t.data.toList i) j) (fun c j=>okX (Fp (txF t.data.toList i) [] n c.1 c.2) j)=some r):=hk;clear F hr N hk c7 c0 HX R2 F2 D2 Z2;have x2:=Aa D3.out 2;have x3:=Aa D3.out 3;have y2:=Ab D3.out 2;have y3:=Ab D3.out 3;have c9:=a6.out;have A:Fr (·≠f) E ((E.setCell ⟨f,2,none⟩ (.string o)).setCell ⟨f,3,none⟩ (.int .i64 (s:Int))):=((Fr.refl _ E).set (by simp) _).set (by simp) _;have R4:Hid (RdF ((E.setCell ⟨f,2,none⟩ (.string o)).setCell ⟨f,3,none⟩ (.int .i64 (s:Int))) br t j 0):=RdF.of R3.out A (Ne.symm x);have U:Hid (Fr (·≠br) w ((E.setCell ⟨f,2,none⟩ (.string o)).setCell ⟨f,3,none⟩ (.int .i64 (s:Int)))):=F3.out.fresh (A.mono fun _ q=>q.2) (by omega);have D4:Hid (Bf ((E.setCell ⟨f,2,none⟩ (.string o)).setCell ⟨f,3,none⟩ (.int .i64 (s:Int))) f d (g:Int) o (s:Int) (.slice none 0 0) ⟨#[]⟩ (.pointer none)):=D3.out.ident o (s:Int);have Z4:Hid (Bf ((E.setCell ⟨f,2,none⟩ (.string o)).setCell ⟨f,3,none⟩ (.int .i64 (s:Int))) u ⟨#[]⟩ 0 ⟨#[]⟩ 0 (.slice none 0 0) ⟨#[]⟩ (.pointer none)):=Z3.out.of A (Ne.symm L);clear A;go_wp2_with fail
  clear x2 x3 y2 y3 R3 F3 D3 Z3;generalize (E.setCell ⟨f,2,none⟩ (.string o)).setCell ⟨f,3,none⟩ (.int .i64 (s:Int))=W4 at R4 U D4 Z4 |-;have K:f≠5/\f≠6:=HI.out.new (by omega);have e1:=Ac D4.out;have e4:=Ac Z4.out;have e2:=U.out.size;rcases Ax a7.out with⟨⟨c,p⟩,N,rfl⟩|⟨⟨nl,ox⟩,j2,N,hk⟩
  ·refine(Nj HS.out W4 f m j d o ⟨#[]⟩ _ _ ht hm x K (HI.out.fr U.out) R4.out D4.out _ (by rw[O.out];exact N)).mono ?_;rintro e W9 ⟨F,rfl⟩;exact⟨rfl,U.out.fresh F (by omega),rfl⟩
  refine(Nj HS.out W4 f m j d o ⟨#[]⟩ _ _ ht hm x K (HI.out.fr U.out) R4.out D4.out _ (by rw[O.out];exact N)).mono ?_;rintro e z ⟨F,rfl,hr,ns,px,c4,a3,a2⟩;have R5:Hid (RdF z br t j2 0):=hr;have F5:Hid (Fr (·≠br) w z):=U.out.fresh F (by omega);have B:Hid (Bf z u ⟨#[]⟩ 0 ⟨#[]⟩ 0 (.slice none 0 0) ⟨#[]⟩ (.pointer none)):=Z4.out.of F ⟨C,Ne.symm L⟩;have S:Hid (Bf z f d (g:Int) o (s:Int) ns ⟨#[]⟩ px):=c4;obtain⟨H,I,rfl⟩:=a3.slice;obtain⟨G,rfl⟩:=a2.ptr;have N5:Hid (NmS z W4.heap.size (.slice H nl.length I) nl):=a3;have O5:Hid (OxE (fun k=>W4.heap.size<=k) z (.pointer G) ox):=a2;have HR:Hid (r=.ok (Fp (txF t.data.toList i) [] n nl ox,j2)):=by simp only[okX,Option.some.injEq] at hk;exact hk.symm
  obtain⟨D,c6⟩:∃D,nl.length=D:=⟨_,rfl⟩;rw[c6] at N5 S;clear F hr N hk c4 a3 a2 a7 R4 U D4 Z4 c6 K;clear c9;have x0:=Aa S.out 0;have x1:=Aa S.out 1;have x2:=Aa S.out 2;have x3:=Aa S.out 3;have x4:=Aa S.out 4;have x5:=Aa S.out 5;have x6:=Aa S.out 6;have n0:=Aa B.out 0;have m0:=Ab B.out 0;have n1:=Aa B.out 1;have m1:=Ab B.out 1;have n2:=Aa B.out 2;have m2:=Ab B.out 2;have n3:=Aa B.out 3;have m3:=Ab B.out 3;have n4:=Aa B.out 4;have m4:=Ab B.out 4;have n5:=Aa B.out 5;have m5:=Ab B.out 5;have n6:=Aa B.out 6;have m6:=Ab B.out 6;have A:Fr (·≠f) z (z):=Fr.refl _ _;have a9:=B.out.of A (Ne.symm L);have c5:=Ph (P:=(·≠u)) (a:=z) (Fr.refl _ _) (b:=u) (by simp) (.string d) (.int .i64 (g:Int)) (.string o) (.int .i64 (s:Int)) (.slice H D I) (.string ⟨#[]⟩) (.pointer G);have y:Fr (fun k=>k≠f/\k≠u) z (Gj (z) u (.string d) (.int .i64 (g:Int)) (.string o) (.int .i64 (s:Int)) (.slice H D I) (.string ⟨#[]⟩) (.pointer G)):=(A.mono fun _ q=>q.1).trans (c5.mono fun _ q=>q.2);have V:Hid (Bf (Gj (z) u (.string d) (.int .i64 (g:Int)) (.string o) (.int .i64 (s:Int)) (.slice H D I) (.string ⟨#[]⟩) (.pointer G)) u d (g:Int) o (s:Int) (.slice H D I) ⟨#[]⟩ (.pointer G)):=Ka a9 _ _ _ _ _ _ _;have c9:=a6.out;have FE:Hid (Fr (·≠br) w (Gj (z) u (.string d) (.int .i64 (g:Int)) (.string o) (.int .i64 (s:Int)) (.slice H D I) (.string ⟨#[]⟩) (.pointer G))):=⟨y.os.trans F5.out.os,y.tape.trans F5.out.tape,y.output.trans F5.out.output,Nat.le_trans F5.out.size y.size,fun k hk hq=>(y.block k (by have:=F5.out.size;omega) ⟨by omega,by omega⟩).trans (F5.out.block k hk hq)⟩;have RE:Hid (RdF (Gj (z) u (.string d) (.int .i64 (g:Int)) (.string o) (.int .i64 (s:Int)) (.slice H D I) (.string ⟨#[]⟩) (.pointer G)) br t j2 0):=RdF.of R5.out y ⟨Ne.symm x,Ne.symm C⟩;have HH:Hid (Jl w br t r (.returned (.agg #[.string d,.int .i64 (g:Int),.string o,.int .i64 (s:Int),.slice H D I,.string ⟨#[]⟩,.pointer G])) (Gj (z) u (.string d) (.int .i64 (g:Int)) (.string o) (.int .i64 (s:Int)) (.slice H D I) (.string ⟨#[]⟩) (.pointer G))):=by
   rw[HR.out];refine⟨FE.out,⟨_,rfl,d,_,o,_,_,_,_,nl,ox,rfl,N5.out.foot.fr (y.mono fun k q=>by omega) (fun _ _ q=>by omega),O5.out.fr (y.mono fun k q=>by omega) (fun _ _ q=>by omega),?_⟩,RE.out⟩;rw[O.out,HN.out.1]
  clear A a9 c5 y FE RE;go_wp2_with fail
  have r0:=Aa V.out 0;have d0:=Aa V.out 1;have d1:=Aa V.out 2;have d2:=Aa V.out 3;have r4:=Aa V.out 4;have r5:=Aa V.out 5;have r6:=Aa V.out 6;change bodyPost _ _ _ _ _ (Gj (z) u (.string d) (.int .i64 (g:Int)) (.string o) (.int .i64 (s:Int)) (.slice H D I) (.string ⟨#[]⟩) (.pointer G));generalize (Gj (z) u (.string d) (.int .i64 (g:Int)) (.string o) (.int .i64 (s:Int)) (.slice H D I) (.string ⟨#[]⟩) (.pointer G))=WE at HH r0 d0 d1 d2 r4 r5 r6 |-;refine bodyPost_ret (v:=.agg #[.string d,.int .i64 (g:Int),.string o,.int .i64 (s:Int),.slice H D I,.string ⟨#[]⟩,.pointer G]) (by simp[results,Tryz.results87,go_sem,r0,d0,d1,d2,r4,r5,r6]) rfl HH.out
theorem bR {br:Nat}{t:ByteArray}(w:World)(i:Nat)(hr:RdF w br t i 0)(hw:∀l∈Lq,txF t.data.toList i≠l) :
  Calls Tryz.prog 87 #[.pointer (some ⟨br,0,none⟩)] w (Jl w br t (.error (1,atF t.data.toList i))):=by
 have z:=Ac hr;have n:Ad w (w.alloc (.cells #[.string ⟨#[]⟩,.int .i64 0,.string ⟨#[]⟩,.int .i64 0,.slice none 0 0,.string ⟨#[]⟩,.pointer none] 114)):=(Ad.refl w).alloc _;have g:Hid (RdF (w.alloc (.cells #[.string ⟨#[]⟩,.int .i64 0,.string ⟨#[]⟩,.int .i64 0,.slice none 0 0,.string ⟨#[]⟩,.pointer none] 114)) br t i 0):=RdF.of hr (P:=fun _=>True) (Fr.grew n) trivial;have u:Hid (Fr (·≠br) w (w.alloc (.cells #[.string ⟨#[]⟩,.int .i64 0,.string ⟨#[]⟩,.int .i64 0,.slice none 0 0,.string ⟨#[]⟩,.pointer none] 114))):=Fr.grew n;have q:Hid (Bf (w.alloc (.cells #[.string ⟨#[]⟩,.int .i64 0,.string ⟨#[]⟩,.int .i64 0,.slice none 0 0,.string ⟨#[]⟩,.pointer none] 114)) w.heap.size ⟨#[]⟩ 0 ⟨#[]⟩ 0 (.slice none 0 0) ⟨#[]⟩ (.pointer none)):=Af rfl;have y:=Aa g.out 1;have r:=Aa g.out 2;clear hr n;have X:=follows;obtain⟨a,c⟩:∃a,pcF t i=a:=⟨_,rfl⟩;have b:Hid (a.data.toList=txF t.data.toList i):=by rw[<- c];exact Bm t i
 obtain⟨d,k⟩:∃d,atF t.data.toList i=d:=⟨_,rfl⟩;rw[c] at r;rw[k] at y;have M:(a.toList==[105,110,105,116])=false:=by rw[ByteArray.toList_eq,b.out];simpa using hw [105,110,105,116] (by decide)
 have N:(a.toList==[102,97,105,114])=false:=by rw[ByteArray.toList_eq,b.out];simpa using hw [102,97,105,114] (by decide)
 have O:(a.toList==[115,121,109,109,101,116,114,105,99])=false:=by rw[ByteArray.toList_eq,b.out];simpa using hw [115,121,109,109,101,116,114,105,99] (by decide)
 have Q:(a.toList==[99,111,110,115,116,97,110,116])=false:=by rw[ByteArray.toList_eq,b.out];simpa using hw [99,111,110,115,116,97,110,116] (by decide)
 have R:(a.toList==[118,97,114,105,97,98,108,101])=false:=by rw[ByteArray.toList_eq,b.out];simpa using hw [118,97,114,105,97,98,108,101] (by decide)
 have S:(a.toList==[97,99,116,105,111,110])=false:=by rw[ByteArray.toList_eq,b.out];simpa using hw [97,99,116,105,111,110] (by decide)
 have T:(a.toList==[105,110,118,97,114,105,97,110,116])=false:=by rw[ByteArray.toList_eq,b.out];simpa using hw [105,110,118,97,114,105,97,110,116] (by decide)
 have U:(a.toList==[112,114,111,112,101,114,116,121])=false:=by rw[ByteArray.toList_eq,b.out];simpa using hw [112,114,111,112,101,114,116,121] (by decide)
 have V:(a.toList==[97,116,111,109,115])=false:=by rw[ByteArray.toList_eq,b.out];simpa using hw [97,116,111,109,115] (by decide)
 have W:(a.toList==[100,101,102,105,110,101])=false:=by rw[ByteArray.toList_eq,b.out];simpa using hw [100,101,102,105,110,101] (by decide)
 go_enter Tryz.func87,Tryz.ntmps87
 go_wp2_with fail
 have h:=Aa (RdF.of g.out (P:=fun _=>True) (Fr.grew (Ad.refl _).drew) trivial) 1;have j:=Aa (RdF.of g.out (P:=fun _=>True) (Fr.grew (Ad.refl _).drew) trivial) 2;rw[c] at j;rw[k] at h;generalize w.alloc (.cells #[.string ⟨#[]⟩,.int .i64 0,.string ⟨#[]⟩,.int .i64 0,.slice none 0 0,.string ⟨#[]⟩,.pointer none] 114)=W0 at g u q y r h j |-;obtain⟨o,m⟩:∃o,w.heap.size=o:=⟨_,rfl⟩;rw[m] at q z |-;have J:Hid (w.heap.size=o):=m;have p:Hid (pcF t i=a):=c;clear m c k;have A:=Ac g.out;have B:=Ac q.out;go_big_region_o
 have f:Ad W0 (W0.alloc (.cells #[.string a,.int .i64 (d:Int),.string ⟨#[]⟩,.int .i64 0,.slice none 0 0,.string ⟨#[]⟩,.pointer none] 114)).drew:=((Ad.refl W0).alloc _).drew;have E:Hid (Bf (W0.alloc (.cells #[.string a,.int .i64 (d:Int),.string ⟨#[]⟩,.int .i64 0,.slice none 0 0,.string ⟨#[]⟩,.pointer none] 114)).drew W0.heap.size a (d:Int) ⟨#[]⟩ 0 (.slice none 0 0) ⟨#[]⟩ (.pointer none)):=Bf.of (w:=W0.alloc (.cells #[.string a,.int .i64 (d:Int),.string ⟨#[]⟩,.int .i64 0,.slice none 0 0,.string ⟨#[]⟩,.pointer none] 114)) (Af rfl) (P:=fun _=>True) (Fr.grew (Ad.refl _).drew) trivial;have x:Hid (RdF (W0.alloc (.cells #[.string a,.int .i64 (d:Int),.string ⟨#[]⟩,.int .i64 0,.slice none 0 0,.string ⟨#[]⟩,.pointer none] 114)).drew br t i 0):=RdF.of g.out (P:=fun _=>True) (Fr.grew f) trivial;have F:Hid (Fr (·≠br) w (W0.alloc (.cells #[.string a,.int .i64 (d:Int),.string ⟨#[]⟩,.int .i64 0,.slice none 0 0,.string ⟨#[]⟩,.pointer none] 114)).drew):=u.out.trans (Fr.grew f);have K:Hid (Bf (W0.alloc (.cells #[.string a,.int .i64 (d:Int),.string ⟨#[]⟩,.int .i64 0,.slice none 0 0,.string ⟨#[]⟩,.pointer none] 114)).drew o ⟨#[]⟩ 0 ⟨#[]⟩ 0 (.slice none 0 0) ⟨#[]⟩ (.pointer none)):=q.out.of (P:=fun _=>True) (Fr.grew f) trivial;have C:=u.out.size;clear y r h j f;generalize (W0.alloc (.cells #[.string a,.int .i64 (d:Int),.string ⟨#[]⟩,.int .i64 0,.slice none 0 0,.string ⟨#[]⟩,.pointer none] 114)).drew=W1 at E x F K |-;obtain⟨v,s⟩:∃v,W0.heap.size=v:=⟨_,rfl⟩;rw[s] at E A B C |-;clear s g u q;have G:v≠br:=by omega
 have I:o≠br:=by omega
 have H:v≠o:=by omega
 have r:=Aa x.out 2;rw[p.out] at r;go_wp2_with fail
 refine(Fy W1 br t i 0 1 x.out).mono ?_;rintro e L ⟨rfl,D⟩;cases D
 exact⟨rfl,F.out,rfl⟩
theorem Tn {br:Nat}{t:ByteArray}{self:Nat->Nat->Nat->RX PX}(hS:Ba br t self)(w:World)(m i:Nat)(ht:t.size<=4000)(hm:m<=1000000)(hI:Cd w br)(hr:RdF w br t i 0)
  (r:Except (Nat×Nat) (List UInt8×Nat)) (h:Da (tkF t.data.toList) self m i=some r) :
  Calls Tryz.prog 87 #[.pointer (some ⟨br,0,none⟩)] w (Jl w br t r):=by
 have j:(tkF t.data.toList i).tx=txF t.data.toList i:=rfl;by_cases c:txF t.data.toList i=Ea
 ·exact bO hS w m i ht hI hr c r h
 by_cases d:txF t.data.toList i=Ew
 ·exact bP w m i ht hr d r h
 by_cases f:txF t.data.toList i=B1
 ·exact Pg w m i ht hr f r h
 by_cases g:txF t.data.toList i∈Ix
 ·exact bQ hS w m i ht hm hI hr g r h
 have a:∀l,txF t.data.toList i≠l->(txF t.data.toList i==l)=false:=fun l q=>by simpa using q
 have b:∀l∈Ix,txF t.data.toList i≠l:=fun l hl e=>g (e ▸ hl);have n:r=.error (1,(tkF t.data.toList i).at'):=by
  have k:Ep.contains (txF t.data.toList i)=false:=by
   cases o:Ep.contains (txF t.data.toList i) with
   | false=>rfl
   | true =>
    exfalso;have:txF t.data.toList i∈Ep:=by simpa using o
    exact g (by unfold Ix;simp[this])
  unfold Da at h;rw[j,a _ c,a _ d,a _ f,a _ (b B2 (by decide)),a _ (b Aq (by decide)),a _ (b Bl (by decide)),a _ (b Bo (by decide)),k] at h;simpa [Dg,eq_comm] using h
 rw[n];refine bR w i hr fun l hl e=>?_;unfold Lq at hl;rcases List.mem_append.1 hl with q|q
 ·simp only[List.mem_cons,List.not_mem_nil,or_false] at q;rcases q with rfl|rfl|rfl
  ·exact c e
  ·exact d e
  ·exact f e
 ·exact b l q e
def Eh (P:Nat->Prop)(w:World):List (List UInt8)->List Value->Prop
 | [],vs=>vs=[]
 | l::ls,vs=>∃c0 c1 c2 c3 c4 c5 c6 vs',vs=c0::c1::c2::c3::c4::c5::c6::vs'/\Je P w (.agg #[c0,c1,c2,c3,c4,c5,c6]) l/\Eh P w ls vs'
theorem Eh.fr {P Q:Nat->Prop}{w w':World}(hf:Fr P w w')(hQ:∀k,k<w.heap.size->P k->Q k):∀(ls:List (List UInt8))(vs:List Value),Eh P w ls vs->Eh Q w' ls vs
 | [],_,h=>h
 | _::ls,_,⟨c0,c1,c2,c3,c4,c5,c6,vs',h1,h2,h3⟩=>⟨c0,c1,c2,c3,c4,c5,c6,vs',h1,h2.fr hf hQ,Eh.fr hf hQ ls vs' h3⟩
theorem Eh.push {P:Nat->Prop}{w:World}{c0 c1 c2 c3 c4 c5 c6:Value}{l:List UInt8}(hd:Je P w (.agg #[c0,c1,c2,c3,c4,c5,c6]) l):∀(ls:List (List UInt8))(vs:List Value),Eh P w ls vs->Eh P w (ls++[l]) (vs++[c0,c1,c2,c3,c4,c5,c6])
 | [],vs,h=>by
  have h':vs=[]:=h;subst h';exact⟨c0,c1,c2,c3,c4,c5,c6,[],rfl,hd,rfl⟩
 | _::ls,_,⟨d0,d1,d2,d3,d4,d5,d6,vs',h1,h2,h3⟩=>⟨d0,d1,d2,d3,d4,d5,d6,vs'++[c0,c1,c2,c3,c4,c5,c6],by rw[h1];rfl,h2,Eh.push hd ls vs' h3⟩
theorem Eh.at {P:Nat->Prop}{w:World}:∀(ls:List (List UInt8))(vs:List Value),Eh P w ls vs->∀(i:Nat)(l:List UInt8),ls[i]?=some l->∃c0 c1 c2 c3 c4 c5 c6,vs[i*7]?=some c0/\vs[i*7+1]?=some c1/\vs[i*7+2]?=some c2/\vs[i*7+3]?=some c3/\vs[i*7+4]?=some c4/\vs[i*7+5]?=some c5/\vs[i*7+6]?=some c6/\Je P w (.agg #[c0,c1,c2,c3,c4,c5,c6]) l
 | [],_,_,i,l,q=>by simp at q
 | _::ls,_,⟨c0,c1,c2,c3,c4,c5,c6,vs',h1,h2,h3⟩,0,l,q=>by
  simp at q;subst q;subst h1;exact⟨c0,c1,c2,c3,c4,c5,c6,rfl,rfl,rfl,rfl,rfl,rfl,rfl,h2⟩
 | _::ls,_,⟨c0,c1,c2,c3,c4,c5,c6,vs',h1,h2,h3⟩,i+1,l,q=>by
  simp at q;subst h1;obtain⟨d0,d1,d2,d3,d4,d5,d6,g0,g1,g2,g3,g4,g5,g6,g7⟩:=Eh.at ls vs' h3 i l q;have e:(i+1)*7=i*7+7:=by omega
  refine⟨d0,d1,d2,d3,d4,d5,d6,?_,?_,?_,?_,?_,?_,?_,g7⟩<;>rw[e]<;>simpa using by assumption
def Kb (w:World)(b:Nat)(nm:ByteArray)(na:Int)(sl:Value):Prop:=w.heap[b]?=some (.cells #[.string nm,.int .i64 na,sl] 111 (0,0))
theorem Kb.of {w w':World}{b:Nat}{nm:ByteArray}{na:Int}{sl:Value}(h:Kb w b nm na sl){P:Nat->Prop}(f:Fr P w w')(hp:P b):Kb w' b nm na sl:=(f.block b (Ac h) hp).trans h
theorem Kb.rows {w:World}{b:Nat}{nm:ByteArray}{na:Int}{sl:Value}(h:Kb w b nm na sl)(v:Value):Kb (w.setCell ⟨b,2,none⟩ v) b nm na v:=by
 have:=Ag h 2 v;simpa [Kb] using this
def Yn (lo:Nat)(w:World)(b:Nat)(tx:List UInt8):Prop :=
 lo<=b/\∃nm na sl n vs ls,Kb w b nm na sl/\w.ownsRow lo 114 7 sl n vs/\n=ls.length/\n<=1000000/\Eh (fun k=>lo<=k) w ls vs/\tx=Cq++[32]++nm.data.toList++[10]++Db ls
theorem kX:(Tryz.prog.info? 114).map (fun i=>(i.zero,i.size,i.bytes))=some (some (.agg #[.string ⟨#[]⟩,.int .i64 0,.string ⟨#[]⟩,.int .i64 0,.slice none 0 0,.string ⟨#[]⟩,.pointer none]),7,96):=by kernel_rfl
theorem nT {a b c d e f g:Value}(ha:a.oneCell'=true)(hb:b.oneCell'=true)(hc:c.oneCell'=true)(hd:d.oneCell'=true)(he:e.oneCell'=true)(hf:f.oneCell'=true)(hg:g.oneCell'=true):∀u∈[a,b,c,d,e,f,g],u.oneCell'=true:=by
 intro u h;simp only[List.mem_cons,List.not_mem_nil,or_false] at h;rcases h with rfl|rfl|rfl|rfl|rfl|rfl|rfl<;>assumption
def jF (w:World)(br:Nat)(t:ByteArray)(r:Except (Nat×Nat) (List UInt8×Nat))(e:Ending)(w':World):Prop :=
 Fr (·≠br) w w'/\match r with
  | .ok (l,j)=>(∃b,e=.returned (.pointer (some ⟨b,0,none⟩))/\Yn w.heap.size w' b l)/\RdF w' br t j 0/\(tkF t.data.toList j).cl=0
  | .error (c,p)=>e=Flt c p
theorem fO {br bm n g cap j:Nat}{t nm:ByteArray}{na:Int}{w W8 Wa w9:World}{sl c0 c1 c2 c3 c4 c5 c6:Value}{vs:List Value}{ls:List (List UInt8)}{l:List UInt8}(hR:RdF W8 br t j 0)(hM:Kb W8 bm nm na sl)(hO:W8.ownsRow (bm+1) 114 7 sl n vs)
  (hV:Eh (fun k=>bm<k/\sl.ownBlock≠some k) W8 ls vs) (hd:Je (fun k=>bm<k/\sl.ownBlock≠some k) W8 (.agg #[c0,c1,c2,c3,c4,c5,c6]) l) (hF:Fr (·≠br) w W8) (hwb:w.heap.size<=bm) (hbr:br<bm) (hA:Fr (fun _=>True) W8 Wa)
  (ho:w9.ownsRow (bm+1) 114 7 (.slice (some ⟨g,0,none⟩) (n+1) cap) (n+1) (vs++[c0,c1,c2,c3,c4,c5,c6])) (hg:Wa.grownBy w9 sl.ownBlock) (hat:sl.ownBlock=some g\/W8.heap.size<=g) :
  Kb w9 bm nm na sl/\RdF (w9.setCell ⟨bm,2,none⟩ (.slice (some ⟨g,0,none⟩) (n+1) cap)) br t j 0/\Kb (w9.setCell ⟨bm,2,none⟩ (.slice (some ⟨g,0,none⟩) (n+1) cap)) bm nm na (.slice (some ⟨g,0,none⟩) (n+1) cap) /\
  (w9.setCell ⟨bm,2,none⟩ (.slice (some ⟨g,0,none⟩) (n+1) cap)).ownsRow (bm+1) 114 7 (.slice (some ⟨g,0,none⟩) (n+1) cap) (n+1) (vs++[c0,c1,c2,c3,c4,c5,c6]) /\
  Eh (fun k=>bm<k/\(Value.slice (some ⟨g,0,none⟩) (n+1) cap).ownBlock≠some k) (w9.setCell ⟨bm,2,none⟩ (.slice (some ⟨g,0,none⟩) (n+1) cap)) (ls++[l]) (vs++[c0,c1,c2,c3,c4,c5,c6])/\Fr (·≠br) w (w9.setCell ⟨bm,2,none⟩ (.slice (some ⟨g,0,none⟩) (n+1) cap)):=by
 have d:Fr (fun k=>sl.ownBlock≠some k) W8 w9:=(hA.mono fun _ _=>trivial).trans ⟨hg.os,hg.tape,hg.output,hg.size,fun k hk hp=>hg.block k hk (fun e=>hp e.symm)⟩;have a:∀k,k<=bm->sl.ownBlock≠some k:=fun k hk e=>by have:=(hO.lt k e).1;omega
 have f:Fr (·≠bm) w9 (w9.setCell ⟨bm,2,none⟩ (.slice (some ⟨g,0,none⟩) (n+1) cap)):=(Fr.refl _ w9).set (by simp) _;have c:=hM.of d (a bm (Nat.le_refl _));have h:∀k,k<W8.heap.size->(bm<k/\sl.ownBlock≠some k)->(bm<k/\(Value.slice (some ⟨g,0,none⟩) (n+1) cap).ownBlock≠some k):=fun k hk q=>⟨q.1,fun e=>by
   have m:g=k:=by simpa [Value.ownBlock] using e
   subst m;rcases hat with i|i
   ·exact q.2 i
   ·omega⟩
 have o:=hF.size;have b:Fr (fun k=>sl.ownBlock≠some k/\k≠bm) W8 (w9.setCell ⟨bm,2,none⟩ (.slice (some ⟨g,0,none⟩) (n+1) cap)):=(d.mono fun _ q=>q.1).trans (f.mono fun _ q=>q.2);refine⟨c,RdF.of hR b ⟨a br (by omega),by omega⟩,c.rows _,Hn ho (fun g' _ hg' hlt=>f.block g' hlt (by omega)),?_,?_⟩
 ·exact Eh.push (Je.fr (f.mono fun k q=>by omega) (fun _ _ q=>q) (hd.fr (d.mono fun _ q=>q.2) h)) _ _ (Eh.fr (f.mono fun k q=>by omega) (fun _ _ q=>q) _ _ (Eh.fr (d.mono fun _ q=>q.2) h _ _ hV))
 ·exact⟨b.os.trans hF.os,b.tape.trans hF.tape,b.output.trans hF.output,Nat.le_trans hF.size b.size,fun k hk hp=>(b.block k (by omega) ⟨a k (by omega),by omega⟩).trans (hF.block k hk hp)⟩
theorem Oy {br:Nat}{t:ByteArray}{self:Nat->Nat->Nat->RX PX}(hS:Ba br t self)(w:World)(m:Nat)(ht:t.size<=4000)(hm:m<=900000)(hI:Cd w br)(hr:RdF w br t 0 0)
  (r:Except (Nat×Nat) (List UInt8×Nat)) (h:N6 (tkF t.data.toList) self m 0=some r) :
  Calls Tryz.prog 54 #[.pointer (some ⟨br,0,none⟩)] w (jF w br t r):=by
 have HS:Hid (Ba br t self):=hS;have HI:Hid (Cd w br):=hI;have HD:Hid (∀(W:World)(m:ByteArray)(k:Nat)(b:Bool),_):=fun W m k b h=>C3 W br t m k 0 h ht b;have HX:Hid (N6 (tkF t.data.toList) self m 0=some r):=h;have R0:Hid (RdF w br t 0 0):=hr;have c8:=Ac hr;obtain⟨i0,c0,c4,c5,V⟩:∃i0,Tryz.prog.info? 114=some i0/\i0.zero=some (.agg #[.string ⟨#[]⟩,.int .i64 0,.string ⟨#[]⟩,.int .i64 0,.slice none 0 0,.string ⟨#[]⟩,.pointer none])/\i0.size=7/\i0.bytes=96:=by
  have:=kX;cases hq:Tryz.prog.info? 114 with
  | none=>rw[hq] at this;simp at this
  | some j=>rw[hq] at this;simp at this;exact⟨j,rfl,this.1,this.2.1,this.2.2⟩
 clear hI hS hr h;have mo:=follows;go_enter Tryz.func54,Tryz.ntmps54
 go_wp2_with fail
 have h:=HX.out;unfold N6 at h;rcases Bv h with⟨hb,h2⟩|⟨hb,rfl⟩
 case inr =>
  refine(HD.out w ⟨#[109,111,100,117,108,101]⟩ 0 false R0.out hb).mono ?_;rintro e B ⟨s,⟨q,-⟩|⟨-,rfl⟩⟩
  ·simp at q
  ·exact⟨rfl,s,rfl⟩
 refine(HD.out w ⟨#[109,111,100,117,108,101]⟩ 0 true R0.out hb).mono ?_;rintro e w1 ⟨s,⟨-,rfl,hr⟩|⟨q,-⟩⟩
 case inr=>simp at q
 have M:Hid (RdF w1 br t (0+1) 0):=hr;have G:Hid (Fr (·≠br) w w1):=s;clear s hr hb h HX R0;go_wp2_with fail
 rcases Ax h2 with⟨⟨c,p⟩,D,rfl⟩|⟨n,j,D,hk⟩
 ·refine(Dy w1 br t (0+1) 0 M.out ht _ D).mono ?_;rintro e B ⟨s,rfl⟩;exact⟨rfl,G.out.trans s,rfl⟩
 refine(Dy w1 br t (0+1) 0 M.out ht _ D).mono ?_;rintro e B ⟨s,rfl,hr⟩;have HN:Hid ((pcF t (0+1)).data.toList=n/\n≠[]):=Pj D;obtain⟨x,b5⟩:∃x,pcF t (0+1)=x:=⟨_,rfl⟩;obtain⟨C,a5⟩:∃C,atF t.data.toList (0+1)=C:=⟨_,rfl⟩;rw[b5] at HN |-;rw[a5];have U:Hid (RdF B br t j 0):=hr;have H:Hid (Fr (·≠br) w B):=G.out.trans s;have HK:Hid (Fo (tkF t.data.toList) self m m (Cq++[32]++n++[10]) j=some r):=hk;have V:=G.out.size;clear s hr D hk h2 b5 a5 M G;have b7:=H.out.size;have b3:=Ac U.out;have g3:Ad B (B.alloc (.cells #[.string x,.int .i64 (C:Int),.slice none 0 0] 111)):=(Ad.refl B).alloc _;have M3:Hid (Kb (B.alloc (.cells #[.string x,.int .i64 (C:Int),.slice none 0 0] 111)) B.heap.size x (C:Int) (.slice none 0 0)):=Af rfl;have R3:Hid (RdF (B.alloc (.cells #[.string x,.int .i64 (C:Int),.slice none 0 0] 111)) br t j 0):=RdF.of U.out (P:=fun _=>True) (Fr.grew g3) trivial;have F3:Hid (Fr (·≠br) w (B.alloc (.cells #[.string x,.int .i64 (C:Int),.slice none 0 0] 111))):=H.out.trans (Fr.grew g3);have T:Hid (Cq++[32]++n++[10]=Cq++[32]++x.data.toList++[10]++Db []):=by show _=_;rw[HN.out.1];simp[Db]
 clear g3;go_upto_region 3 with fail
 generalize B.alloc (.cells #[.string x,.int .i64 (C:Int),.slice none 0 0] 111)=w3 at M3 R3 F3 |-;obtain⟨f,a8⟩:∃f,B.heap.size=f:=⟨_,rfl⟩;rw[a8] at M3 b7 b3 |-;clear a8 U H V HN;have a9:f≠br:=by omega
 generalize Cq++[32]++n++[10]=acc0 at HK T;go_loopg [] (m) (fun k wr=>∃(j n:Nat)(y:List UInt8)(sl:Value)(F:List Value)(J:List (List UInt8)),n+k<=m/\Hid (RdF wr br t j 0)/\Hid (Kb wr f x (C:Int) sl)/\Hid (wr.ownsRow (f+1) 114 7 sl n F)/\Hid (Eh (fun k=>f<k/\sl.ownBlock≠some k) wr J F)/\Hid (n=J.length)/\Hid (y=Cq++[32]++x.data.toList++[10]++Db J)/\Hid (Fo (tkF t.data.toList) self m k y j=some r)/\Hid (Fr (·≠br) w wr))
 case atStart=>exact⟨j,0,acc0,.slice none 0 0,[],[],by omega,R3,M3,World.ownsRow_nil _ _ _ _,rfl,rfl,T,HK,F3⟩
 case round =>
  clear R3 M3 F3 T HK;obtain⟨j,n,y,sl,F,J,d0,M,Y,O1,V1,EN,EA,Q1,G⟩:=hrel;obtain⟨k,rfl⟩:∃k,gk=k+1:=by
   cases gk with
   | zero=>exact absurd Q1.out (by simp[Fo])
   | succ k=>exact⟨k,rfl⟩
  have S:=Q1.out;rw[Fo] at S;have N:(tkF t.data.toList j).cl=clF t.data.toList j:=rfl;have c3:=Aa M.out 3;have d1:=G.out.size;obtain⟨z,A,rfl⟩:∃z A,sl=.slice z n A:=by
   rcases O1.out.2 with⟨rfl,D⟩|⟨g,a1,c6,rfl,-⟩
   ·exact⟨none,0,by rw[D]⟩
   ·exact⟨_,a1,rfl⟩
  by_cases Z:(tkF t.data.toList j).cl=0
  ·rw[if_pos Z] at S;have HR:Hid (r=.ok (y,j)):=by simp only[okX,Option.some.injEq] at S;exact S.symm
   have HH:Hid (jF w br t r (.returned (.pointer (some ⟨f,0,none⟩))) wr):=by
    rw[HR.out];exact⟨G.out,⟨f,rfl,by omega,x,_,_,n,F,J,Y.out,Ju (by omega) O1.out,EN.out,by omega,Eh.fr (Fr.refl _ _) (fun k _ q=>by omega) _ _ V1.out,EA.out⟩,M.out,Z⟩
   rw[<- N,Z] at c3;clear S HR Y O1 V1 EN EA Q1 G M N Z;go_wp2_with fail
   go_ret
   exact HH.out
  ·rw[if_neg Z] at S;have b1:(((clF t.data.toList j:Nat):Int) != 0)=true:=by rw[<- N];simp;omega
   obtain⟨cj,b2⟩:∃cj,clF t.data.toList j=cj:=⟨_,rfl⟩;rw[b2] at c3 b1;clear N Z b2 Q1;go_wp2_with fail
   clear c3 b1;have g2:Ad wr wr.drew:=(Ad.refl _).drew;have M2:Hid (Kb wr.drew f x (C:Int) (.slice z n A)):=Y.out.of (P:=fun _=>True) (Fr.grew g2) trivial;have c2:=Aa Y.out 2;have k2:=Aa M2.out 2;have U:Hid (RdF wr.drew br t j 0):=RdF.of M.out (P:=fun _=>True) (Fr.grew g2) trivial;have H:Hid (Fr (·≠br) w wr.drew):=G.out.drew;have O2:Hid (wr.drew.ownsRow (f+1) 114 7 (.slice z n A) n F):=Hn O1.out (fun g _ _ hlt=>g2.below.block g hlt);have V2:Hid (Eh (fun k=>f<k/\(Value.slice z n A).ownBlock≠some k) wr.drew J F):=Eh.fr (Fr.grew g2) (fun _ _ q=>q) _ _ V1.out;have a7:f<wr.heap.size:=Ac Y.out;clear g2 M G O1 V1;rcases Ax S with⟨⟨c,p⟩,D,rfl⟩|⟨l,j2,D,hk⟩
   ·have HC:Hid (Calls _ _ _ _ _):=Tn HS.out wr.drew m j ht (by omega) (HI.out.fr H.out) U.out _ D;refine wp_region_any (by kernel_rfl) ?_;change wpAny _ _ _ _ _ _ _ (World.drew _);refine wpAny_take (i:=0) (v:=.pointer (some ⟨f,0,none⟩)) rfl (by kernel_rfl) (by kernel_rfl) (by kernel_rfl) (fun _ _ _ h=>h) (Or.inl ⟨by rfl,by intro w;go_simp⟩) ?_;refine wpAny_take (i:=1) (v:=.pointer (some ⟨f,0,none⟩)) rfl (by kernel_rfl) (by kernel_rfl) (by kernel_rfl) (fun _ _ _ h=>h) (Or.inl ⟨by rfl,by intro w;go_simp⟩) ?_;refine wpAny_take (i:=5) (v:=.pointer (some ⟨br,0,none⟩)) rfl (by kernel_rfl) (by kernel_rfl) (by kernel_rfl) (fun _ _ _ h=>h) (Or.inl ⟨by rfl,by intro w;go_simp⟩) ?_;refine wpAny_take (i:=2) (v:=.pointer (some ⟨f,0,none⟩)) rfl (by kernel_rfl) (by kernel_rfl) (by kernel_rfl) (fun _ _ _ h=>h) (Or.inl ⟨by rfl,by intro w;go_simp⟩) ?_;refine wpAny_take (i:=3) (v:=.pointer (some ⟨f,2,none⟩)) rfl (by kernel_rfl) (by kernel_rfl) (by kernel_rfl) (fun _ _ _ h=>h) (Or.inl ⟨by rfl,by intro w;go_simp⟩) ?_;refine wpAny_ready (rs:=[4,6]) (by kernel_rfl) (by simp) ?_;refine AllReady.cons rfl (fun K hK=>?_) (AllReady.cons rfl (fun K hK=>?_) AllReady.nil)
    ·go_simp
     refine hK _ _ ?_;clear hK K;refine wpAny_ready (rs:=[6]) (by kernel_rfl) (by simp) ?_;refine AllReady.cons rfl (fun K hK=>?_) AllReady.nil;go_simp
     refine HC.out.mono ?_;rintro e o ⟨s,rfl⟩;exact⟨rfl,H.out.trans s,rfl⟩
    ·go_simp
     refine HC.out.mono ?_;rintro e o ⟨s,rfl⟩;exact⟨rfl,H.out.trans s,rfl⟩
   have HC:Hid (Calls _ _ _ _ _):=Tn HS.out wr.drew m j ht (by omega) (HI.out.fr H.out) U.out _ D;have b4:n+1<=maxLen:=by unfold maxLen;omega
   have b0:(n+1)*96<=140737488355328:=by omega
   have b8:Hid (Fo (tkF t.data.toList) self m k (y++l++[10]) j2=some r):=hk;clear S D hk;have b6:∀g,(Value.slice z n A).ownBlock=some g->g<wr.drew.heap.size:=fun g e=>(O2.out.lt g e).2;have a0:Hid (∀(o:World)(v:Value),Fr (·≠br) wr.drew o->Je (fun k=>wr.drew.heap.size<=k) o v l->∃d a I L Q X R u O,v=.agg #[.string d,.int .i64 a,.string I,.int .i64 L,.slice Q X R,.string u,.pointer O]/\Kb o f x (C:Int) (.slice z n A)/\o.ownsRow (f+1) 114 7 (.slice z n A) n F/\(o.alloc (.cells #[.string d,.int .i64 a,.string I,.int .i64 L,.slice Q X R,.string u,.pointer O] 114)).ownsRow (f+1) 114 7 (.slice z n A) n F/\f+1<=(o.alloc (.cells #[.string d,.int .i64 a,.string I,.int .i64 L,.slice Q X R,.string u,.pointer O] 114)).heap.size/\(o.alloc (.cells #[.string d,.int .i64 a,.string I,.int .i64 L,.slice Q X R,.string u,.pointer O] 114)).heap[o.heap.size]?=some (.cells #[.string d,.int .i64 a,.string I,.int .i64 L,.slice Q X R,.string u,.pointer O] 114 (0,0))/\Eh (fun k=>f<k/\(Value.slice z n A).ownBlock≠some k) o J F/\Je (fun k=>f<k/\(Value.slice z n A).ownBlock≠some k) o v l):=by
    intro o v s hv;obtain⟨d,a,I,L,ns,u,px,E,ox,e1,e2,e3,e4⟩:=hv;obtain⟨Q,R,rfl⟩:=e2.1.slice;obtain⟨O,rfl⟩:=e3.ptr;have c7:f<wr.drew.heap.size:=by simp;exact a7
    have c1:Je (fun k=>f<k/\(Value.slice z n A).ownBlock≠some k) o v l:=Je.fr (Fr.refl _ _) (fun k _ q=>⟨by omega,fun e=>by have:=b6 k e;omega⟩) ⟨d,a,I,L,_,u,_,E,ox,e1,e2,e3,e4⟩;have a3:o.ownsRow (f+1) 114 7 (.slice z n A) n F:=Hn O2.out fun g _ hg hlt=>s.block g hlt (by omega);refine⟨d,a,I,L,Q,E.length,R,u,O,e1,M2.out.of s a9,a3,a3.alloc _,?_,Af rfl,Eh.fr (s.mono fun k q=>by omega) (fun _ _ q=>q) _ _ V2.out,c1⟩;have:=s.size;simp;omega
   go_region_law (first
    | (
     refine step_append_lies _ rfl _ _ 109 rfl (f+1) 114 i0 _ 7 96 Tryz.underlying109 c0 c4 c5 V rfl (by decide) (.slice z n A) n F (by simp[Act.eval]) OW.out _ 1 1 [.string d,.int .i64 a,.string I,.int .i64 L,.slice Q X R,.string u,.pointer O] (by simp[Act.eval]) rfl (World.news_of_block NB.out) (nT rfl rfl rfl rfl rfl rfl rfl) (by decide) b4 b0 LW.out (o.heap.size+1) (by simp) ?_;intro g a1 w9 ho hg a6 hlt;obtain⟨p1,p2,p3,p4,p5,p6⟩:=fO R8.out M8.out O8.out V8.out D8.out F8.out b7 b3 ((Fr.refl (fun _=>True) o).alloc _) ho hg (a6.imp id (fun e=>by omega));have c9:=Aa p1 2;have f9:=Ab p1 2;have l9:=Ac p1;have RZ:Hid (RdF _ _ _ _ _):=p2;have MX:Hid (Kb _ _ _ _ _):=p3;have OX:Hid (World.ownsRow _ _ _ _ _ _ _):=p4;have VX:Hid (Eh _ _ _ _):=p5;have FX:Hid (Fr _ _ _):=p6;clear ho hg a6 hlt p1 p2 p3 p4 p5 p6)
    | (go_simp;go_wp2_with (go_at_call 87;refine HC.out.mono ?_;rintro e o ⟨s,⟨v,rfl,hv⟩,hr⟩;obtain⟨d,a,I,L,Q,X,R,u,O,rfl,hM,hO,a4,hL,hN,hV,a2⟩:=a0.out o v s hv;have R8:Hid (RdF o br t j2 0):=hr;have F8:Hid (Fr (·≠br) w o):=H.out.trans s;have M8:Hid (Kb o f x (C:Int) (.slice z n A)):=hM;have O8:Hid (World.ownsRow _ _ _ _ _ _ _):=hO;have OW:Hid (World.ownsRow _ _ _ _ _ _ _):=a4;have LW:Hid (_<=_):=hL;have NB:Hid (_=_):=hN;have V8:Hid (Eh _ _ _ _):=hV;have D8:Hid (Je _ _ _ _):=a2;have k8:=Aa hM 2;have b9:f<o.heap.size:=Ac hM;clear hr s hv hM hO a4 hL hN hV a2)))
   all_goals
    clear c9 f9 l9 c2 k2 k8 b9 a0 HC LW NB OW R8 F8 M8 O8 V8 D8 U H M2 O2 V2 Y b4 b0 b6 a7;have E1:Hid (n+1=(J++[l]).length):=by show _=_;rw[List.length_append,EN.out];rfl
    have E2:Hid (y++l++[10]=Cq++[32]++x.data.toList++[10]++Db (J++[l])):=by show _=_;rw[EA.out,Mg];simp
    clear EN EA;generalize w9.setCell ⟨f,2,none⟩ _=WX at RZ MX OX VX FX |-;go_wp2_with fail
    go_roundg k
    case measure=>omega
    case rel=>exact⟨j2,n+1,y++l++[10],_,_,J++[l],by omega,RZ,MX,OX,VX,E1,E2,b8,FX⟩
end Go.Proofs.YtjbfcadeapphbaaGreatDoor.Sx
