/- The reference: how tightly a sign between two parts holds. -/
import Derived.Test.YtjbfcadeapphbaaGreatDoorE28
namespace Go.Proofs.YtjbfcadeapphbaaGreatDoor.Sx
set_option maxRecDepth 100000
set_option maxHeartbeats 8000000
open Go.RowKit Go.Sort
def aW:List ByteArray:=[⟨#[101,97,99,104]⟩,⟨#[116,104,111,115,101]⟩]
theorem Iz {l:List UInt8}(h:l∈Cy):l∈C3/\l≠Hk:=by
 simp only[Cy,List.mem_cons,List.not_mem_nil,or_false] at h;rcases h with rfl|rfl<;>decide
theorem Ym {K:Nat->Tk}{self:Nat->Nat->Nat->RX PX}{m d:Nat}{s:SX}{r:Except (Nat×Nat) (PX×Nat)}(h:Ay s (Kj K self m d)=some r) :
  (∃j,s=.ok j/\(K j).tx∈Cy/\(aW.any fun m=>isS K s m.data.toList)=true/\Ay (.ok (j+1)) (fun i=>bX (aR K self [105,110] 8 d (Cc (K j).tx) i) fun x j=>Cj K [125] j fun j=>okX x j)=some r) \/
   ((aW.any fun m=>isS K s m.data.toList)=false/\Ay s (fun j=>bX (Jc K [125] (self 0 d) m j) fun l j=>okX (Hl l) j)=some r):=by
 rcases s with e|j
 ·exact .inr ⟨rfl,h⟩
 ·have a:Kj K self m d j=some r:=h;unfold Kj at a;have b:(aW.any fun m=>isS K (.ok j) m.data.toList)=Cy.contains (K j).tx:=by
   show(((K j).tx==[101,97,99,104])||(((K j).tx==[116,104,111,115,101])||false))=_;simp only[Cy,List.contains_cons,List.contains_nil]
  cases e:Cy.contains (K j).tx with
  | true =>
   rw[e,if_pos rfl] at a;exact .inl ⟨j,rfl,by simpa using e,by rw[b,e],a⟩
  | false =>
   rw[e,if_neg (by simp)] at a;exact .inr ⟨by rw[b,e],a⟩
theorem Vc {K:Nat->Tk}{N br bl:Nat}{self:Nat->Nat->Nat->RX PX}(hS:Cv K N br bl self)(hK:∀i,Bz (K i))(hL:Bn K N)(hN:N<=1000000)(w:World)(d m i:Nat)(hd:d<=24)(hm:m<=1000000)(h:RSd K N w br bl (.ok i) d)
  (hc1:(K i).cl≠1) (hk:(K i).tx=[123]) (r:Except (Nat×Nat) (PX×Nat)) (hr:Bp K self m d i=some r) :
  Calls Tryz.prog 75 #[.pointer (some ⟨br,0,none⟩)] w (Cd K N w br bl d r):=by
 have d9:i<N:=hL.lt h.le (m:=[123]) (by rw[hk];rfl) (by decide);have c5:(K i).cl=4:=by
  have h1:=Hb (hK i) (by decide) hk;omega
 have d5:Hid ((Gq.any fun m=>isS K (.ok i) m.data.toList)=true):=by show(Gq.any fun m=>(K i).tx==m.data.toList)=true;rw[hk];rfl
 have a8:Hid (Cs K d i (fun j=>Kj K self m (d+1) j)=some r):=by
  have a5:=hr;unfold Bp at a5;rw[hk,if_neg (by decide),if_pos (by decide)] at a5;exact a5
 have HS:Hid (Cv K N br bl self):=hS;have HK:Hid (∀i,Bz (K i)):=hK;have HL:Hid (Bn K N):=hL;have HR:Hid (RSd K N w br bl (.ok i) d):=h;obtain⟨f2,f0,dd,hb,hI,f4,b8,t0,t1,t2⟩:=h.open;obtain⟨v,u0,u1,u2⟩:=RS.cells hb b8 t0 t1 t2;have c0:=Aa hb 0;have c1:=Aa hb 1;have k0:=Aa v 0;have k1:=Aa v 1;have d7:=Ab hb;have b5:(i:Int)<((N+1:Nat):Int):=by omega
 have mo:=follows;have d1:Bg (K i).cl=111:=by rw[c5];rfl
 obtain⟨tx,W⟩:∃tx,B2 (K i)=tx:=⟨_,rfl⟩;obtain⟨g,a2⟩:∃g,(K i).at'=g:=⟨_,rfl⟩;have e9:Hid (B2 (K i)=tx):=W;have e8:Hid ((K i).at'=g):=a2;rw[d1] at t0 u0;rw[W] at t1 u1;rw[a2] at t2 u2;have d3:tx.data.toList=[123]:=by rw[<- W];exact C8 hK (by decide) hk
 have c7:(tx.toList==[40])=false/\(tx.toList==[60,60])=false/\(tx.toList==[91])=false/\(tx.toList==[123])=true:=by rw[ByteArray.toList_eq,d3];decide
 have a9:Hid ((tx.toList==[40])=false/\(tx.toList==[60,60])=false/\(tx.toList==[91])=false/\(tx.toList==[123])=true):=c7;clear hk hc1 c5 hr d3 c7;clear hb v h hS hK hL d1 W a2;go_enter Tryz.func75,Tryz.ntmps75
 go_wp2_with fail
 go_big_region_o
 have T1:Hid (Ap _ w.heap.size 111 tx (g:Int)):=Ap.new w 111 tx (g:Int);have G1:Hid (Ad w (w.alloc (.cells #[.int .u8 111,.string tx,.int .i64 (g:Int)] 55)).drew):=((Ad.refl w).alloc _).drew;clear c0 c1 k0 k1 u0 u1 u2 t0 t1 t2 b5;generalize (w.alloc (.cells #[.int .u8 111,.string tx,.int .i64 (g:Int)] 55)).drew=W1 at G1 T1 |-;obtain⟨R,c2⟩:∃R,w.heap.size=R:=⟨_,rfl⟩;rw[c2] at T1 d7 |-;have f6:w.heap.size<=R:=by omega
 have f5:R<=w.heap.size:=by omega
 clear c2;have q0:=Aa T1.out 0;have q1:=Aa T1.out 1;have q2:=Aa T1.out 2;have E2:Hid (Ao (W1.alloc (.cells #[.string ⟨#[]⟩,.int .i64 (g:Int),.string ⟨#[]⟩,.int .i64 0,.int .i64 0,.string ⟨#[]⟩,.slice none 0 0,.slice none 0 0,.slice none 0 0,.int .i64 0,.int .i64 0] 95)) W1.heap.size ⟨#[]⟩ (g:Int) ⟨#[]⟩ 0 0 ⟨#[]⟩ none 0 0):=Ao.new W1 ⟨#[]⟩ ⟨#[]⟩ ⟨#[]⟩ (g:Int) 0 0;have G2:Hid (Ad w (W1.alloc (.cells #[.string ⟨#[]⟩,.int .i64 (g:Int),.string ⟨#[]⟩,.int .i64 0,.int .i64 0,.string ⟨#[]⟩,.slice none 0 0,.slice none 0 0,.slice none 0 0,.int .i64 0,.int .i64 0] 95))):=G1.out.alloc _;have T2:Hid (Ap (W1.alloc (.cells #[.string ⟨#[]⟩,.int .i64 (g:Int),.string ⟨#[]⟩,.int .i64 0,.int .i64 0,.string ⟨#[]⟩,.slice none 0 0,.slice none 0 0,.slice none 0 0,.int .i64 0,.int .i64 0] 95)) R 111 tx (g:Int)):=T1.out.grew ((Ad.refl _).alloc _);have c3:R<W1.heap.size:=Ab T1.out;have J:w.heap.size<=W1.heap.size:=G1.out.below.size;have R2:Hid (RSd K N (W1.alloc (.cells #[.string ⟨#[]⟩,.int .i64 (g:Int),.string ⟨#[]⟩,.int .i64 0,.int .i64 0,.string ⟨#[]⟩,.slice none 0 0,.slice none 0 0,.slice none 0 0,.int .i64 0,.int .i64 0] 95)) br bl (.ok i) d):=HR.out.grew G2.out;have e3:World.cell? (W1.alloc (.cells #[.string ⟨#[]⟩,.int .i64 (g:Int),.string ⟨#[]⟩,.int .i64 0,.int .i64 0,.string ⟨#[]⟩,.slice none 0 0,.slice none 0 0,.slice none 0 0,.int .i64 0,.int .i64 0] 95)) ⟨br,3,none⟩=some (.int .i64 0):=R2.out.err.1;have p0:=Aa T2.out 0;have p1:=Aa T2.out 1;have p2:=Aa T2.out 2;go_wp2_with fail
 have X:(World.heap (W1.alloc (.cells #[.string ⟨#[]⟩,.int .i64 (g:Int),.string ⟨#[]⟩,.int .i64 0,.int .i64 0,.string ⟨#[]⟩,.slice none 0 0,.slice none 0 0,.slice none 0 0,.int .i64 0,.int .i64 0] 95))).size=W1.heap.size+1:=D7 W1 _;clear q0 q1 q2 p0 p1 p2 e3 T1 G1;generalize (W1.alloc (.cells #[.string ⟨#[]⟩,.int .i64 (g:Int),.string ⟨#[]⟩,.int .i64 0,.int .i64 0,.string ⟨#[]⟩,.slice none 0 0,.slice none 0 0,.slice none 0 0,.int .i64 0,.int .i64 0] 95))=W2 at E2 G2 T2 R2 X |-;obtain⟨c,b7⟩:∃c,W1.heap.size=c:=⟨_,rfl⟩;rw[b7] at E2 c3 J X |-;clear b7;have p:c≠br:=by omega
 have e6:bl<w.heap.size:=b8;have B:c≠bl:=by omega
 rw[<- X];clear X;have c4:R≠br:=by omega
 have e5:c≠R:=by omega
 refine(D0 HK.out W2 br bl (.ok i) d _ Gq 4 true rfl (by decide) rfl (by decide) d5.out R2.out).mono ?_;rintro e W3 ⟨rfl,g3⟩;have R3:Hid (RSd K N W3 br bl (.ok i) d):=R2.out.grew g3;have G3:Hid (Ad w W3):=G2.out.trans g3;have E3:Hid (Ao W3 c ⟨#[]⟩ (g:Int) ⟨#[]⟩ 0 0 ⟨#[]⟩ none 0 0):=E2.out.of (P:=fun _=>True) (Fr.grew g3) trivial;have T3:Hid (Ap W3 R 111 tx (g:Int)):=T2.out.grew g3;clear g3 R2 G2 E2 T2;go_wp2_with fail
 refine(Hf hN W3 br bl i d hd d9 R3.out).mono ?_;rintro e f ⟨rfl,c8,U⟩;have Q:Hid (RSd K N f br bl (inS K i d) (d+1)):=c8;have Z:Hid (Fr (·≠br) w f):=(Fr.grew G3.out).trans U;have D:Hid (Ao f c ⟨#[]⟩ (g:Int) ⟨#[]⟩ 0 0 ⟨#[]⟩ none 0 0):=E3.out.of U p;have T4:Hid (Ap f R 111 tx (g:Int)):=T3.out.fr U c4;clear c8 U R3 G3 E3 T3;have q1:=Aa T4.out 1;have a1:Hid _:=Ym (Fa a8.out);clear a8;obtain⟨n1,n2,n3,n4⟩:=a9.out;obtain⟨f3,hA,-⟩:=Q.out;obtain⟨e4,s,e2,T,d6,e7,b9,t0,t1,t2,d0⟩:=hA.open;have b1:Hid (∀i1,inS K i d=.ok i1->s=i1):=d0;obtain⟨v,u0,u1,u2⟩:=RS.cells T b9 t0 t1 t2;have c0:=Aa T 0;have c1:=Aa T 1;have k0:=Aa v 0;have k1:=Aa v 1;have b5:(s:Int)<((N+1:Nat):Int):=by omega
 obtain⟨M,a7⟩:∃M,B2 (K s)=M:=⟨_,rfl⟩;have b3:Hid (B2 (K s)=M):=a7;rw[a7] at t1 u1;clear hA T d0 v a7 t0 t2 u0 u2;go_wp2_with fail
 go_big_region_o
 have E:Hid (RSd K N f.drew br bl (inS K i d) (d+1)):=Q.out.grew (Ad.refl _).drew;have O:Hid (Fr (·≠br) w f.drew):=Z.out.drew;have u:Hid (Ao f.drew c ⟨#[]⟩ (g:Int) ⟨#[]⟩ 0 0 ⟨#[]⟩ none 0 0):=D.out.of (P:=fun _=>True) (Fr.grew (Ad.refl _).drew) trivial;clear c0 c1 k0 k1 t1 u1 q1 n1 n2 n3 n4 a9 Q Z D T4;generalize f.drew=WA at E O u |-;go_wp2_with fail
 rcases a1.out with⟨j,hj,V,F,G⟩|⟨F,G⟩
 ·refine(D0 HK.out WA br bl _ (d+1) _ aW 2 true rfl (by decide) rfl (by decide) F E.out).mono ?_;rintro e f ⟨rfl,S⟩;rw[hj] at E;obtain rfl:s=j:=b1.out j hj;have b0:Hid ((K s).tx∈Cy):=V;have d8:d+1<=24:=Ft hd ⟨_,hj⟩;have Q:Hid (RSd K N f br bl (.ok s) (d+1)):=E.out.grew S;have Z:Hid (Fr (·≠br) w f):=O.out.trans (Fr.grew S);have D:Hid (Ao f c ⟨#[]⟩ (g:Int) ⟨#[]⟩ 0 0 ⟨#[]⟩ none 0 0):=u.out.of (P:=fun _=>True) (Fr.grew S) trivial;have b2:Hid (M.data.toList=(K s).tx):=by show _=_;rw[<- b3.out];exact C8 HK.out (Iz V).1 rfl
  have e0:s<N:=HL.out.lt d6 (m:=(K s).tx) (by simp) (Iz V).1;obtain⟨L,h1,G⟩:=Bx noX G;have G:=Eu G;have HQ:Hid (stX r=Cl K (stX L) [125]/\∀y j,r=.ok (y,j)->y=Au noX L):=Dm G;have H1:Hid (Ay (.ok (s+1)) (aR K self [105,110] 8 (d+1) (Cc (K s).tx))=some L):=h1;clear S E O u F h1 G hj V a1 b1 b3;obtain⟨e1,f1⟩:=Q.out.block;have x0:=Aa D.out 0;have y0:=Ac D.out 0;have A:Fr (·≠c) (f.setCell ⟨br,1,none⟩ (.int .i64 ((s:Int)+1))) ((f.setCell ⟨br,1,none⟩ (.int .i64 ((s:Int)+1))).setCell ⟨c,0,none⟩ (.string M)):=(Fr.refl _ _).set (by simp) _;have u:Hid (Ao ((f.setCell ⟨br,1,none⟩ (.int .i64 ((s:Int)+1))).setCell ⟨c,0,none⟩ (.string M)) c M (g:Int) ⟨#[]⟩ 0 0 ⟨#[]⟩ none 0 0):=(D.out.of (P:=(·≠br)) ((Fr.refl _ f).set (by simp) _) p).op _;have R6:Hid (RSd K N ((f.setCell ⟨br,1,none⟩ (.int .i64 ((s:Int)+1))).setCell ⟨c,0,none⟩ (.string M)) br bl (.ok (s+1)) (d+1)):=(Q.out.next e0).fr A (Ne.symm p) (Ne.symm B);have F6:Hid (Fr (·≠br) w ((f.setCell ⟨br,1,none⟩ (.int .i64 ((s:Int)+1))).setCell ⟨c,0,none⟩ (.string M))):=Fr.freshT (Z.out.set (by simp) _) (A.mono fun _ q=>q.2) J;clear A;go_wp2_with fail
  clear x0 y0 e1 f1 Q Z D;generalize ((f.setCell ⟨br,1,none⟩ (.int .i64 ((s:Int)+1))).setCell ⟨c,0,none⟩ (.string M))=W5 at u R6 F6 |-;have b6:c<W5.heap.size:=Ab u.out;have d4:=F6.out.size;refine(H7 HS.out HK.out HL.out hN W5 c (d+1) (.ok (s+1)) M (g:Int) (fun _=>d8) p B R6.out u.out ⟨#[105,110]⟩ 8 (Cc (K s).tx) (.inr ⟨by rw[b2.out];exact(Iz b0.out).2,rfl,rfl⟩) (fun n a b=>by rw[b2.out];exact(.inr (.inr (.inr (.inr (.inr (.inr (.inr (.inr (.inr (.inr (.inr (.inr (.inl ⟨.inr b0.out,_,_,rfl,rfl⟩)))))))))))))) L H1.out).mono ?_;rintro e t ⟨rfl,C,H,d2⟩;have R7:Hid (RSd K N t br bl (stX L) (d+1)):=H;have F7:Hid (Fr (·≠br) w t):=Fr.freshT F6.out C J;have P7:Hid (∀x j,L=.ok (x,j)->Ag (fun k=>k=c\/W5.heap.size<=k) t x (.pointer (some ⟨c,0,none⟩))):=d2;clear C H d2 R6 F6 u;go_wp2_with fail
  refine(Dz HK.out HL.out t br bl _ (d+1) ⟨#[125]⟩ (by decide) hN R7.out).mono ?_;rintro e W7 ⟨rfl,c9,a3⟩;have R8:Hid (RSd K N W7 br bl (Cl K (stX L) [125]) (d+1)):=c9;have F8:Hid (Fr (·≠br) w W7):=F7.out.trans a3;have P8:Hid (∀x j,L=.ok (x,j)->Ag (fun k=>k=c\/W5.heap.size<=k) W7 x (.pointer (some ⟨c,0,none⟩))):=fun x j e=>(P7.out x j e).fr (a3.mono fun k q=>by omega) fun _ _ q=>q;clear c9 a3 R7 F7 P7;go_wp2_with fail
  refine(Ec W7 br bl _ d hd R8.out).mono ?_;rintro e W8 ⟨rfl,I,z⟩;have R9:Hid (RSd K N W8 br bl (Cl K (stX L) [125]) d):=I;have F9:Hid (Fr (·≠br) w W8):=F8.out.trans z;have P9:Hid (∀x j,L=.ok (x,j)->Ag (fun k=>w.heap.size<=k) W8 x (.pointer (some ⟨c,0,none⟩))):=fun x j e=>(P8.out x j e).fr (z.mono fun k q=>by omega) fun _ _ q=>by omega
  clear I z R8 F8 P8;go_wp2_with fail
  go_ret
  refine⟨F9.out,by rw[HQ.out.1];exact R9.out,c,rfl,fun x j e=>?_⟩;have o:OkS (stX L):=Di (by rw[<- HQ.out.1];exact Ee e);obtain⟨j1,e1⟩:=Cp noX o;rw[HQ.out.2 x j e];exact P9.out _ _ e1
 ·refine(D0 HK.out WA br bl _ (d+1) _ aW 2 false rfl (by decide) rfl (by decide) F E.out).mono ?_;rintro e f ⟨rfl,S⟩;have Q:Hid (RSd K N f br bl (inS K i d) (d+1)):=E.out.grew S;have Z:Hid (Fr (·≠br) w f):=O.out.trans (Fr.grew S);have D:Hid (Ao f c ⟨#[]⟩ (g:Int) ⟨#[]⟩ 0 0 ⟨#[]⟩ none 0 0):=u.out.of (P:=fun _=>True) (Fr.grew S) trivial;clear S E O u F;obtain⟨Y,hl,G⟩:=Bx [] G;have HQ:Hid (stX r=stX Y/\∀y j,r=.ok (y,j)->y=Hl (Au [] Y)):=Dm G;have H1:Hid (Ay (inS K i d) (Jc K [125] (self 0 (d+1)) m)=some Y):=hl;clear hl G a1;have x0:=Aa D.out 0;have y0:=Ac D.out 0;have A:Fr (·≠c) f (f.setCell ⟨c,0,none⟩ (.string ⟨#[115,101,116]⟩)):=(Fr.refl _ f).set (by simp) _;have u:Hid (Ao (f.setCell ⟨c,0,none⟩ (.string ⟨#[115,101,116]⟩)) c ⟨#[115,101,116]⟩ (g:Int) ⟨#[]⟩ 0 0 ⟨#[]⟩ none 0 0):=D.out.op _;have E:Hid (RSd K N (f.setCell ⟨c,0,none⟩ (.string ⟨#[115,101,116]⟩)) br bl (inS K i d) (d+1)):=Q.out.fr A (Ne.symm p) (Ne.symm B);have O:Hid (Fr (·≠br) w (f.setCell ⟨c,0,none⟩ (.string ⟨#[115,101,116]⟩))):=Fr.freshT Z.out (A.mono fun _ q=>q.2) J;clear A;go_wp2_with fail
  clear x0 y0 Q Z D;generalize f.setCell ⟨c,0,none⟩ (.string ⟨#[115,101,116]⟩)=W5 at u E O |-;refine(M0 HS.out HK.out HL.out hN W5 (d+1) m _ ⟨#[125]⟩ (Ft hd) hm (by decide) (by decide) E.out Y H1.out).mono ?_;rintro e t ⟨C,H,a6,l6,c6,rfl,a0⟩;have R6:Hid (RSd K N t br bl (stX Y) (d+1)):=H;have F6:Hid (Fr (·≠br) w t):=O.out.trans C;have E6:Hid (Ao t c ⟨#[115,101,116]⟩ (g:Int) ⟨#[]⟩ 0 0 ⟨#[]⟩ none 0 0):=u.out.of C p;have b4:Hid (∀l j,Y=.ok (l,j)->Bh (fun k=>W5.heap.size<=k) t (Ag (fun k=>W5.heap.size<=k) t) a6 l6 l):=a0;have d4:=O.out.size;have b6:c<W5.heap.size:=Ab u.out;clear C H a0 E O u;have x8:=Aa E6.out 8;have g8:=Ac E6.out 8;have a4:Fr (·≠c) t (t.setCell ⟨c,8,none⟩ (.slice a6 l6 c6)):=(Fr.refl _ t).set (by simp) _;have R7:Hid (RSd K N (t.setCell ⟨c,8,none⟩ (.slice a6 l6 c6)) br bl (stX Y) (d+1)):=R6.out.fr a4 (Ne.symm p) (Ne.symm B);have F7:Hid (Fr (·≠br) w (t.setCell ⟨c,8,none⟩ (.slice a6 l6 c6))):=Fr.freshT F6.out (a4.mono fun _ q=>q.2) J;have T7:Hid (∀x j,r=.ok (x,j)->Ag (fun k=>k=c\/w.heap.size<=k) (t.setCell ⟨c,8,none⟩ (.slice a6 l6 c6)) x (.pointer (some ⟨c,0,none⟩))):=fun x j e=>by
   have o:OkS (stX Y):=by rw[<- HQ.out.1];exact Ee e
   obtain⟨j1,e1⟩:=Cp [] o;rw[HQ.out.2 x j e];exact Hu E6.out b6 d4 (b4.out _ _ e1) (.inr (.inr (.inr (.inr (.inr (.inl ⟨rfl,rfl⟩))))))
  clear a4;go_wp2_with fail
  clear x8 g8 R6 F6 E6 b4;generalize t.setCell ⟨c,8,none⟩ (.slice a6 l6 c6)=W7 at R7 F7 T7 |-;refine(Ec W7 br bl _ d hd R7.out).mono ?_;rintro e W8 ⟨rfl,I,z⟩;have R8:Hid (RSd K N W8 br bl (stX Y) d):=I;have F8:Hid (Fr (·≠br) w W8):=F7.out.trans z;have T8:Hid (∀x j,r=.ok (x,j)->Ag (fun k=>w.heap.size<=k) W8 x (.pointer (some ⟨c,0,none⟩))):=fun x j e=>(T7.out x j e).fr (z.mono fun k q=>by omega) fun _ _ q=>by omega
  clear I z R7 F7 T7;go_wp2_with fail
  go_ret
  exact⟨F8.out,by rw[HQ.out.1];exact R8.out,c,rfl,T8.out⟩
def Ss (t:Tk):Prop:=t.cl=2->(∀c∈t.tx,Av c=true)/\Lib.parseIntB 64 t.tx=if Gs 0 t.tx<9223372036854775808 then .ok (Gs 0 t.tx:Int) else .range
theorem Vd {K:Nat->Tk}{N br bl:Nat}{self:Nat->Nat->Nat->RX PX}(hS:Cv K N br bl self)(hK:∀i,Bz (K i))(hL:Bn K N)(hN:N<=1000000)(hz:∀i,(K i).tx.length<=4000)(hn:∀i,Ss (K i))(w:World)(d m:Nat)(s:SX)(hd:OkS s->d<=24)(hm:m<=1000000)(h:RSd K N w br bl s d)
  (r:Except (Nat×Nat) (PX×Nat)) (hr:Ay s (Eh K self m d)=some r) :
  Calls Tryz.prog 75 #[.pointer (some ⟨br,0,none⟩)] w (Cd K N w br bl d r):=by
 rcases s with q|i
 ·obtain rfl:.error q=r:=by simpa [Ay] using hr
  exact Qr w d q h
 ·have hd:=hd ⟨i,rfl⟩;have a:Eh K self m d i=some r:=hr;unfold Eh at a;by_cases c:(K i).cl=2
  ·rw[if_pos c] at a;exact U6 hK hL hN w d i h c (hz i) (hn i c).1 (hn i c).2 r a
  rw[if_neg c] at a;by_cases e:(K i).cl=3
  ·rw[if_pos e] at a;simp only[okX,Option.some.injEq] at a;rw[<- a];exact Sr hK hL hN w d i h e (hz i)
  rw[if_neg e] at a;by_cases b:(K i).cl=1
  ·rw[if_pos b] at a;exact Sq hS hK hL hN w d m i hd hm h b r a
  rw[if_neg b] at a;by_cases f:(K i).tx=[40]
  ·exact U8 hS hK hL hN w d m i hd h b f r a
  by_cases g:(K i).tx=[123]
  ·exact Vc hS hK hL hN w d m i hd hm h b g r a
  by_cases j:(K i).tx=[60,60]
  ·exact U9 hS hK hL hN w d m i hd hm h b j r a
  by_cases k:(K i).tx=[91]
  ·exact Va hS hK hL hN w d m i hd hm h b k r a
  have l:((K i).tx==[40])=false:=by simpa using f
  have n:((K i).tx==[123])=false:=by simpa using g
  have o:((K i).tx==[60,60])=false:=by simpa using j
  have p:((K i).tx==[91])=false:=by simpa using k
  unfold Bp at a;rw[l,if_neg (by simp),n,if_neg (by simp),o,if_neg (by simp),p,if_neg (by simp)] at a;simp only[Cz,Option.some.injEq] at a;rw[<- a];refine Vb hK hL w d i h ⟨b,c,e⟩ ?_;show(((K i).tx==[40])||(((K i).tx==[123])||(((K i).tx==[60,60])||(((K i).tx==[91])||false))))=false;rw[l,n,o,p];rfl
theorem St (s:ByteArray)(w:World)(h:s.data.toList∈Dr.map Prod.fst):Calls Tryz.prog 48 #[.string s] w fun e w'=>e=.returned (.int .i64 (Ah s.data.toList:Int))/\w'=w:=by
 have c:=follows;simp only[Dr,List.map_cons,List.map_nil,List.mem_cons,List.not_mem_nil,or_false] at h;obtain⟨v,a⟩:∃v,Ah s.data.toList=v:=⟨_,rfl⟩;rw[a];have b:s=⟨⟨s.data.toList⟩⟩:=by cases s;rfl
 generalize s.data.toList=l at h b a;subst b;rcases h with rfl|rfl|rfl|rfl|rfl|rfl|rfl|rfl|rfl|rfl|rfl|rfl|rfl|rfl|rfl|rfl|rfl|rfl|rfl|rfl|rfl|rfl|rfl|rfl|rfl
 all_goals
  obtain rfl:=a;go_enter Tryz.func48,Tryz.ntmps48
  go_wp2_with fail
  go_ret
  exact⟨rfl,rfl⟩
theorem Su (s:ByteArray)(w:World)(h:s.data.toList ∉ Dr.map Prod.fst):Calls Tryz.prog 48 #[.string s] w fun e w'=>e=.returned (.int .i64 0)/\w'=w:=by
 have E:=follows;simp only[Dr,List.map_cons,List.map_nil,List.mem_cons,List.not_mem_nil,or_false,not_or] at h;have D:s.toList=s.data.toList:=by rw[ByteArray.toList_eq]
 rw[<- D] at h;obtain⟨t,u,v,x,y,z,A,B,C,a,b,c,d,f,g,i,j,k,l,m,n,o,p,q,r⟩:=h;replace t:=beq_eq_false_iff_ne.2 t;replace u:=beq_eq_false_iff_ne.2 u;replace v:=beq_eq_false_iff_ne.2 v;replace x:=beq_eq_false_iff_ne.2 x;replace y:=beq_eq_false_iff_ne.2 y;replace z:=beq_eq_false_iff_ne.2 z;replace A:=beq_eq_false_iff_ne.2 A;replace B:=beq_eq_false_iff_ne.2 B;replace C:=beq_eq_false_iff_ne.2 C;replace a:=beq_eq_false_iff_ne.2 a;replace b:=beq_eq_false_iff_ne.2 b;replace c:=beq_eq_false_iff_ne.2 c;replace d:=beq_eq_false_iff_ne.2 d;replace f:=beq_eq_false_iff_ne.2 f;replace g:=beq_eq_false_iff_ne.2 g;replace i:=beq_eq_false_iff_ne.2 i;replace j:=beq_eq_false_iff_ne.2 j;replace k:=beq_eq_false_iff_ne.2 k;replace l:=beq_eq_false_iff_ne.2 l;replace m:=beq_eq_false_iff_ne.2 m;replace n:=beq_eq_false_iff_ne.2 n;replace o:=beq_eq_false_iff_ne.2 o;replace p:=beq_eq_false_iff_ne.2 p;replace q:=beq_eq_false_iff_ne.2 q;replace r:=beq_eq_false_iff_ne.2 r;clear D;go_enter Tryz.func48,Tryz.ntmps48
 go_wp2_with fail
 go_ret
 exact⟨rfl,rfl⟩
theorem M1 (s:ByteArray)(w:World):Calls Tryz.prog 48 #[.string s] w fun e w'=>e=.returned (.int .i64 (Ah s.data.toList:Int))/\w'=w:=by
 by_cases h:s.data.toList∈Dr.map Prod.fst
 ·exact St s w h
 ·have e:Ah s.data.toList=0:=by unfold Ah;rw[En _ h];rfl
  rw[e];exact Su s w h
end Go.Proofs.YtjbfcadeapphbaaGreatDoor.Sx
