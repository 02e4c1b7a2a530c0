/- The reference: what an expression begins with: numbers. -/
import Derived.Test.YtjbfcadeapphbaaGreatDoorF22
namespace Go.Proofs.YtjbfcadeapphbaaGreatDoor.Sx
set_option maxRecDepth 100000
set_option maxHeartbeats 2000000
open Go.RowKit Go.Sort
theorem RSd.le {K:Nat->Tk}{N br bl i d:Nat}{w:World}(h:RSd K N w br bl (.ok i) d):i<=N:=by
 obtain⟨b,a,e,f,c,-⟩:=h.open;exact c
theorem eE {t:ByteArray}(h1:Gh.contains t.data.toList=false)(h2:Cs.contains t.data.toList=false) :
  (t.toList==[110,105,108])=false/\(t.toList==[116,114,117,101])=false/\(t.toList==[102,97,108,115,101])=false/\(t.toList==[115,105,122,101])=false/\(t.toList==[108,101,110])=false /\
   (t.toList==[104,101,97,100])=false/\(t.toList==[116,97,105,108])=false/\(t.toList==[97,112,112,101,110,100])=false/\(t.toList==[118,97,108,117,101,115])=false/\(t.toList==[115,101,113,115])=false:=by
 rw[ByteArray.toList_eq];simp only[Gh,Cs,List.contains_cons,List.contains_nil,Bool.or_eq_false_iff,Bool.or_false] at h1 h2;exact⟨h1.1,h1.2.1,h1.2.2,h2⟩
theorem Xi {K:Nat->Tk}{self:Nat->Nat->Nat->RX PX}{m d i:Nat}{r:Except (Nat×Nat) (PX×Nat)}(h:Hq K self m d i=some r) :
  ∃rn,Au K i=some rn/\((isS K (stX rn) [40]=true/\isS K (stX rn) [39]=false/\∃j,stX rn=.ok j/\(K j).tx=[40]/\Ke K self m (Ao [] rn) d j=some r) \/
   (isS K (stX rn) [40]=false/\isS K (stX rn) [39]=true/\∃j,stX rn=.ok j/\(K j).tx=[39]/\.ok (Cw (Ao [] rn++[39]),j+1)=r) \/
   (isS K (stX rn) [40]=false/\isS K (stX rn) [39]=false/\stX r=stX rn/\∀y j,r=.ok (y,j)->y=Cw (Ao [] rn))):=by
 unfold Hq at h;obtain⟨rn,k,g⟩:=A3 [] (s:=.ok i) (f:=Au K) h;refine⟨rn,k,?_⟩;rcases rn with e|⟨n,j⟩
 ·obtain rfl:.error e=r:=by simpa [Az,stX] using g
  exact .inr (.inr ⟨rfl,rfl,rfl,fun y j q=>by simp at q⟩)
 ·have c:(if (K j).tx==[39] then okX (Cw (n++[39])) (j+1) else if (K j).tx==[40] then Ke K self m n d j else okX (Cw n) j)=some r:=g;cases a:((K j).tx==[39]) with
  | true =>
   have e:(K j).tx=[39]:=by simpa using a
   rw[a,if_pos rfl] at c;obtain rfl:.ok (Cw (n++[39]),j+1)=r:=by simpa [okX] using c
   exact .inr (.inl ⟨by show((K j).tx==[40])=false;rw[e];rfl,a,j,rfl,e,rfl⟩)
  | false =>
   rw[a,if_neg (by simp)] at c;cases b:((K j).tx==[40]) with
   | true =>
    rw[b,if_pos rfl] at c;exact .inl ⟨b,a,j,rfl,by simpa using b,c⟩
   | false =>
    rw[b,if_neg (by simp)] at c;obtain rfl:.ok (Cw n,j)=r:=by simpa [okX] using c
    exact .inr (.inr ⟨b,a,rfl,fun y j q=>by simp at q;exact q.1.symm⟩)
theorem Xj {K:Nat->Tk}{N br bl:Nat}{self:Nat->Nat->Nat->RX PX}(hS:Ch K N br bl self)(hK:∀i,Bs (K i))(hL:Bi K N)(hN:N<=1000000)(w:World)(be d m i:Nat)(a0:Int)(hd:d<=24)(hm:m<=1000000)(hbe:be≠br)(hbl0:be≠bl)(h:RSd K N w br bl (.ok i) d)(he:Av w be ⟨#[]⟩ a0 ⟨#[]⟩ 0 0 ⟨#[]⟩ none 0 0)
  (hk:(K i).cl=1) (hk3:Gh.contains (K i).tx=false) (hk7:Cs.contains (K i).tx=false) (r:Except (Nat×Nat) (PX×Nat)) (hr:Ge K self m d i=some r) :
  Calls Tryz.prog 107 #[.pointer (some ⟨br,0,none⟩),.pointer (some ⟨be,0,none⟩)] w (Nb K N w br bl be d r):=by
 have HR:Hid (RSd K N w br bl (.ok i) d):=h;have HE:Hid (Av w be ⟨#[]⟩ a0 ⟨#[]⟩ 0 0 ⟨#[]⟩ none 0 0):=he;obtain⟨d2,d1,dd,hb,hI,d3,c3,t0,t1,t2⟩:=h.open;obtain⟨J,u0,u1,u2⟩:=RS.cells hb c3 t0 t1 t2;have c0:=Aa hb 0;have c1:=Aa hb 1;have k0:=Aa J 0;have k1:=Aa J 1;have c4:=Ac hb;have b9:(i:Int)<((N+1:Nat):Int):=by omega
 have mo:=follows;have HS:Hid (Ch K N br bl self):=hS;have HK:Hid (∀i,Bs (K i)):=hK;have HL:Hid (Bi K N):=hL;obtain⟨tx,V⟩:∃tx,Cf (K i)=tx:=⟨_,rfl⟩;have U:tx.data.toList=(K i).tx:=by rw[<- V];exact Ga _ (by omega)
 have b7:Hid _:=eE (t:=tx) (by rw[U];exact hk3) (by rw[U];exact hk7);have A:Hq K self m d i=some r:=by
  unfold Ge at hr;rw[if_neg (by rw[hk3];simp),if_neg (by rw[hk7];simp)] at hr;exact hr
 obtain⟨b,a6,a7⟩:=Xi A;have b8:Hid (Az (.ok i) (Au K)=some b):=a6;have a1:Hid _:=a7;clear A a6 a7;obtain⟨sb,b3⟩:∃sb,Bn (K i).cl=sb:=⟨_,rfl⟩;obtain⟨aa,a3⟩:∃aa,(K i).at'=aa:=⟨_,rfl⟩;rw[b3] at t0 u0;rw[V] at t1 u1;rw[a3] at t2 u2;have a4:=Ac he;clear hb J h hK hL b3 V a3 hr hk hk3 hk7 he hS U;go_enter Tryz.func107,Tryz.ntmps107
 go_wp2_with fail
 go_big_region_o
 have T1:Hid (Ap _ w.heap.size sb tx (aa:Int)):=Ap.new w sb tx (aa:Int);have Y:Hid (Ad w (w.alloc (.cells #[.int .u8 (sb:Int),.string tx,.int .i64 (aa:Int)] 55)).drew):=((Ad.refl w).alloc _).drew;clear c0 c1 k0 k1 u0 u1 u2 t0 t1 t2 b9;generalize (w.alloc (.cells #[.int .u8 (sb:Int),.string tx,.int .i64 (aa:Int)] 55)).drew=W1 at Y T1 |-;obtain⟨bt,a5⟩:∃bt,w.heap.size=bt:=⟨_,rfl⟩;rw[a5] at T1 c4 a4 |-;have d4:bt<=w.heap.size:=by omega
 clear a5;have c9:bt≠br:=by omega
 have d0:bt≠be:=by omega
 have R1:Hid (RSd K N W1 br bl (.ok i) d):=HR.out.grew Y.out;have E1:Hid (Av W1 be ⟨#[]⟩ a0 ⟨#[]⟩ 0 0 ⟨#[]⟩ none 0 0):=HE.out.of (P:=fun _=>True) (Fr.grew Y.out) trivial;have q1:=Aa T1.out 1;have q2:=Aa T1.out 2;have d5:=Y.out.below.size;have F1:Hid (Fr (·≠br) w W1):=Fr.grew Y.out;obtain⟨n1,n2,n3,n4,n5,n6,n7,n8,n9,c6⟩:=b7.out;go_wp2_with fail
 clear n1 n2 n3 n4 n5 n6 n7 n8 n9 c6 q1 q2 T1 Y;refine(Er HL.out W1 br bl (.ok i) d hN R1.out b b8.out).mono ?_;rintro e B ⟨rfl,A,L⟩;have R2:Hid (RSd K N B br bl (stX b) d):=A;have F2:Hid (Fr (·≠br) w B):=F1.out.trans L;have W:Hid (Av B be ⟨#[]⟩ a0 ⟨#[]⟩ 0 0 ⟨#[]⟩ none 0 0):=E1.out.of L hbe;have g:Hid (OkS (stX b)->(Cb b).data.toList=Ao [] b):=Dx;obtain⟨f,a9⟩:∃f,Cb b=f:=⟨_,rfl⟩;rw[a9] at g |-;clear A L R1 F1 E1 a9;have x0:=Aa W.out 0;have x2:=Aa W.out 2;have g0:=Ab W.out 0;have g2:=Ab W.out 2;have E3:Hid (Av ((B.setCell ⟨be,2,none⟩ (.string f)).setCell ⟨be,0,none⟩ (.string ⟨#[110,97,109,101]⟩)) be ⟨#[110,97,109,101]⟩ a0 f 0 0 ⟨#[]⟩ none 0 0):=(W.out.name f).op _;have c:Fr (·≠be) B ((B.setCell ⟨be,2,none⟩ (.string f)).setCell ⟨be,0,none⟩ (.string ⟨#[110,97,109,101]⟩)):=((Fr.refl _ B).set (by simp) _).set (by simp) _;have R3:Hid (RSd K N ((B.setCell ⟨be,2,none⟩ (.string f)).setCell ⟨be,0,none⟩ (.string ⟨#[110,97,109,101]⟩)) br bl (stX b) d):=R2.out.fr c (Ne.symm hbe) (Ne.symm hbl0);have F3:Hid (Fr (fun k=>k≠br/\k≠be) w ((B.setCell ⟨be,2,none⟩ (.string f)).setCell ⟨be,0,none⟩ (.string ⟨#[110,97,109,101]⟩))):=F2.out.wide.trans (c.mono fun _ q=>q.2);clear c;go_wp2_with fail
 clear x0 x2 g0 g2 R2 F2 W;generalize (B.setCell ⟨be,2,none⟩ (.string f)).setCell ⟨be,0,none⟩ (.string ⟨#[110,97,109,101]⟩)=W3 at E3 R3 F3 |-;obtain⟨c7,z⟩:∃q,isS K (stX b) [40]=q:=⟨_,rfl⟩;obtain⟨b6,v⟩:∃q,isS K (stX b) [39]=q:=⟨_,rfl⟩;have F:Hid (isS K (stX b) [39]=b6):=v;have p:Hid _:=a1.out;rw[z,v] at p;clear v;refine(J5 HK.out W3 br bl (stX b) d ⟨#[40]⟩ (by decide) R3.out c7 z).mono ?_;rintro e W4 ⟨rfl,g4⟩;have R4:Hid (RSd K N W4 br bl (stX b) d):=R3.out.grew g4;have F4:Hid (Fr (fun k=>k≠br/\k≠be) w W4):=F3.out.trans (Fr.grew g4);have E4:Hid (Av W4 be ⟨#[110,97,109,101]⟩ a0 f 0 0 ⟨#[]⟩ none 0 0):=E3.out.of (P:=fun _=>True) (Fr.grew g4) trivial;clear g4 R3 F3 E3 z;go_wp2_with fail
 refine(J5 HK.out W4 br bl (stX b) d ⟨#[39]⟩ (by decide) R4.out b6 F.out).mono ?_;rintro e G ⟨rfl,g5⟩;have D:Hid (RSd K N G br bl (stX b) d):=R4.out.grew g5;have F5:Hid (Fr (fun k=>k≠br/\k≠be) w G):=F4.out.trans (Fr.grew g5);have X:Hid (Av G be ⟨#[110,97,109,101]⟩ a0 f 0 0 ⟨#[]⟩ none 0 0):=E4.out.of (P:=fun _=>True) (Fr.grew g5) trivial;clear g5 R4 F4 E4 F a1;rcases p.out with⟨rfl,rfl,j,S,u,hc⟩|⟨rfl,rfl,j,S,u,hc⟩|⟨rfl,rfl,b4,b5⟩
 ·
  rw[S] at D;have T:j<N:=HL.out.lt D.out.le (m:=[40]) (by rw[u];rfl) (by decide);have s:Hid (f.data.toList=Ao [] b):=g.out ⟨j,S⟩;obtain⟨E,hl,hc⟩:=A3 [] (Hb hc);have HQ:Hid (stX r=stX E/\∀y j,r=.ok (y,j)->y=Ef (Ao [] b) (Ao [] E)):=Cz hc;have H1:Hid (Az (inS K j d) (A2 K [41] (self 0 (d+1)) m [])=some E):=hl;clear hl hc S u p g;go_wp2_with fail
  refine(Jb hN G br bl j d hd T D.out).mono ?_;rintro e C ⟨rfl,b0,M⟩;have R6:Hid (RSd K N C br bl (inS K j d) (d+1)):=b0;have F6:Hid (Fr (fun k=>k≠br/\k≠be) w C):=F5.out.trans M.wide;have E6:Hid (Av C be ⟨#[110,97,109,101]⟩ a0 f 0 0 ⟨#[]⟩ none 0 0):=X.out.of M hbe;clear b0 M D F5 X;have x0:=Aa E6.out 0;have g0:=Ab E6.out 0;have E7:Hid (Av (C.setCell ⟨be,0,none⟩ (.string ⟨#[99,97,108,108]⟩)) be ⟨#[99,97,108,108]⟩ a0 f 0 0 ⟨#[]⟩ none 0 0):=E6.out.op _;have c:Fr (·≠be) C (C.setCell ⟨be,0,none⟩ (.string ⟨#[99,97,108,108]⟩)):=(Fr.refl _ C).set (by simp) _;have R7:Hid (RSd K N (C.setCell ⟨be,0,none⟩ (.string ⟨#[99,97,108,108]⟩)) br bl (inS K j d) (d+1)):=R6.out.fr c (Ne.symm hbe) (Ne.symm hbl0);have F7:Hid (Fr (fun k=>k≠br/\k≠be) w (C.setCell ⟨be,0,none⟩ (.string ⟨#[99,97,108,108]⟩))):=F6.out.trans (c.mono fun _ q=>q.2);clear c;go_wp2_with fail
  clear x0 g0 R6 F6 E6;generalize C.setCell ⟨be,0,none⟩ (.string ⟨#[99,97,108,108]⟩)=W7 at E7 R7 F7 |-;refine(Tb HS.out HK.out HL.out hN W7 (d+1) m _ ⟨#[41]⟩ (Hv hd) hm (by decide) (by decide) R7.out E H1.out).mono ?_;rintro e n ⟨O,b1,Z,l8,c8,rfl,H⟩;have R8:Hid (RSd K N n br bl (stX E) (d+1)):=b1;have F8:Hid (Fr (fun k=>k≠br/\k≠be) w n):=F7.out.trans O.wide;have E8:Hid (Av n be ⟨#[99,97,108,108]⟩ a0 f 0 0 ⟨#[]⟩ none 0 0):=E7.out.of O hbe;have a2:Hid (∀l j,E=.ok (l,j)->Bw (fun k=>W7.heap.size<=k) n (Aj (fun k=>W7.heap.size<=k) n) Z l8 l):=H;have c5:=F7.out.size;have c2:be<W7.heap.size:=Ac E7.out;clear O b1 H R7 F7 E7;have x8:=Aa E8.out 8;have g8:=Ab E8.out 8;have R:Fr (·≠be) n (n.setCell ⟨be,8,none⟩ (.slice Z l8 c8)):=(Fr.refl _ n).set (by simp) _;have R9:Hid (RSd K N (n.setCell ⟨be,8,none⟩ (.slice Z l8 c8)) br bl (stX E) (d+1)):=R8.out.fr R (Ne.symm hbe) (Ne.symm hbl0);have F9:Hid (Fr (fun k=>k≠br/\k≠be) w (n.setCell ⟨be,8,none⟩ (.slice Z l8 c8))):=F8.out.trans (R.mono fun _ q=>q.2);have T9:Hid (∀x j,r=.ok (x,j)->Aj (fun k=>k=be\/w.heap.size<=k) (n.setCell ⟨be,8,none⟩ (.slice Z l8 c8)) x (.pointer (some ⟨be,0,none⟩))):=fun x j e=>by
   have o:OkS (stX E):=by rw[<- HQ.out.1];exact Dz e
   obtain⟨j1,e1⟩:=Ci [] o;rw[HQ.out.2 x j e];exact Jr E8.out c2 c5 (a2.out _ _ e1) (.inr (.inr (.inr (.inl ⟨rfl,by rw[s.out]⟩))))
  clear R;go_wp2_with fail
  clear x8 g8 R8 F8 E8 a2;generalize n.setCell ⟨be,8,none⟩ (.slice Z l8 c8)=W9 at R9 F9 T9 |-;refine(Gf W9 br bl _ d hd R9.out).mono ?_;rintro e WA ⟨rfl,b2,Q⟩;have RA:Hid (RSd K N WA br bl (stX E) d):=b2;have FA:Hid (Fr (fun k=>k≠br/\k≠be) w WA):=F9.out.trans Q.wide;have TA:Hid (∀x j,r=.ok (x,j)->Aj (fun k=>k=be\/w.heap.size<=k) WA x (.pointer (some ⟨be,0,none⟩))):=fun x j e=>(T9.out x j e).fr (Q.mono fun k q=>by omega) fun _ _ q=>q;clear b2 Q R9 F9 T9;go_wp2_with fail
  go_ret
  exact⟨FA.out,by rw[HQ.out.1];exact RA.out,rfl,TA.out⟩
 ·
  rw[S] at D;have T:j<N:=HL.out.lt D.out.le (m:=[39]) (by rw[u];rfl) (by decide);have s:Hid (f.data.toList=Ao [] b):=g.out ⟨j,S⟩;subst hc;clear S u p g;obtain⟨e1,f1⟩:=D.out.block;have x0:=Aa X.out 0;have g0:=Ab X.out 0;go_wp2_with fail
  go_ret
  have c:Fr (·≠be) (G.setCell ⟨br,1,none⟩ (.int .i64 ((j:Int)+1))) ((G.setCell ⟨br,1,none⟩ (.int .i64 ((j:Int)+1))).setCell ⟨be,0,none⟩ (.string ⟨#[112,114,105,109,101]⟩)):=(Fr.refl _ _).set (by simp) _;have hE:Av (G.setCell ⟨br,1,none⟩ (.int .i64 ((j:Int)+1))) be ⟨#[110,97,109,101]⟩ a0 f 0 0 ⟨#[]⟩ none 0 0:=X.out.of (P:=(·≠br)) ((Fr.refl _ G).set (by simp) _) hbe;exact⟨(F5.out.set (by simp) _).set (by simp) _,(D.out.next T).fr c (Ne.symm hbe) (Ne.symm hbl0),rfl,fun x j e=>by simp at e;rw[<- e.1];exact Aj.leaf (hE.op ⟨#[112,114,105,109,101]⟩) (.inl rfl) (.inr (.inr (.inl ⟨rfl,by rw[s.out]⟩)))⟩
 ·
  have I:Hid (stX r=stX b/\∀y j,r=.ok (y,j)->y=Cw (Ao [] b)):=⟨b4,b5⟩;clear b4 b5 p;go_wp2_with fail
  go_ret
  exact⟨F5.out,by rw[I.out.1];exact D.out,rfl,fun x j e=>by rw[I.out.2 x j e];exact Aj.leaf X.out (.inl rfl) (.inr (.inl ⟨rfl,by rw[g.out (by rw[<- I.out.1];exact Dz e)]⟩))⟩
theorem aF {K:Nat->Tk}{N br bl:Nat}{self:Nat->Nat->Nat->RX PX}(hS:Ch K N br bl self)(hK:∀i,Bs (K i))(hL:Bi K N)(hN:N<=1000000)(w:World)(be d m i:Nat)(a0:Int)(hd:d<=24)(hm:m<=1000000)(hbe:be≠br)(hbl0:be≠bl)(h:RSd K N w br bl (.ok i) d)(he:Av w be ⟨#[]⟩ a0 ⟨#[]⟩ 0 0 ⟨#[]⟩ none 0 0)
  (hk:(K i).cl=1) (r:Except (Nat×Nat) (PX×Nat)) (hr:Ge K self m d i=some r) :
  Calls Tryz.prog 107 #[.pointer (some ⟨br,0,none⟩),.pointer (some ⟨be,0,none⟩)] w (Nb K N w br bl be d r):=by
 cases a:Gh.contains (K i).tx with
 | true =>
  simp only[Gh,List.contains_cons,List.contains_nil,Bool.or_eq_true,Bool.or_false,beq_iff_eq] at a;rcases a with e|e|e
  ·exact aE hK hL hN w be d m i a0 hbe hbl0 h he e r hr
  ·exact Xg hK hL hN w be d m i a0 hbe hbl0 h he e r hr
  ·exact U3 hK hL hN w be d m i a0 hbe hbl0 h he e r hr
 | false =>
  cases b:Cs.contains (K i).tx with
  | true=>exact Sh hS hK hL hN w be d m i a0 hd hm hbe hbl0 h he (by simpa using b) r hr
  | false=>exact Xj hS hK hL hN w be d m i a0 hd hm hbe hbl0 h he hk a b r hr
theorem Nb.post {K:Nat->Tk}{N br bl be d:Nat}{w w2 w':World}{r:Except (Nat×Nat) (PX×Nat)}{e:Ending}(F:Fr (·≠br) w w2)(hbe:w.heap.size<=be)(h:Nb K N w2 br bl be d r e w'):C0 K N w br bl d r e w':=by
 obtain⟨a,b,c,f⟩:=h;have:=F.size;exact⟨Fr.freshT F a hbe,b,be,c,fun x j q=>(f x j q).fr (Fr.refl _ _) fun k _ q=>by omega⟩
theorem U9 {K:Nat->Tk}{N br bl:Nat}(w:World)(d:Nat)(q:Nat×Nat)(h:RSd K N w br bl (.error q) d) :
  Calls Tryz.prog 75 #[.pointer (some ⟨br,0,none⟩)] w (C0 K N w br bl d (.error q)):=by
 have J:Hid (RSd K N w br bl (.error q) d):=h;obtain⟨U,h,-⟩:=h;obtain⟨P,i,L,m,V,R,t,v,y,z,-⟩:=h.open;obtain⟨b,G,H,I⟩:=RS.cells m t v y z;have M:=Aa m 0;have O:=Aa m 1;have S:=Aa b 0;have T:=Aa b 1;have u:=Ac m;have s:(i:Int)<((N+1:Nat):Int):=by omega
 have X:=follows;obtain⟨f,o⟩:∃f,Bn (K i).cl=f:=⟨_,rfl⟩;obtain⟨g,r⟩:∃g,Cf (K i)=g:=⟨_,rfl⟩;obtain⟨a,l⟩:∃a,(K i).at'=a:=⟨_,rfl⟩;rw[o] at v G;rw[r] at y H;rw[l] at z I;clear m b h o r l;go_enter Tryz.func75,Tryz.ntmps75
 go_wp2_with fail
 go_big_region_o
 have k:Hid (Ap _ w.heap.size f g (a:Int)):=Ap.new w f g (a:Int);have A:Hid (Ad w (w.alloc (.cells #[.int .u8 (f:Int),.string g,.int .i64 (a:Int)] 55)).drew):=((Ad.refl w).alloc _).drew;clear M O S T G H I v y z s;generalize (w.alloc (.cells #[.int .u8 (f:Int),.string g,.int .i64 (a:Int)] 55)).drew=W1 at A k |-;obtain⟨D,n⟩:∃D,w.heap.size=D:=⟨_,rfl⟩;rw[n] at k u |-;clear n;have Y:=Aa k.out 0;have Z:=Aa k.out 1;have q2:=Aa k.out 2;have B:Hid (Ad w (W1.alloc (.cells #[.string ⟨#[]⟩,.int .i64 (a:Int),.string ⟨#[]⟩,.int .i64 0,.int .i64 0,.string ⟨#[]⟩,.slice none 0 0,.slice none 0 0,.slice none 0 0,.int .i64 0,.int .i64 0] 95))):=A.out.alloc _;have C:Hid (RSd K N (W1.alloc (.cells #[.string ⟨#[]⟩,.int .i64 (a:Int),.string ⟨#[]⟩,.int .i64 0,.int .i64 0,.string ⟨#[]⟩,.slice none 0 0,.slice none 0 0,.slice none 0 0,.int .i64 0,.int .i64 0] 95)) br bl (.error q) d):=J.out.grew B.out;obtain⟨E,F⟩:=C.out.err;obtain⟨c,p⟩:=q;have W:((c:Int)==0)=false:=F c p rfl;have Q:World.cell? (W1.alloc (.cells #[.string ⟨#[]⟩,.int .i64 (a:Int),.string ⟨#[]⟩,.int .i64 0,.int .i64 0,.string ⟨#[]⟩,.slice none 0 0,.slice none 0 0,.slice none 0 0,.int .i64 0,.int .i64 0] 95)) ⟨br,3,none⟩=some (.int .i64 (c:Int)):=E;clear F E;go_wp2_with fail
 go_ret
 exact⟨Fr.grew B.out,C.out,_,rfl,fun x j e=>by simp at e⟩
theorem Xk {K:Nat->Tk}{N br bl:Nat}{self:Nat->Nat->Nat->RX PX}(hS:Ch K N br bl self)(hK:∀i,Bs (K i))(hL:Bi K N)(hN:N<=1000000)(w:World)(d m i:Nat)(hd:d<=24)(hm:m<=1000000)(h:RSd K N w br bl (.ok i) d)
  (hk:(K i).cl=1) (r:Except (Nat×Nat) (PX×Nat)) (hr:Ge K self m d i=some r) :
  Calls Tryz.prog 75 #[.pointer (some ⟨br,0,none⟩)] w (C0 K N w br bl d r):=by
 have X:Hid (Ge K self m d i=some r):=hr;have D:Hid ((K i).cl=1):=hk;have V:Hid (Ch K N br bl self):=hS;have R:Hid (∀i,Bs (K i)):=hK;have S:Hid (Bi K N):=hL;have U:Hid (RSd K N w br bl (.ok i) d):=h;obtain⟨a0,Z,dd,o,hI,a1,t,G,H,I⟩:=h.open;obtain⟨g,M,O,P⟩:=RS.cells o t G H I;have c0:=Aa o 0;have c1:=Aa o 1;have k0:=Aa g 0;have k1:=Aa g 1;have F:=Ac o;have E:(i:Int)<((N+1:Nat):Int):=by omega
 have mo:=follows;have x:Bn (K i).cl=119:=by rw[hk];rfl
 obtain⟨c,j⟩:∃c,Cf (K i)=c:=⟨_,rfl⟩;obtain⟨a,f⟩:∃a,(K i).at'=a:=⟨_,rfl⟩;have W:Hid (Cf (K i)=c):=j;have Q:Hid ((K i).at'=a):=f;rw[x] at G M;rw[j] at H O;rw[f] at I P;clear hk hr;clear o g h hS hK hL x j f;go_enter Tryz.func75,Tryz.ntmps75
 go_wp2_with fail
 go_big_region_o
 have b:Hid (Ap _ w.heap.size 119 c (a:Int)):=Ap.new w 119 c (a:Int);have A:Hid (Ad w (w.alloc (.cells #[.int .u8 119,.string c,.int .i64 (a:Int)] 55)).drew):=((Ad.refl w).alloc _).drew;clear c0 c1 k0 k1 M O P G H I E;generalize (w.alloc (.cells #[.int .u8 119,.string c,.int .i64 (a:Int)] 55)).drew=W1 at A b |-;obtain⟨k,u⟩:∃k,w.heap.size=k:=⟨_,rfl⟩;rw[u] at b F |-;have a3:w.heap.size<=k:=by omega
 have a2:k<=w.heap.size:=by omega
 clear u;have q0:=Aa b.out 0;have q1:=Aa b.out 1;have q2:=Aa b.out 2;have z:Hid (Av (W1.alloc (.cells #[.string ⟨#[]⟩,.int .i64 (a:Int),.string ⟨#[]⟩,.int .i64 0,.int .i64 0,.string ⟨#[]⟩,.slice none 0 0,.slice none 0 0,.slice none 0 0,.int .i64 0,.int .i64 0] 95)) W1.heap.size ⟨#[]⟩ (a:Int) ⟨#[]⟩ 0 0 ⟨#[]⟩ none 0 0):=Av.new W1 ⟨#[]⟩ ⟨#[]⟩ ⟨#[]⟩ (a:Int) 0 0;have B:Hid (Ad w (W1.alloc (.cells #[.string ⟨#[]⟩,.int .i64 (a:Int),.string ⟨#[]⟩,.int .i64 0,.int .i64 0,.string ⟨#[]⟩,.slice none 0 0,.slice none 0 0,.slice none 0 0,.int .i64 0,.int .i64 0] 95))):=A.out.alloc _;have l:Hid (Ap (W1.alloc (.cells #[.string ⟨#[]⟩,.int .i64 (a:Int),.string ⟨#[]⟩,.int .i64 0,.int .i64 0,.string ⟨#[]⟩,.slice none 0 0,.slice none 0 0,.slice none 0 0,.int .i64 0,.int .i64 0] 95)) k 119 c (a:Int)):=b.out.grew ((Ad.refl _).alloc _);have v:k<W1.heap.size:=Ac b.out;have y:w.heap.size<=W1.heap.size:=A.out.below.size;have C:Hid (RSd K N (W1.alloc (.cells #[.string ⟨#[]⟩,.int .i64 (a:Int),.string ⟨#[]⟩,.int .i64 0,.int .i64 0,.string ⟨#[]⟩,.slice none 0 0,.slice none 0 0,.slice none 0 0,.int .i64 0,.int .i64 0] 95)) br bl (.ok i) d):=U.out.grew B.out;have e3:World.cell? (W1.alloc (.cells #[.string ⟨#[]⟩,.int .i64 (a:Int),.string ⟨#[]⟩,.int .i64 0,.int .i64 0,.string ⟨#[]⟩,.slice none 0 0,.slice none 0 0,.slice none 0 0,.int .i64 0,.int .i64 0] 95)) ⟨br,3,none⟩=some (.int .i64 0):=C.out.err.1;have p0:=Aa l.out 0;have p1:=Aa l.out 1;have p2:=Aa l.out 2;go_wp2_with fail
 clear q0 q1 q2 p0 p1 p2 e3 b A;generalize (W1.alloc (.cells #[.string ⟨#[]⟩,.int .i64 (a:Int),.string ⟨#[]⟩,.int .i64 0,.int .i64 0,.string ⟨#[]⟩,.slice none 0 0,.slice none 0 0,.slice none 0 0,.int .i64 0,.int .i64 0] 95))=W2 at z B l C |-;obtain⟨n,p⟩:∃n,W1.heap.size=n:=⟨_,rfl⟩;rw[p] at z v y |-;clear p;have s:n≠br:=by omega
 have J:bl<w.heap.size:=t;have q:n≠bl:=by omega
 refine(aF V.out R.out S.out hN W2 n d m i (a:Int) hd hm s q C.out z.out D.out r X.out).mono ?_;rintro e Y L;have T:Hid (C0 K N w br bl d r e Y):=Nb.post (Fr.grew B.out) y L;obtain⟨-,-,rfl,-⟩:=L;clear C z B l;go_wp2_with fail
 go_ret
 exact T.out
def valU (w:World)(b:Nat)(k n:Int)(tx:ByteArray):World:=((((w.setCell ⟨b,3,none⟩ (.int .i64 k)).setCell ⟨b,4,none⟩ (.int .i64 n)).setCell ⟨b,5,none⟩ (.string tx)).setCell ⟨b,6,none⟩ (.slice none 0 0)).setCell ⟨b,7,none⟩ (.slice none 0 0)
theorem Av.valU {w:World}{b:Nat}{op nm tx:ByteArray}{a k n:Int}{pa:Option Addr}{len cap:Nat}(h:Av w b op a nm k n tx pa len cap)(k' m:Int)(ty:ByteArray):Av (valU w b k' m ty) b op a nm k' m ty pa len cap:=by
 have:=Ag (Ag (Ag (Ag (Ag h 3 (.int .i64 k')) 4 (.int .i64 m)) 5 (.string ty)) 6 (.slice none 0 0)) 7 (.slice none 0 0);simpa [Av,Sx.valU] using this
theorem Fr.valU {P:Nat->Prop}{a w:World}{b:Nat}(h:Fr P a w)(hp:¬P b)(k m:Int)(ty:ByteArray):Fr P a (valU w b k m ty):=((((h.set (p:=⟨b,3,none⟩) hp _).set (p:=⟨b,4,none⟩) hp _).set (p:=⟨b,5,none⟩) hp _).set (p:=⟨b,6,none⟩) hp _).set (p:=⟨b,7,none⟩) hp _
theorem Xl {K:Nat->Tk}{N br bl:Nat}(hK:∀i,Bs (K i))(hL:Bi K N)(hN:N<=1000000)(w:World)(d i:Nat)(h:RSd K N w br bl (.ok i) d)
  (hk:(K i).cl=3) (hz:(K i).tx.length<=4000) :
  Calls Tryz.prog 75 #[.pointer (some ⟨br,0,none⟩)] w (C0 K N w br bl d (.ok (Fg (((K i).tx.take ((K i).tx.length-1)).drop 1),i+1))):=by
 have C:i<N:=hL.lt_cl h.le (.inr (.inr hk));have D:=(hK i).two hk;have HK:Hid (∀i,Bs (K i)):=hK;have HL:Hid (Bi K N):=hL;have S:Hid (RSd K N w br bl (.ok i) d):=h;obtain⟨X,U,dd,n,hI,a2,A,E,F,G⟩:=h.open;obtain⟨l,L,M,O⟩:=RS.cells n A E F G;have V:=Aa n 0;have W:=Aa n 1;have k0:=Aa l 0;have k1:=Aa l 1;have B:=Ac n;have z:(i:Int)<((N+1:Nat):Int):=by omega
 have mo:=follows;have r:Bn (K i).cl=34:=by rw[hk];rfl
 obtain⟨tx,c⟩:∃tx,Cf (K i)=tx:=⟨_,rfl⟩;obtain⟨a,k⟩:∃a,(K i).at'=a:=⟨_,rfl⟩;have T:Hid (Cf (K i)=tx):=c;have Q:Hid ((K i).at'=a):=k;rw[r] at E L;rw[c] at F M;rw[k] at G O;have m:tx.data.toList=(K i).tx:=by rw[<- c];exact Ga _ (by omega)
 have s:tx.size=(K i).tx.length:=by rw[<- m];simp
 have Z:((tx.size:Int)-1).toNat=tx.size-1:=by omega
 have a0:(1:Int)<=(tx.size:Int)-1:=by omega
 have a1:(tx.size:Int)-1<=(tx.size:Int):=by omega
 have a3:tx.size<=4000:=by omega
 have R:Hid ((((K i).tx.take ((K i).tx.length-1)).drop 1)=(tx.extract 1 (tx.size-1)).data.toList):=by rw[s,<- m];exact(Fx _ _ _).symm
 clear m s D hz hk;clear n l h hK hL r c k;go_enter Tryz.func75,Tryz.ntmps75
 go_wp2_with fail
 go_big_region_o
 have g:Hid (Ap _ w.heap.size 34 tx (a:Int)):=Ap.new w 34 tx (a:Int);have u:Hid (Ad w (w.alloc (.cells #[.int .u8 34,.string tx,.int .i64 (a:Int)] 55)).drew):=((Ad.refl w).alloc _).drew;clear V W k0 k1 L M O E F G z;generalize (w.alloc (.cells #[.int .u8 34,.string tx,.int .i64 (a:Int)] 55)).drew=W1 at u g |-;obtain⟨f,o⟩:∃f,w.heap.size=f:=⟨_,rfl⟩;rw[o] at g B |-;have a5:w.heap.size<=f:=by omega
 have a4:f<=w.heap.size:=by omega
 clear o;have q0:=Aa g.out 0;have q1:=Aa g.out 1;have q2:=Aa g.out 2;have b:Hid (Av (W1.alloc (.cells #[.string ⟨#[]⟩,.int .i64 (a:Int),.string ⟨#[]⟩,.int .i64 0,.int .i64 0,.string ⟨#[]⟩,.slice none 0 0,.slice none 0 0,.slice none 0 0,.int .i64 0,.int .i64 0] 95)) W1.heap.size ⟨#[]⟩ (a:Int) ⟨#[]⟩ 0 0 ⟨#[]⟩ none 0 0):=Av.new W1 ⟨#[]⟩ ⟨#[]⟩ ⟨#[]⟩ (a:Int) 0 0;have H:Hid (Ad w (W1.alloc (.cells #[.string ⟨#[]⟩,.int .i64 (a:Int),.string ⟨#[]⟩,.int .i64 0,.int .i64 0,.string ⟨#[]⟩,.slice none 0 0,.slice none 0 0,.slice none 0 0,.int .i64 0,.int .i64 0] 95))):=u.out.alloc _;have y:Hid (Ap (W1.alloc (.cells #[.string ⟨#[]⟩,.int .i64 (a:Int),.string ⟨#[]⟩,.int .i64 0,.int .i64 0,.string ⟨#[]⟩,.slice none 0 0,.slice none 0 0,.slice none 0 0,.int .i64 0,.int .i64 0] 95)) f 34 tx (a:Int)):=g.out.grew ((Ad.refl _).alloc _);have I:f<W1.heap.size:=Ac g.out;have t:w.heap.size<=W1.heap.size:=u.out.below.size;have v:Hid (RSd K N (W1.alloc (.cells #[.string ⟨#[]⟩,.int .i64 (a:Int),.string ⟨#[]⟩,.int .i64 0,.int .i64 0,.string ⟨#[]⟩,.slice none 0 0,.slice none 0 0,.slice none 0 0,.int .i64 0,.int .i64 0] 95)) br bl (.ok i) d):=S.out.grew H.out;have e3:World.cell? (W1.alloc (.cells #[.string ⟨#[]⟩,.int .i64 (a:Int),.string ⟨#[]⟩,.int .i64 0,.int .i64 0,.string ⟨#[]⟩,.slice none 0 0,.slice none 0 0,.slice none 0 0,.int .i64 0,.int .i64 0] 95)) ⟨br,3,none⟩=some (.int .i64 0):=v.out.err.1;have p0:=Aa y.out 0;have p1:=Aa y.out 1;have p2:=Aa y.out 2;obtain⟨e1,f1⟩:=v.out.block;have J:W1.heap.size≠br:=by omega
 have n2:f≠br:=by omega
 have n3:f≠W1.heap.size:=by omega
 have x0:=Aa b.out 0;have y0:=Ab b.out 0;have x3:=Aa b.out 3;have y3:=Ab b.out 3;have x4:=Aa b.out 4;have y4:=Ab b.out 4;have x5:=Aa b.out 5;have y5:=Ab b.out 5;have x6:=Aa b.out 6;have y6:=Ab b.out 6;have x7:=Aa b.out 7;have y7:=Ab b.out 7;go_wp2_with fail
 go_ret
 have p:Fr (·≠W1.heap.size) ((W1.alloc (.cells #[.string ⟨#[]⟩,.int .i64 (a:Int),.string ⟨#[]⟩,.int .i64 0,.int .i64 0,.string ⟨#[]⟩,.slice none 0 0,.slice none 0 0,.slice none 0 0,.int .i64 0,.int .i64 0] 95)).setCell ⟨br,1,none⟩ (.int .i64 ((i:Int)+1))) (valU (((W1.alloc (.cells #[.string ⟨#[]⟩,.int .i64 (a:Int),.string ⟨#[]⟩,.int .i64 0,.int .i64 0,.string ⟨#[]⟩,.slice none 0 0,.slice none 0 0,.slice none 0 0,.int .i64 0,.int .i64 0] 95)).setCell ⟨br,1,none⟩ (.int .i64 ((i:Int)+1))).setCell ⟨W1.heap.size,0,none⟩ (.string ⟨#[118,97,108,117,101]⟩)) W1.heap.size 3 0 (tx.extract 1 (tx.size-1))):=((Fr.refl _ _).set (by simp) _).valU (by simp) _ _ _;have Y:Av ((W1.alloc (.cells #[.string ⟨#[]⟩,.int .i64 (a:Int),.string ⟨#[]⟩,.int .i64 0,.int .i64 0,.string ⟨#[]⟩,.slice none 0 0,.slice none 0 0,.slice none 0 0,.int .i64 0,.int .i64 0] 95)).setCell ⟨br,1,none⟩ (.int .i64 ((i:Int)+1))) W1.heap.size ⟨#[]⟩ (a:Int) ⟨#[]⟩ 0 0 ⟨#[]⟩ none 0 0:=b.out.of (P:=(·≠br)) ((Fr.refl _ _).set (by simp) _) J;exact⟨Fr.freshT ((Fr.grew H.out).set (by simp) _) (p.mono fun _ q=>q.2) t,(v.out.next C).fr p J.symm (by omega),W1.heap.size,rfl,fun x j e=>by rw[<- (Prod.mk.inj (Except.ok.inj e)).1,R.out];exact Aj.leaf ((Y.op ⟨#[118,97,108,117,101]⟩).valU 3 0 _) t (.inl ⟨rfl,.inr (.inr (.inr (.inr ⟨rfl,rfl⟩)))⟩)⟩
theorem Ou (n:Int)(w:World):Calls Tryz.prog 106 #[.int .i64 n] w fun e w'=>e=.returned (.agg #[.int .i64 2,.int .i64 n,.string ⟨#[]⟩,.slice none 0 0,.slice none 0 0])/\Ad w w':=by
 go_enter Tryz.func106,Tryz.ntmps106
 go_wp2_with fail
 refine bodyPost_ret (v:=.agg #[.int .i64 2,.int .i64 n,.string ⟨#[]⟩,.slice none 0 0,.slice none 0 0]) (by simp[results,Tryz.results106,go_sem]) rfl ?_;exact⟨rfl,(Ad.refl w).alloc _⟩
theorem iB {K:Nat->Tk}{N:Nat}(w:World)(br bl i d:Nat)(c p:Nat)(h:RSd K N w br bl (.ok i) d) :
  Calls Tryz.prog 19 #[.pointer (some ⟨br,0,none⟩),.int .i64 (c:Int),.int .i64 (p:Int)] w fun e w'=>e=.returned (.tuple #[])/\w'=(w.setCell ⟨br,3,none⟩ (.int .i64 (c:Int))).setCell ⟨br,4,none⟩ (.int .i64 (p:Int)):=by
 obtain⟨f,b,k,a,-⟩:=h.open;have g:=Aa a 3;have l:=Ab a 3;have j:=Aa a 4;have m:=Ab a 4;clear a;go_enter Tryz.func19,Tryz.ntmps19
 go_wp2_with fail
 go_end0
 exact⟨rfl,rfl⟩
theorem RSd.failed {K:Nat->Tk}{N br bl i d c p:Nat}{w:World}(h:RSd K N w br bl (.ok i) d)(hi:i<N)(hc:c≠0):RSd K N (((w.setCell ⟨br,3,none⟩ (.int .i64 (c:Int))).setCell ⟨br,4,none⟩ (.int .i64 (p:Int))).setCell ⟨br,1,none⟩ (.int .i64 ((i:Int)+1))) br bl (.error (c,p)) d:=by
 obtain⟨f,⟨a,I,g,n,s,b,m,r⟩,e⟩:=h;obtain rfl:I=i:=r;have l:Fr (·≠br) w (((w.setCell ⟨br,3,none⟩ (.int .i64 (c:Int))).setCell ⟨br,4,none⟩ (.int .i64 (p:Int))).setCell ⟨br,1,none⟩ (.int .i64 ((I:Int)+1))):=(((Fr.refl _ w).set (by simp) _).set (by simp) _).set (by simp) _;have k:G8 ((w.setCell ⟨br,3,none⟩ (.int .i64 (c:Int))).setCell ⟨br,4,none⟩ (.int .i64 (p:Int))) br bl N a I f (c:Int) (p:Int):=by
  have:=Ag (Ag n 3 (.int .i64 (c:Int))) 4 (.int .i64 (p:Int));simpa [G8,ec] using this
 exact⟨f,⟨a,I+1,(p:Int),k.setI (I+1),hi,b,m.of l b,hc,rfl⟩,fun o=>by obtain⟨j,q⟩:=o;simp at q⟩
theorem aG {K:Nat->Tk}{N br bl:Nat}(hK:∀i,Bs (K i))(hL:Bi K N)(hN:N<=1000000)(w:World)(d i:Nat)(h:RSd K N w br bl (.ok i) d)
  (hk:(K i).cl=2) (hz:(K i).tx.length<=4000) (hdig:∀c∈(K i).tx,Bg c=true) (hp:Lib.parseIntB 64 (K i).tx=if Iy 0 (K i).tx<9223372036854775808 then .ok (Iy 0 (K i).tx:Int) else .range)
  (r:Except (Nat×Nat) (PX×Nat)) (hr:(match Lib.parseIntB 64 (K i).tx with | .ok v=>okX (Cw (Lib.itoa v)) (i+1)|_=>Dg 5 (K i).at')=some r) :
  Calls Tryz.prog 75 #[.pointer (some ⟨br,0,none⟩)] w (C0 K N w br bl d r):=by
 have Z:i<N:=hL.lt_cl h.le (.inr (.inl hk));have HK:Hid (∀i,Bs (K i)):=hK;have HL:Hid (Bi K N):=hL;have HR:Hid (RSd K N w br bl (.ok i) d):=h;obtain⟨b3,b2,dd,S,hI,b4,U,t0,t1,t2⟩:=h.open;obtain⟨C,u0,u1,u2⟩:=RS.cells S U t0 t1 t2;have c0:=Aa S 0;have c1:=Aa S 1;have k0:=Aa C 0;have k1:=Aa C 1;have a4:=Ac S;have a3:(i:Int)<((N+1:Nat):Int):=by omega
 have mo:=follows;have a2:Bn (K i).cl=48:=by rw[hk];rfl
 obtain⟨tx,s⟩:∃tx,Cf (K i)=tx:=⟨_,rfl⟩;obtain⟨a,p⟩:∃a,(K i).at'=a:=⟨_,rfl⟩;have b1:Hid (Cf (K i)=tx):=s;have b0:Hid ((K i).at'=a):=p;rw[a2] at t0 u0;rw[s] at t1 u1;rw[p] at t2 u2;have E:tx.data.toList=(K i).tx:=by rw[<- s];exact Ga _ (by omega)
 have a6:tx.size=(K i).tx.length:=by rw[<- E];simp
 rw[<- E] at hdig hp hr;have O:Hid (∀W:World,Calls _ _ _ _ _):=fun W=>jK tx W (by omega) hdig;obtain⟨V,hV⟩:∃V,Iy 0 tx.data.toList=V:=⟨_,rfl⟩;rw[hV] at O hp;have M:Hid ((V<9223372036854775808->r=.ok (Cw (Lib.itoa V),i+1))/\(¬V<9223372036854775808->r=.error (5,a))):=⟨fun hlt=>by rw[hp,if_pos hlt] at hr;simpa [okX] using hr.symm,fun hlt=>by rw[hp,if_neg hlt,p] at hr;simpa [Dg] using hr.symm⟩;clear hV E a6 hz hk hdig hp hr;clear S C h hK hL a2 s p;go_enter Tryz.func75,Tryz.ntmps75
 go_wp2_with fail
 go_big_region_o
 have y:Hid (Ap _ w.heap.size 48 tx (a:Int)):=Ap.new w 48 tx (a:Int);have G1:Hid (Ad w (w.alloc (.cells #[.int .u8 48,.string tx,.int .i64 (a:Int)] 55)).drew):=((Ad.refl w).alloc _).drew;clear c0 c1 k0 k1 u0 u1 u2 t0 t1 t2 a3;generalize (w.alloc (.cells #[.int .u8 48,.string tx,.int .i64 (a:Int)] 55)).drew=W1 at G1 y |-;obtain⟨A,X⟩:∃A,w.heap.size=A:=⟨_,rfl⟩;rw[X] at y a4 |-;have b9:w.heap.size<=A:=by omega
 have b5:A<=w.heap.size:=by omega
 clear X;have q0:=Aa y.out 0;have q1:=Aa y.out 1;have q2:=Aa y.out 2;have t:Hid (Av (W1.alloc (.cells #[.string ⟨#[]⟩,.int .i64 (a:Int),.string ⟨#[]⟩,.int .i64 0,.int .i64 0,.string ⟨#[]⟩,.slice none 0 0,.slice none 0 0,.slice none 0 0,.int .i64 0,.int .i64 0] 95)) W1.heap.size ⟨#[]⟩ (a:Int) ⟨#[]⟩ 0 0 ⟨#[]⟩ none 0 0):=Av.new W1 ⟨#[]⟩ ⟨#[]⟩ ⟨#[]⟩ (a:Int) 0 0;have H:Hid (Ad w (W1.alloc (.cells #[.string ⟨#[]⟩,.int .i64 (a:Int),.string ⟨#[]⟩,.int .i64 0,.int .i64 0,.string ⟨#[]⟩,.slice none 0 0,.slice none 0 0,.slice none 0 0,.int .i64 0,.int .i64 0] 95))):=G1.out.alloc _;have B:Hid (Ap (W1.alloc (.cells #[.string ⟨#[]⟩,.int .i64 (a:Int),.string ⟨#[]⟩,.int .i64 0,.int .i64 0,.string ⟨#[]⟩,.slice none 0 0,.slice none 0 0,.slice none 0 0,.int .i64 0,.int .i64 0] 95)) A 48 tx (a:Int)):=y.out.grew ((Ad.refl _).alloc _);have Y:A<W1.heap.size:=Ac y.out;have m:w.heap.size<=W1.heap.size:=G1.out.below.size;have u:Hid (RSd K N (W1.alloc (.cells #[.string ⟨#[]⟩,.int .i64 (a:Int),.string ⟨#[]⟩,.int .i64 0,.int .i64 0,.string ⟨#[]⟩,.slice none 0 0,.slice none 0 0,.slice none 0 0,.int .i64 0,.int .i64 0] 95)) br bl (.ok i) d):=HR.out.grew H.out;have e3:World.cell? (W1.alloc (.cells #[.string ⟨#[]⟩,.int .i64 (a:Int),.string ⟨#[]⟩,.int .i64 0,.int .i64 0,.string ⟨#[]⟩,.slice none 0 0,.slice none 0 0,.slice none 0 0,.int .i64 0,.int .i64 0] 95)) ⟨br,3,none⟩=some (.int .i64 0):=u.out.err.1;have p0:=Aa B.out 0;have p1:=Aa B.out 1;have p2:=Aa B.out 2;go_wp2_with fail
 clear q0 q1 q2 p0 p1 p2 e3 y G1;generalize (W1.alloc (.cells #[.string ⟨#[]⟩,.int .i64 (a:Int),.string ⟨#[]⟩,.int .i64 0,.int .i64 0,.string ⟨#[]⟩,.slice none 0 0,.slice none 0 0,.slice none 0 0,.int .i64 0,.int .i64 0] 95))=W2 at t H B u |-;obtain⟨b,T⟩:∃b,W1.heap.size=b:=⟨_,rfl⟩;rw[T] at t Y m |-;clear T;have f:b≠br:=by omega
 have a7:bl<w.heap.size:=U;have l:b≠bl:=by omega
 have a9:A≠br:=by omega
 have a8:A≠b:=by omega
 refine(O.out W2).mono ?_;rintro e W' ⟨rfl,R⟩;rw[R];clear R;have x0:=Aa t.out 0;have y0:=Ab t.out 0;obtain⟨e1,f1⟩:=u.out.block;by_cases hlt:V<9223372036854775808
 ·rw[if_pos (by omega)];obtain rfl:=M.out.1 hlt;have b6:((V:Int)==9223372036854775808)=false:=by simp;omega
  have b7:(0:Int)<=(V:Int):=by omega
  have b8:(V:Int)<9223372036854775808:=by omega
  have HT:Hid (∀W:World,_):=fun W=>Ou (V:Int) W;have F:Hid (Av ((W2.setCell ⟨br,1,none⟩ (.int .i64 ((i:Int)+1))).setCell ⟨b,0,none⟩ (.string ⟨#[118,97,108,117,101]⟩)) b ⟨#[118,97,108,117,101]⟩ (a:Int) ⟨#[]⟩ 0 0 ⟨#[]⟩ none 0 0):=(t.out.of (P:=(·≠br)) ((Fr.refl _ W2).set (by simp) _) f).op _;have k:Fr (·≠b) (W2.setCell ⟨br,1,none⟩ (.int .i64 ((i:Int)+1))) ((W2.setCell ⟨br,1,none⟩ (.int .i64 ((i:Int)+1))).setCell ⟨b,0,none⟩ (.string ⟨#[118,97,108,117,101]⟩)):=(Fr.refl _ _).set (by simp) _;have I:Hid (RSd K N _ br bl (.ok (i+1)) d):=(u.out.next Z).fr k (Ne.symm f) (Ne.symm l);have G:Hid (Fr (·≠br) w ((W2.setCell ⟨br,1,none⟩ (.int .i64 ((i:Int)+1))).setCell ⟨b,0,none⟩ (.string ⟨#[118,97,108,117,101]⟩))):=Fr.freshT ((Fr.grew H.out).set (by simp) _) (k.mono fun _ q=>q.2) m;clear k;go_wp2_with fail
  clear x0 y0 e1 f1 u t H B;generalize (W2.setCell ⟨br,1,none⟩ (.int .i64 ((i:Int)+1))).setCell ⟨b,0,none⟩ (.string ⟨#[118,97,108,117,101]⟩)=W3 at F I G |-;refine(HT.out W3).mono ?_;rintro e z ⟨rfl,g4⟩;have g:Hid (Av z b ⟨#[118,97,108,117,101]⟩ (a:Int) ⟨#[]⟩ 0 0 ⟨#[]⟩ none 0 0):=F.out.of (P:=fun _=>True) (Fr.grew g4) trivial;have Q:Hid (RSd K N z br bl (.ok (i+1)) d):=I.out.grew g4;have L:Hid (Fr (·≠br) w z):=G.out.trans (Fr.grew g4);clear g4 F I G;have x3:=Aa g.out 3;have y3:=Ab g.out 3;have x4:=Aa g.out 4;have y4:=Ab g.out 4;have x5:=Aa g.out 5;have y5:=Ab g.out 5;have x6:=Aa g.out 6;have y6:=Ab g.out 6;have x7:=Aa g.out 7;have y7:=Ab g.out 7;go_wp2_with fail
  go_ret
  have n:Fr (·≠b) z (valU z b 2 (V:Int) ⟨#[]⟩):=(Fr.refl _ z).valU (by simp) _ _ _;exact⟨Fr.freshT L.out (n.mono fun _ q=>q.2) m,Q.out.fr n (Ne.symm f) (Ne.symm l),b,rfl,fun x j e=>by rw[<- (Prod.mk.inj (Except.ok.inj e)).1];exact Aj.leaf (g.out.valU 2 (V:Int) ⟨#[]⟩) m (.inl ⟨rfl,.inr (.inr (.inr (.inl ⟨rfl,by omega,by omega,rfl⟩)))⟩)⟩
 ·obtain rfl:=M.out.2 hlt;have q2:=Aa B.out 2;obtain⟨nn,bb,a1,a5⟩:∃(nn:Int)(bb:Bool),(if V<=9223372036854775808 then(Value.tuple #[.int .u64 (V:Int),.bool true]) else .tuple #[.int .u64 0,.bool false])=.tuple #[.int .u64 nn,.bool bb]/\(bb=false/\nn=0\/bb=true/\nn=9223372036854775808):=by
   by_cases a0:V<=9223372036854775808
   ·exact⟨9223372036854775808,true,by rw[if_pos a0,show V=9223372036854775808 by omega];rfl,.inr ⟨rfl,rfl⟩⟩
   ·exact⟨0,false,by rw[if_neg a0],.inl ⟨rfl,rfl⟩⟩
  rw[a1];clear a1;rcases a5 with⟨rfl,rfl⟩|⟨rfl,rfl⟩
  all_goals
   go_wp2_with fail
   refine(iB W2 br bl i d 5 a u.out).mono ?_;rintro e _ ⟨rfl,rfl⟩;have D:Fr (·≠br) W2 ((W2.setCell ⟨br,3,none⟩ (.int .i64 5)).setCell ⟨br,4,none⟩ (.int .i64 (a:Int))):=((Fr.refl _ _).set (by simp) _).set (by simp) _;have F:Hid (Av ((W2.setCell ⟨br,3,none⟩ (.int .i64 5)).setCell ⟨br,4,none⟩ (.int .i64 (a:Int))) b ⟨#[]⟩ (a:Int) ⟨#[]⟩ 0 0 ⟨#[]⟩ none 0 0):=t.out.of D f;have G:Hid (Fr (·≠br) w ((W2.setCell ⟨br,3,none⟩ (.int .i64 5)).setCell ⟨br,4,none⟩ (.int .i64 (a:Int)))):=(Fr.grew H.out).trans D;have I:Hid (RSd K N (((W2.setCell ⟨br,3,none⟩ (.int .i64 5)).setCell ⟨br,4,none⟩ (.int .i64 (a:Int))).setCell ⟨br,1,none⟩ (.int .i64 ((i:Int)+1))) br bl (.error (5,a)) d):=u.out.failed Z (by decide);clear D;have k:Fr (·≠b) (((W2.setCell ⟨br,3,none⟩ (.int .i64 5)).setCell ⟨br,4,none⟩ (.int .i64 (a:Int))).setCell ⟨br,1,none⟩ (.int .i64 ((i:Int)+1))) ((((W2.setCell ⟨br,3,none⟩ (.int .i64 5)).setCell ⟨br,4,none⟩ (.int .i64 (a:Int))).setCell ⟨br,1,none⟩ (.int .i64 ((i:Int)+1))).setCell ⟨b,0,none⟩ (.string ⟨#[118,97,108,117,101]⟩)):=(Fr.refl _ _).set (by simp) _;have Q:Hid (RSd K N ((((W2.setCell ⟨br,3,none⟩ (.int .i64 5)).setCell ⟨br,4,none⟩ (.int .i64 (a:Int))).setCell ⟨br,1,none⟩ (.int .i64 ((i:Int)+1))).setCell ⟨b,0,none⟩ (.string ⟨#[118,97,108,117,101]⟩)) br bl (.error (5,a)) d):=I.out.fr k (Ne.symm f) (Ne.symm l);have L:Hid (Fr (·≠br) w ((((W2.setCell ⟨br,3,none⟩ (.int .i64 5)).setCell ⟨br,4,none⟩ (.int .i64 (a:Int))).setCell ⟨br,1,none⟩ (.int .i64 ((i:Int)+1))).setCell ⟨b,0,none⟩ (.string ⟨#[118,97,108,117,101]⟩))):=Fr.freshT (G.out.set (by simp) _) (k.mono fun _ q=>q.2) m;have g:Hid (Av ((((W2.setCell ⟨br,3,none⟩ (.int .i64 5)).setCell ⟨br,4,none⟩ (.int .i64 (a:Int))).setCell ⟨br,1,none⟩ (.int .i64 ((i:Int)+1))).setCell ⟨b,0,none⟩ (.string ⟨#[118,97,108,117,101]⟩)) b ⟨#[118,97,108,117,101]⟩ (a:Int) ⟨#[]⟩ 0 0 ⟨#[]⟩ none 0 0):=(F.out.of (P:=(·≠br)) ((Fr.refl _ _).set (by simp) _) f).op _;clear k;go_wp2_with fail
   clear x0 y0 e1 f1 q2 u t H B I F G;generalize ((((W2.setCell ⟨br,3,none⟩ (.int .i64 5)).setCell ⟨br,4,none⟩ (.int .i64 (a:Int))).setCell ⟨br,1,none⟩ (.int .i64 ((i:Int)+1))).setCell ⟨b,0,none⟩ (.string ⟨#[118,97,108,117,101]⟩))=z at Q L g |-;refine(Ou _ z).mono ?_;rintro e J ⟨rfl,g5⟩;have o:Hid (Av J b ⟨#[118,97,108,117,101]⟩ (a:Int) ⟨#[]⟩ 0 0 ⟨#[]⟩ none 0 0):=g.out.of (P:=fun _=>True) (Fr.grew g5) trivial;have R5:Hid (RSd K N J br bl (.error (5,a)) d):=Q.out.grew g5;have F5:Hid (Fr (·≠br) w J):=L.out.trans (Fr.grew g5);clear g5 g Q L;have x3:=Aa o.out 3;have y3:=Ab o.out 3;have x4:=Aa o.out 4;have y4:=Ab o.out 4;have x5:=Aa o.out 5;have y5:=Ab o.out 5;have x6:=Aa o.out 6;have y6:=Ab o.out 6;have x7:=Aa o.out 7;have y7:=Ab o.out 7;go_wp2_with fail
   go_ret
   have n:∀v,Fr (·≠b) J (valU J b 2 v ⟨#[]⟩):=fun v=>(Fr.refl _ J).valU (by simp) _ _ _;exact⟨Fr.freshT F5.out ((n _).mono fun _ q=>q.2) m,R5.out.fr (n _) (Ne.symm f) (Ne.symm l),b,rfl,fun x j e=>by simp at e⟩
end Go.Proofs.YtjbfcadeapphbaaGreatDoor.Sx
