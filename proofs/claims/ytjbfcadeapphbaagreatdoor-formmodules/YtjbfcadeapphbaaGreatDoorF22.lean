/- The reference: what begins with a word: words that are called. -/
import Derived.Test.YtjbfcadeapphbaaGreatDoorF21
namespace Go.Proofs.YtjbfcadeapphbaaGreatDoor.Sx
set_option maxRecDepth 100000
set_option maxHeartbeats 2000000
open Go.RowKit Go.Sort
theorem U4 {K:Nat->Tk}{N:Nat}(w:World)(br bl:Nat)(s:SX)(d:Nat)(c p:Nat)(hc:c≠0)(h:RSd K N w br bl s d) :
  Calls Tryz.prog 19 #[.pointer (some ⟨br,0,none⟩),.int .i64 (c:Int),.int .i64 (p:Int)] w fun e w'=>e=.returned (.tuple #[])/\RSd K N w' br bl (Hl s c p) d/\Fr (·≠br) w w':=by
 obtain⟨a,h,e⟩:=h;refine(Ic w br bl s a c p hc h).mono ?_;rintro k w' ⟨rfl,b,f⟩;exact⟨rfl,⟨a,b,fun o=>by rcases s with q|i<;>(obtain⟨j,g⟩:=o;simp[Hl] at g)⟩,f⟩
theorem Jr {w5 w6 w:World}{be:Nat}{op nm tx:ByteArray}{a k n:Int}{pa p0:Option Addr}{len cap l0 c0:Nat}{kids:List PX}{x:PX}(he:Av w6 be op a nm k n tx p0 l0 c0)(hb:be<w5.heap.size)(hw:w.heap.size<=w5.heap.size)(hrow:Bw (fun k=>w5.heap.size<=k) w6 (Aj (fun k=>w5.heap.size<=k) w6) pa len kids)
  (hm:Hr op.data.toList nm.data.toList k n tx.data.toList kids x):Aj (fun k=>k=be\/w.heap.size<=k) (w6.setCell ⟨be,8,none⟩ (.slice pa len cap)) x (.pointer (some ⟨be,0,none⟩)):=by
 have b:Fr (fun k=>w5.heap.size<=k) w6 (w6.setCell ⟨be,8,none⟩ (.slice pa len cap)):=(Fr.refl _ w6).set (by simp;omega) _;exact Aj.node ⟨be,op,nm,tx,a,k,n,pa,len,cap,kids,rfl,.inl rfl,he.kids pa len cap,Bw.fr b (fun _ _ h=>h.fr b fun _ _ q=>.inr (by omega)) (fun _ _ q=>.inr (by omega)) hrow,hm⟩
theorem Xh {l:List UInt8}(h:l∈Cs):l∈Dp:=by
 simp only[Cs,List.mem_cons,List.not_mem_nil,or_false] at h;rcases h with rfl|rfl|rfl|rfl|rfl|rfl|rfl<;>decide
theorem U6 {l:List UInt8}(h:l∈Cs):¬Gh.contains l=true:=by
 simp only[Cs,List.mem_cons,List.not_mem_nil,or_false] at h;rcases h with rfl|rfl|rfl|rfl|rfl|rfl|rfl<;>decide
theorem U8 {t:ByteArray}(h:t.data.toList∈Cs):(t.toList==[110,105,108])=false/\(t.toList==[116,114,117,101])=false/\(t.toList==[102,97,108,115,101])=false /\
  ((
   t.toList==[115,105,122,101])=true\/((t.toList==[115,105,122,101])=false/\(t.toList==[108,101,110])=true)\/((t.toList==[115,105,122,101])=false/\(t.toList==[108,101,110])=false/\(t.toList==[104,101,97,100])=true) \/
   ((t.toList==[115,105,122,101])=false/\(t.toList==[108,101,110])=false/\(t.toList==[104,101,97,100])=false/\(t.toList==[116,97,105,108])=true) \/
   ((t.toList==[115,105,122,101])=false/\(t.toList==[108,101,110])=false/\(t.toList==[104,101,97,100])=false/\(t.toList==[116,97,105,108])=false/\(t.toList==[97,112,112,101,110,100])=true) \/
   ((t.toList==[115,105,122,101])=false/\(t.toList==[108,101,110])=false/\(t.toList==[104,101,97,100])=false/\(t.toList==[116,97,105,108])=false/\(t.toList==[97,112,112,101,110,100])=false/\(t.toList==[118,97,108,117,101,115])=true) \/
   ((t.toList==[115,105,122,101])=false/\(t.toList==[108,101,110])=false/\(t.toList==[104,101,97,100])=false/\(t.toList==[116,97,105,108])=false/\(t.toList==[97,112,112,101,110,100])=false/\(t.toList==[118,97,108,117,101,115])=false/\(t.toList==[115,101,113,115])=true)):=by
 rw[ByteArray.toList_eq];simp only[Cs,List.mem_cons,List.not_mem_nil,or_false] at h;rcases h with h|h|h|h|h|h|h<;>rw[h]<;>decide
theorem Sh {K:Nat->Tk}{N br bl:Nat}{self:Nat->Nat->Nat->RX PX}(hS:Ch K N br bl self)(hK:∀i,Bs (K i))(hL:Bi K N)(hN:N<=1000000)(w:World)(be d m i:Nat)(a0:Int)(hd:d<=24)(hm:m<=1000000)(hbe:be≠br)(hbl0:be≠bl)(h:RSd K N w br bl (.ok i) d)(he:Av w be ⟨#[]⟩ a0 ⟨#[]⟩ 0 0 ⟨#[]⟩ none 0 0)
  (hk:(K i).tx∈Cs) (r:Except (Nat×Nat) (PX×Nat)) (hr:Ge K self m d i=some r) :
  Calls Tryz.prog 107 #[.pointer (some ⟨br,0,none⟩),.pointer (some ⟨be,0,none⟩)] w (Nb K N w br bl be d r):=by
 have HR:Hid (RSd K N w br bl (.ok i) d):=h;have HE:Hid (Av w be ⟨#[]⟩ a0 ⟨#[]⟩ 0 0 ⟨#[]⟩ none 0 0):=he;obtain⟨d0,c9,dd,hb,hI,d3,b8,Z,t1,t2⟩:=h.open;obtain⟨b,u0,u1,u2⟩:=RS.cells hb b8 Z t1 t2;have c0:=Aa hb 0;have c1:=Aa hb 1;have k0:=Aa b 0;have k1:=Aa b 1;have b9:=Ac hb;have a2:(i:Int)<((N+1:Nat):Int):=by omega
 have mo:=follows;have HS:Hid (Ch K N br bl self):=hS;have HK:Hid (∀i,Bs (K i)):=hK;have HL:Hid (Bi K N):=hL;have M:(K i).tx∈Dp:=Xh hk;have a8:i<N:=hL.lt hI (m:=(K i).tx) (by simp) M;obtain⟨tx,Q⟩:∃tx,Cf (K i)=tx:=⟨_,rfl⟩;have t:tx.data.toList=(K i).tx:=by rw[<- Q];exact Ck hK M rfl
 rw[<- t] at hk;have b5:Hid (tx.data.toList∈Cs):=hk;have n:(if (K (i+1)).tx==[40] then Ke K self m tx.data.toList d (i+1) else Dg 1 (K (i+1)).at')=some r:=by
  unfold Ge at hr;rw[if_neg (by rw[<- t];exact U6 hk),if_pos (by rw[<- t];simpa using hk),<- t] at hr;exact hr
 have b4:Hid _:=U8 hk;obtain⟨C,b2⟩:∃C,Bn (K i).cl=C:=⟨_,rfl⟩;obtain⟨z,a3⟩:∃z,(K i).at'=z:=⟨_,rfl⟩;rw[b2] at Z u0;rw[Q] at t1 u1;rw[a3] at t2 u2;have a4:=Ac he;clear hb b h hK hL b2 Q a3 hr hk he hS t M;go_enter Tryz.func107,Tryz.ntmps107
 go_wp2_with fail
 go_big_region_o
 have U:Hid (Ap _ w.heap.size C tx (z:Int)):=Ap.new w C tx (z:Int);have T:Hid (Ad w (w.alloc (.cells #[.int .u8 (C:Int),.string tx,.int .i64 (z:Int)] 55)).drew):=((Ad.refl w).alloc _).drew;clear c0 c1 k0 k1 u0 u1 u2 Z t1 t2 a2;generalize (w.alloc (.cells #[.int .u8 (C:Int),.string tx,.int .i64 (z:Int)] 55)).drew=W1 at T U |-;obtain⟨D,a7⟩:∃D,w.heap.size=D:=⟨_,rfl⟩;rw[a7] at U b9 a4 |-;have d4:D<=w.heap.size:=by omega
 clear a7;have F:D≠br:=by omega
 have c8:D≠be:=by omega
 have R1:Hid (RSd K N W1 br bl (.ok i) d):=HR.out.grew T.out;have E1:Hid (Av W1 be ⟨#[]⟩ a0 ⟨#[]⟩ 0 0 ⟨#[]⟩ none 0 0):=HE.out.of (P:=fun _=>True) (Fr.grew T.out) trivial;have q1:=Aa U.out 1;obtain⟨e1,f1⟩:=R1.out.block;have q2:=Aa U.out 2;have d5:=T.out.below.size;have G:Hid (RSd K N (W1.setCell ⟨br,1,none⟩ (.int .i64 ((i:Int)+1))) br bl (.ok (i+1)) d):=R1.out.next a8;have a:Fr (·≠br) W1 (W1.setCell ⟨br,1,none⟩ (.int .i64 ((i:Int)+1))):=(Fr.refl _ W1).set (by simp) _;have S:Hid (Fr (·≠br) w (W1.setCell ⟨br,1,none⟩ (.int .i64 ((i:Int)+1)))):=(Fr.grew T.out).trans a;have E2:Hid (Av (W1.setCell ⟨br,1,none⟩ (.int .i64 ((i:Int)+1))) be ⟨#[]⟩ a0 ⟨#[]⟩ 0 0 ⟨#[]⟩ none 0 0):=E1.out.of a hbe;have T2:Hid (Ap (W1.setCell ⟨br,1,none⟩ (.int .i64 ((i:Int)+1))) D C tx (z:Int)):=U.out.fr a F;clear a R1 E1 U T;obtain⟨n1,n2,n3,n4⟩:=b4.out;rcases n4 with Y|⟨Y,m2⟩|⟨Y,m2,m3⟩|⟨Y,m2,m3,m4⟩|⟨Y,m2,m3,m4,m5⟩|⟨Y,m2,m3,m4,m5,m6⟩|⟨Y,m2,m3,m4,m5,m6,m7⟩
 all_goals
  go_wp2_with fail
  clear e1 f1 q1 q2;generalize W1.setCell ⟨br,1,none⟩ (.int .i64 ((i:Int)+1))=W2 at G S E2 T2 |-;have d6:=S.out.size;cases O:((K (i+1)).tx==[40]) with
  | false =>
   obtain rfl:.error (1,(K (i+1)).at')=r:=by rw[O] at n;simpa [Dg] using n
   refine(J5 HK.out W2 br bl (.ok (i+1)) d ⟨#[40]⟩ (by decide) G.out false O).mono ?_;rintro e v ⟨rfl,A⟩;have R3:Hid (RSd K N v br bl (.ok (i+1)) d):=G.out.grew A;have F3:Hid (Fr (·≠br) w v):=S.out.trans (Fr.grew A);clear A G S E2 T2 n O;obtain⟨c4,c3,d1,s,d2,c7,a5,Z,t1,t2⟩:=R3.out.open;obtain⟨b,u0,u1,u2⟩:=RS.cells s a5 Z t1 t2;have c0:=Aa s 0;have c1:=Aa s 1;have k0:=Aa b 0;have k1:=Aa b 1;have c5:=Ac s;have a2:((i:Int)+1)<((N+1:Nat):Int):=by omega
   have HF:Hid (∀W,Ad v W->Calls _ _ _ _ _):=fun W g=>U4 W br bl (.ok (i+1)) d 1 (K (i+1)).at' (by decide) (R3.out.grew g);obtain⟨ab,H⟩:∃ab,(K (i+1)).at'=ab:=⟨_,rfl⟩;have b3:Hid ((K (i+1)).at'=ab):=H;rw[H] at t2 u2 HF;clear H s b Z t1 u0 u1;go_wp2_with fail
   go_region_with (go_at_call 19;refine(HF.out _ (Ad.refl v).drew).mono ?_;rintro e f ⟨rfl,u,c⟩;have R4:Hid (RSd K N f br bl (.error (1,ab)) d):=u;have F4:Hid (Fr (·≠br) w f):=F3.out.drew.trans c;clear u c)
   all_goals go_wp2_with fail
   all_goals go_ret
   all_goals exact⟨F4.out.wide,(by show RSd _ _ _ _ _ (.error (1,(K (i+1)).at')) _;rw[b3.out];exact R4.out),rfl,fun x j e=>by simp at e⟩
  | true =>
   have b6:i+1<=N:=a8;have a9:i+1<N:=HL.out.lt b6 (m:=[40]) O (by decide);rw[O,if_pos rfl] at n;refine(J5 HK.out W2 br bl (.ok (i+1)) d ⟨#[40]⟩ (by decide) G.out true O).mono ?_;rintro e v ⟨rfl,A⟩;have R3:Hid (RSd K N v br bl (.ok (i+1)) d):=G.out.grew A;have F3:Hid (Fr (·≠br) w v):=S.out.trans (Fr.grew A);have E3:Hid (Av v be ⟨#[]⟩ a0 ⟨#[]⟩ 0 0 ⟨#[]⟩ none 0 0):=E2.out.of (P:=fun _=>True) (Fr.grew A) trivial;have T3:Hid (Ap v D C tx (z:Int)):=T2.out.grew A;clear A G S E2 T2 O;obtain⟨B,hl,hc⟩:=A3 [] (Hb n);have HQ:Hid (stX r=stX B/\∀y j,r=.ok (y,j)->y=Ef tx.data.toList (Ao [] B)):=Cz hc;have H1:Hid (Az (inS K (i+1) d) (A2 K [41] (self 0 (d+1)) m [])=some B):=hl;clear n hl hc;go_wp2_with fail
   refine(Jb hN v br bl (i+1) d hd a9 R3.out).mono ?_;rintro e f ⟨rfl,u,c⟩;have R4:Hid (RSd K N f br bl (inS K (i+1) d) (d+1)):=u;have F4:Hid (Fr (·≠br) w f):=F3.out.trans c;have R:Hid (Av f be ⟨#[]⟩ a0 ⟨#[]⟩ 0 0 ⟨#[]⟩ none 0 0):=E3.out.of c hbe;have T4:Hid (Ap f D C tx (z:Int)):=T3.out.fr c F;clear u c R3 F3 E3 T3;have q1:=Aa T4.out 1;have x0:=Aa R.out 0;have x2:=Aa R.out 2;have g0:=Ab R.out 0;have g2:=Ab R.out 2;have E5:Hid (Av ((f.setCell ⟨be,0,none⟩ (.string tx)).setCell ⟨be,2,none⟩ (.string tx)) be tx a0 tx 0 0 ⟨#[]⟩ none 0 0):=(R.out.op tx).name tx;have a:Fr (·≠be) f ((f.setCell ⟨be,0,none⟩ (.string tx)).setCell ⟨be,2,none⟩ (.string tx)):=((Fr.refl _ f).set (by simp) _).set (by simp) _;have R5:Hid (RSd K N ((f.setCell ⟨be,0,none⟩ (.string tx)).setCell ⟨be,2,none⟩ (.string tx)) br bl (inS K (i+1) d) (d+1)):=R4.out.fr a (Ne.symm hbe) (Ne.symm hbl0);have F5:Hid (Fr (fun k=>k≠br/\k≠be) w ((f.setCell ⟨be,0,none⟩ (.string tx)).setCell ⟨be,2,none⟩ (.string tx))):=F4.out.wide.trans (a.mono fun _ q=>q.2);clear a;go_wp2_with fail
   clear q1 x0 x2 g0 g2 R4 F4 R T4;generalize (f.setCell ⟨be,0,none⟩ (.string tx)).setCell ⟨be,2,none⟩ (.string tx)=W5 at E5 R5 F5 |-;refine(Tb HS.out HK.out HL.out hN W5 (d+1) m _ ⟨#[41]⟩ (Hv hd) hm (by decide) (by decide) R5.out B H1.out).mono ?_;rintro e p ⟨I,b0,V,X,c6,rfl,E⟩;have R6:Hid (RSd K N p br bl (stX B) (d+1)):=b0;have F6:Hid (Fr (fun k=>k≠br/\k≠be) w p):=F5.out.trans I.wide;have E6:Hid (Av p be tx a0 tx 0 0 ⟨#[]⟩ none 0 0):=E5.out.of I hbe;have a1:Hid (∀l j,B=.ok (l,j)->Bw (fun k=>W5.heap.size<=k) p (Aj (fun k=>W5.heap.size<=k) p) V X l):=E;have c2:=F5.out.size;have b7:be<W5.heap.size:=Ac E5.out;clear I b0 E R5 F5 E5;have x8:=Aa E6.out 8;have g8:=Ab E6.out 8;have L:Fr (·≠be) p (p.setCell ⟨be,8,none⟩ (.slice V X c6)):=(Fr.refl _ p).set (by simp) _;have R7:Hid (RSd K N (p.setCell ⟨be,8,none⟩ (.slice V X c6)) br bl (stX B) (d+1)):=R6.out.fr L (Ne.symm hbe) (Ne.symm hbl0);have F7:Hid (Fr (fun k=>k≠br/\k≠be) w (p.setCell ⟨be,8,none⟩ (.slice V X c6))):=F6.out.trans (L.mono fun _ q=>q.2);have T7:Hid (∀x j,r=.ok (x,j)->Aj (fun k=>k=be\/w.heap.size<=k) (p.setCell ⟨be,8,none⟩ (.slice V X c6)) x (.pointer (some ⟨be,0,none⟩))):=fun x j e=>by
    have o:OkS (stX B):=by rw[<- HQ.out.1];exact Dz e
    obtain⟨j1,e1⟩:=Ci [] o;rw[HQ.out.2 x j e];exact Jr E6.out b7 c2 (a1.out _ _ e1) (.inr (.inr (.inr (.inr (.inl ⟨b5.out,rfl⟩)))))
   clear L;go_wp2_with fail
   clear x8 g8 R6 F6 E6 a1;generalize p.setCell ⟨be,8,none⟩ (.slice V X c6)=W7 at R7 F7 T7 |-;refine(Gf W7 br bl _ d hd R7.out).mono ?_;rintro e W8 ⟨rfl,b1,J⟩;have R8:Hid (RSd K N W8 br bl (stX B) d):=b1;have F8:Hid (Fr (fun k=>k≠br/\k≠be) w W8):=F7.out.trans J.wide;have T8:Hid (∀x j,r=.ok (x,j)->Aj (fun k=>k=be\/w.heap.size<=k) W8 x (.pointer (some ⟨be,0,none⟩))):=fun x j e=>(T7.out x j e).fr (J.mono fun k q=>by omega) fun _ _ q=>q;clear b1 J R7 F7 T7;go_wp2_with fail
   go_ret
   exact⟨F8.out,by rw[HQ.out.1];exact R8.out,rfl,T8.out⟩
end Go.Proofs.YtjbfcadeapphbaaGreatDoor.Sx
