/- The reference: what stands behind a first. -/
import Derived.Test.YthcndopglfkmiaaGreatDoorF28
namespace Go.Proofs.YthcndopglfkmiaaGreatDoor.Sx
set_option maxRecDepth 100000
set_option maxHeartbeats 4000000
open Go.RowKit Go.Sort
theorem Xl {K:Nat->Tk}{i:Nat}(h:Ek.contains (K i).tx=false):(Jk.any fun m=>isS K (.ok i) m.data.toList)=false/\((K i).tx==C5)=false:=by
 simp only[Ek,List.contains_cons,List.contains_nil,Bool.or_eq_false_iff,Bool.or_false] at h;refine⟨?_,h.2.2.2⟩;show(((K i).tx==[110,111,116])||(((K i).tx==[97,108,119,97,121,115])||(((K i).tx==[101,118,101,110,116,117,97,108,108,121])||false)))=false;rw[h.1,h.2.1,h.2.2.1];rfl
theorem U1 {K:Nat->Tk}{i:Nat}(h:Df.contains (K i).tx=false):(Kg.any fun m=>isS K (.ok i) m.data.toList)=false/\((K i).tx==Cb)=false:=by
 simp only[Df,List.contains_cons,List.contains_nil,Bool.or_eq_false_iff,Bool.or_false] at h;refine⟨?_,h.2.2.2.2⟩;show(((K i).tx==[45])||(((K i).tx==[100,111,109,97,105,110])||(((K i).tx==[112,111,119,101,114,115,101,116])||(((K i).tx==[102,108,97,116,116,101,110])||false))))=false;rw[h.1,h.2.1,h.2.2.1,h.2.2.2.1];rfl
theorem hZ {K:Nat->Tk}{N br bl:Nat}(hK:∀i,Bs (K i))(hL:Bi K N)(hN:N<=1000000)(w:World)(d i:Nat)(h:RSd K N w br bl (.ok i) d)
  (hk:Ek.contains (K i).tx=false) (r:Except (Nat×Nat) (PX×Nat)) (hP:∀W,RSd K N W br bl (.ok i) d->Calls Tryz.prog 36 #[.pointer (some ⟨br,0,none⟩),.int .i64 7] W (C0 K N W br bl d r)) :
  Calls Tryz.prog 36 #[.pointer (some ⟨br,0,none⟩),.int .i64 6] w (C0 K N w br bl d r):=by
 have O:Hid (∀i,Bs (K i)):=hK;have HR:Hid (RSd K N w br bl (.ok i) d):=h;have HL:Hid (Bi K N):=hL;have HP:Hid (∀W,RSd K N W br bl (.ok i) d->Calls Tryz.prog 36 #[.pointer (some ⟨br,0,none⟩),.int .i64 7] W (C0 K N W br bl d r)):=hP;have a:=Xl hk;have C:Hid ((Jk.any fun m=>isS K (.ok i) m.data.toList)=false):=a.1;have n:Hid (isS K (.ok i) C5=false/\Cp K (.ok i) C5=.ok i):=⟨a.2,by show(if (K i).tx==C5 then _ else _)=_;rw[a.2,if_neg (by simp)]⟩;obtain⟨a1,a0,dd,l,hI,a2,F,H,I,J⟩:=h.open;obtain⟨g,V,X,Y⟩:=RS.cells l F H I J;have c0:=Aa l 0;have c1:=Aa l 1;have c3:=Aa l 3;have k0:=Aa g 0;have k1:=Aa g 1;have G:=Ac l;have E:(i:Int)<((N+1:Nat):Int):=by omega
 have mo:=follows;obtain⟨f,u⟩:∃f,Bn (K i).cl=f:=⟨_,rfl⟩;obtain⟨tx,v⟩:∃tx,Cf (K i)=tx:=⟨_,rfl⟩;obtain⟨c,o⟩:∃c,(K i).at'=c:=⟨_,rfl⟩;rw[u] at H V;rw[v] at I X;rw[o] at J Y;clear l g h hK hL u v o hk a hP;go_enter Tryz.func36,Tryz.ntmps36
 go_wp2_with fail
 go_big_region_o
 have y:Hid (Ap _ w.heap.size f tx (c:Int)):=Ap.new w f tx (c:Int);have x:Hid (Ad w (w.alloc (.cells #[.int .u8 (f:Int),.string tx,.int .i64 (c:Int)] 54)).drew):=((Ad.refl w).alloc _).drew;clear c0 c1 c3 k0 k1 V X Y H I J E;generalize (w.alloc (.cells #[.int .u8 (f:Int),.string tx,.int .i64 (c:Int)] 54)).drew=W1 at x y |-;obtain⟨k,p⟩:∃k,w.heap.size=k:=⟨_,rfl⟩;rw[p] at y G |-;have a3:k<=w.heap.size:=by omega
 clear p;have q:k≠br:=by omega
 have D:Hid (RSd K N W1 br bl (.ok i) d):=HR.out.grew x.out;go_wp2_with fail
 refine(C2 O.out W1 br bl (.ok i) d _ Jk 3 false rfl (by decide) rfl (by decide) C.out D.out).mono ?_;rintro e z ⟨rfl,B⟩;have P:Hid (RSd K N z br bl (.ok i) d):=D.out.grew B;have M:Hid (Ad w z):=x.out.trans B;have R:Hid (Ap z k f tx (c:Int)):=y.out.grew B;clear B D x y;go_wp2_with fail
 refine(Gc O.out HL.out z br bl (.ok i) d ⟨#[101,110,97,98,108,101,100]⟩ (by decide) hN P.out).mono ?_;rintro e A ⟨rfl,s,j⟩;have Q:Hid (RSd K N A br bl (.ok i) d):=by show RSd _ _ _ _ _ _ _;rw[<- n.out.2];exact s
 have L:Hid (Fr (·≠br) w A):=(Fr.grew M.out).trans j;have T3:Hid (Ap A k f tx (c:Int)):=R.out.fr j q;clear s j P M R;have T:isS K (.ok i) (ByteArray.mk #[101,110,97,98,108,101,100]).data.toList=false:=n.out.1;rw[T];clear T;go_wp2_with fail
 refine(HP.out A Q.out).mono ?_;rintro e W4 hp;obtain⟨S,t,b,rfl,U⟩:=hp;have Z:Hid (C0 K N w br bl d r (.returned (.pointer (some ⟨b,0,none⟩))) W4):=C0.from L.out ⟨S,t,b,rfl,U⟩;clear S t U Q L T3;go_wp2_with fail
 go_ret
 exact Z.out
theorem eF {K:Nat->Tk}{N br bl:Nat}(hK:∀i,Bs (K i))(hL:Bi K N)(hN:N<=1000000)(w:World)(d i:Nat)(h:RSd K N w br bl (.ok i) d)
  (hk:Df.contains (K i).tx=false) (r:Except (Nat×Nat) (PX×Nat)) (hP:∀W,RSd K N W br bl (.ok i) d->Calls Tryz.prog 64 #[.pointer (some ⟨br,0,none⟩)] W (C0 K N W br bl d r)) :
  Calls Tryz.prog 36 #[.pointer (some ⟨br,0,none⟩),.int .i64 12] w (C0 K N w br bl d r):=by
 have O:Hid (∀i,Bs (K i)):=hK;have HR:Hid (RSd K N w br bl (.ok i) d):=h;have HL:Hid (Bi K N):=hL;have HP:Hid (∀W,RSd K N W br bl (.ok i) d->Calls Tryz.prog 64 #[.pointer (some ⟨br,0,none⟩)] W (C0 K N W br bl d r)):=hP;have a:=U1 hk;have C:Hid ((Kg.any fun m=>isS K (.ok i) m.data.toList)=false):=a.1;have n:Hid (isS K (.ok i) Cb=false/\Cp K (.ok i) Cb=.ok i):=⟨a.2,by show(if (K i).tx==Cb then _ else _)=_;rw[a.2,if_neg (by simp)]⟩;obtain⟨a1,a0,dd,l,hI,a2,F,H,I,J⟩:=h.open;obtain⟨g,V,X,Y⟩:=RS.cells l F H I J;have c0:=Aa l 0;have c1:=Aa l 1;have c3:=Aa l 3;have k0:=Aa g 0;have k1:=Aa g 1;have G:=Ac l;have E:(i:Int)<((N+1:Nat):Int):=by omega
 have mo:=follows;obtain⟨f,u⟩:∃f,Bn (K i).cl=f:=⟨_,rfl⟩;obtain⟨tx,v⟩:∃tx,Cf (K i)=tx:=⟨_,rfl⟩;obtain⟨c,o⟩:∃c,(K i).at'=c:=⟨_,rfl⟩;rw[u] at H V;rw[v] at I X;rw[o] at J Y;clear l g h hK hL u v o hk a hP;go_enter Tryz.func36,Tryz.ntmps36
 go_wp2_with fail
 go_big_region_o
 have y:Hid (Ap _ w.heap.size f tx (c:Int)):=Ap.new w f tx (c:Int);have x:Hid (Ad w (w.alloc (.cells #[.int .u8 (f:Int),.string tx,.int .i64 (c:Int)] 54)).drew):=((Ad.refl w).alloc _).drew;clear c0 c1 c3 k0 k1 V X Y H I J E;generalize (w.alloc (.cells #[.int .u8 (f:Int),.string tx,.int .i64 (c:Int)] 54)).drew=W1 at x y |-;obtain⟨k,p⟩:∃k,w.heap.size=k:=⟨_,rfl⟩;rw[p] at y G |-;have a3:k<=w.heap.size:=by omega
 clear p;have q:k≠br:=by omega
 have D:Hid (RSd K N W1 br bl (.ok i) d):=HR.out.grew x.out;go_wp2_with fail
 refine(C2 O.out W1 br bl (.ok i) d _ Kg 4 false rfl (by decide) rfl (by decide) C.out D.out).mono ?_;rintro e z ⟨rfl,B⟩;have P:Hid (RSd K N z br bl (.ok i) d):=D.out.grew B;have M:Hid (Ad w z):=x.out.trans B;have R:Hid (Ap z k f tx (c:Int)):=y.out.grew B;clear B D x y;go_wp2_with fail
 refine(Gc O.out HL.out z br bl (.ok i) d ⟨#[117,110,99,104,97,110,103,101,100]⟩ (by decide) hN P.out).mono ?_;rintro e A ⟨rfl,s,j⟩;have Q:Hid (RSd K N A br bl (.ok i) d):=by show RSd _ _ _ _ _ _ _;rw[<- n.out.2];exact s
 have L:Hid (Fr (·≠br) w A):=(Fr.grew M.out).trans j;have T3:Hid (Ap A k f tx (c:Int)):=R.out.fr j q;clear s j P M R;have T:isS K (.ok i) (ByteArray.mk #[117,110,99,104,97,110,103,101,100]).data.toList=false:=n.out.1;rw[T];clear T;go_wp2_with fail
 refine(HP.out A Q.out).mono ?_;rintro e W4 hp;obtain⟨S,t,b,rfl,U⟩:=hp;have Z:Hid (C0 K N w br bl d r (.returned (.pointer (some ⟨b,0,none⟩))) W4):=C0.from L.out ⟨S,t,b,rfl,U⟩;clear S t U Q L T3;go_wp2_with fail
 go_ret
 exact Z.out
theorem nA {w w3:World}{lo g g' be cap:Nat}{op nm tx:ByteArray}{a k n:Int}{p0:Option Addr}{l0 c0:Nat}{x0 k0 v0 x:PX}{va vb vc:Value}
  (he:Av w be op a nm k n tx p0 l0 c0) (hlo:lo<=be) (hbg:be≠g)
  (ha:Aj (fun k=>lo<=k/\k≠g/\k≠be) w x0 va) (hb:Aj (fun k=>lo<=k/\k≠g/\k≠be) w k0 vb) (hc:Aj (fun k=>lo<=k/\k≠g/\k≠be) w v0 vc)
  (f:Fr (·≠g) w w3) (ho:w3.ownsRow lo 57 1 (.slice (some ⟨g',0,none⟩) 3 cap) 3 [va,vb,vc]) (hat:g'=g\/g'=w.heap.size+1)
  (hx:Hq op.data.toList nm.data.toList k n tx.data.toList [x0,k0,v0] x) :
  Aj (fun k=>lo<=k) (w3.setCell ⟨be,8,none⟩ (.slice (some ⟨g',0,none⟩) 3 cap)) x (.pointer (some ⟨be,0,none⟩)):=by
 have r:=Ac he;have j:g'≠be:=by omega
 have m:Fr (·≠be) w3 (w3.setCell ⟨be,8,none⟩ (.slice (some ⟨g',0,none⟩) 3 cap)):=(Fr.refl _ w3).set (by simp) _;have p:=(he.of f hbg).kids (some ⟨g',0,none⟩) 3 cap;rcases ho.2 with⟨e,-⟩|⟨A,l,h,e,s,o,-,-,B,u⟩
 ·simp at e
 ·simp only[Value.slice.injEq,Option.some.injEq,Addr.mk.injEq,and_true,true_and] at e;obtain⟨rfl,rfl⟩:=e;have d:=(m.block g' (Ac o) j).trans o;have c:∀(z:PX)(t:Value),Aj (fun k=>lo<=k/\k≠g/\k≠be) w z t->Aj (fun k=>lo<=k) (w3.setCell ⟨be,8,none⟩ (.slice (some ⟨g',0,none⟩) 3 cap)) z t:=fun z t hz =>
   (hz.fr (Q:=fun k=>lo<=k/\k≠be) (f.mono fun _ q=>q.2.1) fun _ _ q=>⟨q.1,q.2.2⟩).fr (m.mono fun _ q=>q.2) fun _ _ q=>q.1
  have b:∀(i:Nat)(v:Value),[va,vb,vc][i]?=some v->h[i]?=some v:=by
   intro i v q;rw[<- u,List.getElem?_take] at q;split at q
   ·simpa using q
   ·simp at q
  refine Aj.node ⟨be,op,nm,tx,a,k,n,_,3,cap,[x0,k0,v0],rfl,hlo,p,⟨rfl,by decide,.inr ⟨g',0,rfl,Ac d,s,fun i y q=>?_⟩⟩,hx⟩
  match i,q with
  | 0,q=>simp at q;subst q;exact⟨va,by rw[Aa d];exact b 0 _ rfl,c _ _ ha⟩
  | 1,q=>simp at q;subst q;exact⟨vb,by rw[Aa d];exact b 1 _ rfl,c _ _ hb⟩
  | 2,q=>simp at q;subst q;exact⟨vc,by rw[Aa d];exact b 2 _ rfl,c _ _ hc⟩
  | i+3,q=>simp at q
theorem jZ {K:Nat->Tk}{γ:Type}{s1:SX}{m:List UInt8}{A B:Nat->RX γ}{r:Except (Nat×Nat) (γ×Nat)}(hb:isS K s1 m=true)(hk:Ay s1 (fun j=>if (K j).tx==m then A (j+1) else B j)=some r):∃j,Cp K s1 m=.ok (j+1)/\OkS s1/\A (j+1)=some r:=by
 rcases s1 with e|j
 ·simp[isS] at hb
 ·have a:((K j).tx==m)=true:=hb;simp only[Ay,a] at hk;exact⟨j,by simp only[Cp,a];rfl,⟨j,rfl⟩,by simpa using hk⟩
theorem kA {K:Nat->Tk}{γ:Type}{s1:SX}{m:List UInt8}{A B:Nat->RX γ}{r:Except (Nat×Nat) (γ×Nat)}(hb:isS K s1 m=false)(hk:Ay s1 (fun j=>if (K j).tx==m then A (j+1) else B j)=some r):Cp K s1 m=s1/\Ay s1 B=some r:=by
 rcases s1 with e|j
 ·exact⟨rfl,hk⟩
 ·have a:((K j).tx==m)=false:=hb;refine⟨by simp only[Cp,a];rfl,?_⟩;simp only[Ay,a] at hk |-;simpa using hk
theorem U3 {K:Nat->Tk}{self:Nat->Nat->Nat->RX PX}{M d f i:Nat}{x:PX}{r:Except (Nat×Nat) (PX×Nat)}(hp:Ce K self M d (f+1) x i=some r) :
  (((K i).tx==[91])=true/\∃r1,Ay (inS K i d) (self 0 (d+1))=some r1/\Ay (stX r1) (fun j=>if (K j).tx==[58,61] then(bX (self 0 (d+1) (j+1)) fun v j=>Cd K [93] j fun j=>Ce K self M d f (Gp x (Ao noX r1) v) j) else Cd K [93] j fun j=>Ce K self M d f (dAt x (Ao noX r1)) j)=some r) \/
  (((K i).tx==[91])=false/\((K i).tx==[46])=true/\∃r1,Ay (.ok (i+1)) (Au K)=some r1/\Ay (stX r1) (fun j=>Ce K self M d f (dAt x (Fg (Ao [] r1))) j)=some r) \/
  (((K i).tx==[91])=false/\((K i).tx==[46])=false/\r=.ok (x,i)):=by
 simp only[Ce] at hp;cases c:((K i).tx==[91]) with
 | true =>
  rw[c,if_pos rfl] at hp;obtain⟨r1,a,b⟩:=A2 noX (G8 hp);exact .inl ⟨rfl,r1,a,b⟩
 | false =>
  rw[c,if_neg (by simp)] at hp;cases e:((K i).tx==[46]) with
  | true =>
   rw[e,if_pos rfl] at hp;obtain⟨r1,a,b⟩:=A2 (s:=.ok (i+1)) (f:=Au K) [] hp;exact .inr (.inl ⟨rfl,rfl,r1,a,b⟩)
  | false =>
   rw[e,if_neg (by simp)] at hp;refine .inr (.inr ⟨rfl,rfl,?_⟩);simp only[okX,Option.some.injEq] at hp;exact hp.symm
theorem nB (W:World)(a:Value):∀(k:Nat)(u:Value),[a][k]?=some u->(W.alloc (.cells #[a] 57)).cell? ((⟨W.heap.size,0,none⟩:Addr).add k)=some u:=by
 intro k u hk
 match k,hk with
 | 0,hk=>simp at hk;subst hk;simp[Addr.add]
 | k+1,hk=>simp at hk
theorem nC {a:Value}(ha:a.oneCell'=true):∀u∈[a],u.oneCell'=true:=by
 intro u b;simp only[List.mem_cons,List.not_mem_nil,or_false] at b;rw[b];exact ha
theorem Xm {K:Nat->Tk}{N br bl:Nat}{self:Nat->Nat->Nat->RX PX}(hS:Ch K N br bl self)(hK:∀i,Bs (K i))(hL:Bi K N)(hN:N<=1000000)(hz:∀i,(K i).tx.length<=4000)(hn:∀i,Xg (K i))(w:World)(d m i:Nat)(hd:d<=24)(hm:m<=1000000)(h:RSd K N w br bl (.ok i) d)
  (r:Except (Nat×Nat) (PX×Nat)) (hr:Gq K self m d i=some r) :
  Calls Tryz.prog 64 #[.pointer (some ⟨br,0,none⟩)] w (C0 K N w br bl d r):=by
 have HS:Hid (Ch K N br bl self):=hS;have HK:Hid (∀i,Bs (K i)):=hK;have HL:Hid (Bi K N):=hL;have l1:=h.lt;have k4:=h.row.1;obtain⟨q,h1,hk⟩:=A2 (s:=.ok i) (f:=Gv K self m d) noX hr;have HC:Hid (Calls _ _ _ _ _):=aG hS hK hL hN hz hn w d m (.ok i) (fun _=>hd) hm h q h1;have H0:Hid (Ay (stX q) (fun j=>Ce K self m d m (Ao noX q) j)=some r):=hk;obtain⟨i0,j3,j6,j7,c7⟩:∃i0,Tryz.prog.info? 57=some i0/\i0.zero=some (.pointer none)/\i0.size=1/\i0.bytes=8:=by
  have:=cK;cases hq:Tryz.prog.info? 57 with
  | none=>rw[hq] at this;simp at this
  | some j=>rw[hq] at this;simp at this;exact⟨j,rfl,this.1,this.2.1,this.2.2⟩
 clear hS hK hL h hr h1 hk hz hn;have mo:=follows;go_enter Tryz.func64,Tryz.ntmps64
 go_wp2_with fail
 refine HC.out.mono ?_;rintro e W1 ⟨g5,h4,b1,rfl,h8⟩;have R1:Hid (RSd K N W1 br bl (stX q) d):=h4;have F1:Hid (Fr (·≠br) w W1):=g5;have T1:Hid (OkS (stX q)->Aj (fun k=>w.heap.size<=k) W1 (Ao noX q) (.pointer (some ⟨b1,0,none⟩))):=fun o=>by
  obtain⟨j,e⟩:=Ci noX o;exact h8 _ _ e
 clear g5 h4 h8 HC;go_wp2_with fail
 go_loopg [3] (m) (fun f s3 wr=>∃(s:SX)(x:PX)(b:Nat),s3=.pointer (some ⟨b,0,none⟩)/\Hid (RSd K N wr br bl s d)/\Hid (OkS s->Aj (fun k=>w.heap.size<=k) wr x (.pointer (some ⟨b,0,none⟩)))/\Hid (Ay s (fun j=>Ce K self m d f x j)=some r)/\Hid (Fr (·≠br) w wr))
 case atStart=>exact⟨stX q,Ao noX q,b1,rfl,R1,T1,H0,F1⟩
 case round =>
  clear R1 F1 T1 H0;obtain⟨s1,z,u,rfl,R1,T1,P1,F1⟩:=hrel;obtain⟨e3,H⟩:=R1.out.err;rcases s1 with⟨c,p⟩|t
  ·have hc:=H c p rfl;simp only[ec] at e3;have HQ:Hid (r=.error (c,p)):=by have:=P1.out;simp only[Ay,Option.some.injEq] at this;exact this.symm
   clear H P1;go_wp2_with fail
   go_ret
   rw[HQ.out];exact⟨F1.out,R1.out,u,rfl,fun l j e=>by simp at e⟩
  ·obtain⟨f,rfl⟩:∃f,gk=f+1:=by
    cases gk with
    | zero=>exact absurd P1.out (by simp[Ce,Ay])
    | succ f=>exact⟨f,rfl⟩
   simp only[ec] at e3;have f7:Hid (Aj (fun k=>w.heap.size<=k) wr z (.pointer (some ⟨u,0,none⟩))):=T1.out ⟨t,rfl⟩;have HB:Hid _:=U3 (show Ce K self m d (f+1) z t=some r from P1.out);obtain⟨k8,k7,dd,hb,hI,l3,i9,t0,t1,t2⟩:=R1.out.open;obtain⟨e8,u0,u1,u2⟩:=RS.cells hb i9 t0 t1 t2;have c0:=Aa hb 0;have c1:=Aa hb 1;have c3:=Aa hb 3;have k0:=Aa e8 0;have k1:=Aa e8 1;have j0:=Ac hb;have j5:=F1.out.size;have e5:(t:Int)<((N+1:Nat):Int):=by omega
   obtain⟨sb,h7⟩:∃sb,Bn (K t).cl=sb:=⟨_,rfl⟩;obtain⟨tx,i3⟩:∃tx,Cf (K t)=tx:=⟨_,rfl⟩;obtain⟨C,f9⟩:∃C,(K t).at'=C:=⟨_,rfl⟩;rw[h7] at t0 u0;rw[i3] at t1 u1;rw[f9] at t2 u2;clear hb e8 h7 i3 f9 H P1 T1 e3;go_wp2_with fail
   go_big_region_o
   have T2:Hid (Ap _ wr.heap.size sb tx (C:Int)):=Ap.new wr sb tx (C:Int);have G2:Hid (Ad wr (wr.alloc (.cells #[.int .u8 (sb:Int),.string tx,.int .i64 (C:Int)] 54)).drew):=((Ad.refl wr).alloc _).drew;clear c0 c1 c3 k0 k1 u0 u1 u2 t0 t1 t2 e5;generalize (wr.alloc (.cells #[.int .u8 (sb:Int),.string tx,.int .i64 (C:Int)] 54)).drew=W2 at G2 T2 |-;obtain⟨bt,g4⟩:∃bt,wr.heap.size=bt:=⟨_,rfl⟩;rw[g4] at T2 j0 j5 |-;have l4:bt<=wr.heap.size:=by omega
   have l5:wr.heap.size<=bt:=by omega
   clear g4;have T:bt≠br:=by omega
   have R2:Hid (RSd K N W2 br bl (.ok t) d):=R1.out.grew G2.out;have F2:Hid (Fr (·≠br) w W2):=F1.out.trans (Fr.grew G2.out);have X2:Hid (Aj (fun k=>w.heap.size<=k) W2 z (.pointer (some ⟨u,0,none⟩))):=f7.out.fr (Fr.grew G2.out) fun _ _ q=>q;clear f7 R1 F1 G2;obtain⟨bq,e7⟩:∃b,isS K (.ok t) [91]=b:=⟨_,rfl⟩;go_wp2_with fail
   refine(J5 HK.out W2 br bl (.ok t) d ⟨#[91]⟩ (by decide) R2.out bq e7).mono ?_;rintro e W3 ⟨rfl,g3⟩;have R3:Hid (RSd K N W3 br bl (.ok t) d):=R2.out.grew g3;have F3:Hid (Fr (·≠br) w W3):=F2.out.trans (Fr.grew g3);have X3:Hid (Aj (fun k=>w.heap.size<=k) W3 z (.pointer (some ⟨u,0,none⟩))):=X2.out.fr (Fr.grew g3) fun _ _ q=>q;have T3:Hid (Ap W3 bt sb tx (C:Int)):=T2.out.grew g3;clear g3 R2 F2 X2 T2;go_wp2_with fail
   refine(Gc HK.out HL.out W3 br bl (.ok t) d ⟨#[46]⟩ (by decide) hN R3.out).mono ?_;rintro e Y ⟨rfl,h5,c5⟩;have R4:Hid (RSd K N Y br bl (Cp K (.ok t) [46]) d):=h5;have F4:Hid (Fr (·≠br) w Y):=F3.out.trans c5;have X4:Hid (Aj (fun k=>w.heap.size<=k) Y z (.pointer (some ⟨u,0,none⟩))):=X3.out.fr (c5.mono fun k q=>by omega) fun _ _ q=>q;have T4:Hid (Ap Y bt sb tx (C:Int)):=T3.out.fr c5 T;clear h5 c5 R3 F3 X3 T3;obtain⟨bp,e6⟩:∃b,isS K (.ok t) (ByteArray.mk #[46]).data.toList=b:=⟨_,rfl⟩;rw[e6];have V:Hid (((K t).tx==[91])=bq):=e7;have a2:Hid (((K t).tx==[46])=bp):=e6;clear e7 e6;rcases HB.out with⟨z1,n,h1,hk⟩|⟨z1,z2,n,h1,hk⟩|⟨z1,z2,j4⟩
   ·obtain rfl:true=bq:=by rw[<- V.out,z1]
    have g6:t<N:=HL.out.lt hI (m:=[91]) (by simpa using z1) (by decide);have c7:((K t).tx==[46])=false:=by rw[eq_of_beq z1];decide
    have J:Hid (RSd K N Y br bl (.ok t) d):=by
     have:=R4.out;rw[show Cp K (.ok t) [46]=.ok t from by simp only[Cp,c7];rfl] at this;exact this
    have H1:Hid (Ay (inS K t d) (self 0 (d+1))=some n):=h1;have W:Hid (Ay (stX n) _=some r):=hk;clear R4 HB V a2 z1 c7 h1 hk;go_wp2_with fail
    refine(Jb hN Y br bl t d hd g6 J.out).mono ?_;rintro e W5 ⟨rfl,h6,c6⟩;have R5:Hid (RSd K N W5 br bl (inS K t d) (d+1)):=h6;have F5:Hid (Fr (·≠br) w W5):=F4.out.trans c6;have X5:Hid (Aj (fun k=>w.heap.size<=k) W5 z (.pointer (some ⟨u,0,none⟩))):=X4.out.fr (c6.mono fun k q=>by omega) fun _ _ q=>q;have T5:Hid (Ap W5 bt sb tx (C:Int)):=T4.out.fr c6 T;clear h6 c6 J F4 X4 T4;go_wp2_with fail
    refine(HS.out W5 0 (d+1) (inS K t d) n (by omega) (Hu hd) R5.out H1.out).mono ?_;rintro e a ⟨G,b6,D,rfl,h9⟩;have R6:Hid (RSd K N a br bl (stX n) (d+1)):=b6;have F6:Hid (Fr (·≠br) w a):=F5.out.trans G;have X6:Hid (Aj (fun k=>w.heap.size<=k) a z (.pointer (some ⟨u,0,none⟩))):=X5.out.fr (G.mono fun k q=>by omega) fun _ _ q=>q;have T6:Hid (Ap a bt sb tx (C:Int)):=T5.out.fr G T;have l6:=F5.out.size;have Y6:Hid (OkS (stX n)->Aj (fun k=>w.heap.size<=k) a (Ao noX n) (.pointer (some ⟨D,0,none⟩))):=fun o=>by
     obtain⟨j,e⟩:=Ci noX o;exact(h9 _ _ e).fr (Fr.refl _ _) fun _ _ q=>by omega
    have S:=F6.out.size;clear G b6 h9 R5 F5 X5 T5;have q2:=Aa T6.out 2;have a6:=Ac T6.out;go_wp2_with fail
    have hG:Ad a ((a.alloc (.cells #[.pointer (some ⟨u,0,none⟩),.pointer (some ⟨D,0,none⟩)] 57)).alloc (.cells #[.string ⟨#[97,116]⟩,.int .i64 (C:Int),.string ⟨#[]⟩,.int .i64 0,.int .i64 0,.string ⟨#[]⟩,.slice none 0 0,.slice none 0 0,.slice (some ⟨a.heap.size,0,none⟩) 2 2,.int .i64 0,.int .i64 0] 122)):=((Ad.refl _).alloc _).alloc _;have R7:Hid (RSd K N ((a.alloc (.cells #[.pointer (some ⟨u,0,none⟩),.pointer (some ⟨D,0,none⟩)] 57)).alloc (.cells #[.string ⟨#[97,116]⟩,.int .i64 (C:Int),.string ⟨#[]⟩,.int .i64 0,.int .i64 0,.string ⟨#[]⟩,.slice none 0 0,.slice none 0 0,.slice (some ⟨a.heap.size,0,none⟩) 2 2,.int .i64 0,.int .i64 0] 122)) br bl (stX n) (d+1)):=R6.out.grew hG;have F7:Hid (Fr (·≠br) w ((a.alloc (.cells #[.pointer (some ⟨u,0,none⟩),.pointer (some ⟨D,0,none⟩)] 57)).alloc (.cells #[.string ⟨#[97,116]⟩,.int .i64 (C:Int),.string ⟨#[]⟩,.int .i64 0,.int .i64 0,.string ⟨#[]⟩,.slice none 0 0,.slice none 0 0,.slice (some ⟨a.heap.size,0,none⟩) 2 2,.int .i64 0,.int .i64 0] 122))):=F6.out.trans (Fr.grew hG);have E7:Hid (Av ((a.alloc (.cells #[.pointer (some ⟨u,0,none⟩),.pointer (some ⟨D,0,none⟩)] 57)).alloc (.cells #[.string ⟨#[97,116]⟩,.int .i64 (C:Int),.string ⟨#[]⟩,.int .i64 0,.int .i64 0,.string ⟨#[]⟩,.slice none 0 0,.slice none 0 0,.slice (some ⟨a.heap.size,0,none⟩) 2 2,.int .i64 0,.int .i64 0] 122)) (a.heap.size+1) ⟨#[97,116]⟩ (C:Int) ⟨#[]⟩ 0 0 ⟨#[]⟩ (some ⟨a.heap.size,0,none⟩) 2 2):=Ag (Fv a _);have f0:(a.alloc (.cells #[.pointer (some ⟨u,0,none⟩),.pointer (some ⟨D,0,none⟩)] 57)).heap[a.heap.size]?=some (.cells #[.pointer (some ⟨u,0,none⟩),.pointer (some ⟨D,0,none⟩)] 57 (0,0)):=Ag rfl;have G7:Hid (((a.alloc (.cells #[.pointer (some ⟨u,0,none⟩),.pointer (some ⟨D,0,none⟩)] 57)).alloc (.cells #[.string ⟨#[97,116]⟩,.int .i64 (C:Int),.string ⟨#[]⟩,.int .i64 0,.int .i64 0,.string ⟨#[]⟩,.slice none 0 0,.slice none 0 0,.slice (some ⟨a.heap.size,0,none⟩) 2 2,.int .i64 0,.int .i64 0] 122)).heap[a.heap.size]?=some (.cells #[.pointer (some ⟨u,0,none⟩),.pointer (some ⟨D,0,none⟩)] 57 (0,0))):=((Fr.grew (P:=fun _=>True) ((Ad.refl _).alloc _)).block _ (Ac f0) trivial).trans f0;have X7:Hid (Aj (fun k=>w.heap.size<=k/\k<a.heap.size) ((a.alloc (.cells #[.pointer (some ⟨u,0,none⟩),.pointer (some ⟨D,0,none⟩)] 57)).alloc (.cells #[.string ⟨#[97,116]⟩,.int .i64 (C:Int),.string ⟨#[]⟩,.int .i64 0,.int .i64 0,.string ⟨#[]⟩,.slice none 0 0,.slice none 0 0,.slice (some ⟨a.heap.size,0,none⟩) 2 2,.int .i64 0,.int .i64 0] 122)) z (.pointer (some ⟨u,0,none⟩))):=X6.out.fr (Fr.grew hG) fun k hk q=>⟨q,hk⟩;have Y7:Hid (OkS (stX n)->Aj (fun k=>w.heap.size<=k/\k<a.heap.size) ((a.alloc (.cells #[.pointer (some ⟨u,0,none⟩),.pointer (some ⟨D,0,none⟩)] 57)).alloc (.cells #[.string ⟨#[97,116]⟩,.int .i64 (C:Int),.string ⟨#[]⟩,.int .i64 0,.int .i64 0,.string ⟨#[]⟩,.slice none 0 0,.slice none 0 0,.slice (some ⟨a.heap.size,0,none⟩) 2 2,.int .i64 0,.int .i64 0] 122)) (Ao noX n) (.pointer (some ⟨D,0,none⟩))):=fun o=>(Y6.out o).fr (Fr.grew hG) fun k hk q=>⟨q,hk⟩;have A7:Hid (OkS (stX n)->Aj (fun k=>w.heap.size<=k) ((a.alloc (.cells #[.pointer (some ⟨u,0,none⟩),.pointer (some ⟨D,0,none⟩)] 57)).alloc (.cells #[.string ⟨#[97,116]⟩,.int .i64 (C:Int),.string ⟨#[]⟩,.int .i64 0,.int .i64 0,.string ⟨#[]⟩,.slice none 0 0,.slice none 0 0,.slice (some ⟨a.heap.size,0,none⟩) 2 2,.int .i64 0,.int .i64 0] 122)) (dAt z (Ao noX n)) (.pointer (some ⟨a.heap.size+1,0,none⟩))):=fun o=>Sd (nm:=⟨#[]⟩) (kids:=[z,Ao noX n]) rfl (by decide) (fun k y e=>by
     match k,e with
     | 0,e=>simp at e;subst e;exact⟨_,rfl,X6.out⟩
     | 1,e=>simp at e;subst e;exact⟨_,rfl,Y6.out o⟩
     | k+2,e=>simp at e) S (.inr (.inr (.inr (.inr (.inr (.inr (.inr (.inr (.inr (.inr (.inr (.inr (.inr (.inr (.inr (.inr (.inr (.inl ⟨rfl,_,_,rfl,rfl⟩))))))))))))))))))
    clear hG f0 R6 F6 T6 X6 Y6 q2;generalize ((a.alloc (.cells #[.pointer (some ⟨u,0,none⟩),.pointer (some ⟨D,0,none⟩)] 57)).alloc (.cells #[.string ⟨#[97,116]⟩,.int .i64 (C:Int),.string ⟨#[]⟩,.int .i64 0,.int .i64 0,.string ⟨#[]⟩,.slice none 0 0,.slice none 0 0,.slice (some ⟨a.heap.size,0,none⟩) 2 2,.int .i64 0,.int .i64 0] 122))=W7 at R7 F7 E7 G7 X7 Y7 A7 |-;obtain⟨g,hg⟩:∃g,a.heap.size=g:=⟨_,rfl⟩;rw[hg] at E7 G7 X7 Y7 A7 S a6 |-;clear hg;have d0:g≠br:=by omega
    have b4:g+1≠br:=by omega
    obtain⟨bu,a7⟩:∃b,isS K (stX n) [58,61]=b:=⟨_,rfl⟩;have X:Hid (Calls Tryz.prog 32 #[.pointer (some ⟨br,0,none⟩),.string ⟨#[58,61]⟩] W7 fun e w'=>e=.returned (.bool bu)/\RSd K N w' br bl (Cp K (stX n) [58,61]) (d+1)/\Fr (·≠br) W7 w'):=by
     have:=Gc HK.out HL.out W7 br bl (stX n) (d+1) ⟨#[58,61]⟩ (by decide) hN R7.out;rw[show(⟨#[58,61]⟩:ByteArray).data.toList=[58,61] from rfl,a7] at this;exact this
    cases bu with
    | false =>
     obtain⟨b9,b5⟩:=kA (A:=fun j=>bX (self 0 (d+1) j) fun v j=>Cd K [93] j fun j=>Ce K self m d f (Gp z (Ao noX n) v) j) (B:=fun j=>Cd K [93] j fun j=>Ce K self m d f (dAt z (Ao noX n)) j) a7 W.out;have d8:Hid (Ay (Bk K (stX n) [93]) (fun j=>Ce K self m d f (dAt z (Ao noX n)) j)=some r):=Dk b5;rw[b9] at X;clear a7 b9 b5 W E7 G7 X7 Y7;refine X.out.mono ?_;rintro e W8 ⟨rfl,b7,O⟩;have R8:Hid (RSd K N W8 br bl (stX n) (d+1)):=b7;have F8:Hid (Fr (·≠br) w W8):=F7.out.trans O;have A8:Hid (OkS (stX n)->Aj (fun k=>w.heap.size<=k) W8 (dAt z (Ao noX n)) (.pointer (some ⟨g+1,0,none⟩))):=fun o=>(A7.out o).fr (O.mono fun k q=>by omega) fun _ _ q=>q;clear b7 O R7 F7 A7 X;go_wp2_with fail
     refine(Cu HK.out HL.out W8 br bl _ (d+1) ⟨#[93]⟩ (by decide) hN R8.out).mono ?_;rintro e E ⟨rfl,b8,Q⟩;have R9:Hid (RSd K N E br bl (Bk K (stX n) [93]) (d+1)):=b8;have F9:Hid (Fr (·≠br) w E):=F8.out.trans Q;have A9:Hid (OkS (stX n)->Aj (fun k=>w.heap.size<=k) E (dAt z (Ao noX n)) (.pointer (some ⟨g+1,0,none⟩))):=fun o=>(A8.out o).fr (Q.mono fun k q=>by omega) fun _ _ q=>q;clear b8 Q R8 F8 A8;go_wp2_with fail
     refine(Gf E br bl _ d hd R9.out).mono ?_;rintro e F ⟨rfl,d1,a9⟩;have a4:Hid (RSd K N F br bl (Bk K (stX n) [93]) d):=d1;have U:Hid (Fr (·≠br) w F):=F9.out.trans a9;have i4:Hid (OkS (Bk K (stX n) [93])->Aj (fun k=>w.heap.size<=k) F (dAt z (Ao noX n)) (.pointer (some ⟨g+1,0,none⟩))):=fun o=>(A9.out (Cy o)).fr (a9.mono fun k q=>by omega) fun _ _ q=>q;clear d1 a9 R9 F9 A9;go_wp2_with fail
     go_roundg f
     case measure=>omega
     case rel=>exact⟨_,_,g+1,rfl,a4,i4,d8,U⟩
    | true =>
     obtain⟨j1,b9,f1,b5⟩:=jZ (A:=fun j=>bX (self 0 (d+1) j) fun v j=>Cd K [93] j fun j=>Ce K self m d f (Gp z (Ao noX n) v) j) (B:=fun j=>Cd K [93] j fun j=>Ce K self m d f (dAt z (Ao noX n)) j) a7 W.out;obtain⟨I,h2,g8⟩:=A2 (s:=.ok (j1+1)) (f:=self 0 (d+1)) noX b5;have d8:Hid (Ay (Bk K (stX I) [93]) (fun j=>Ce K self m d f (Gp z (Ao noX n) (Ao noX I)) j)=some r):=Dk g8;have H2:Hid (Ay (.ok (j1+1)) (self 0 (d+1))=some I):=h2;have i7:d+1<=24:=Hu (K:=K) (i:=t) hd (by
      by_cases g7:OkS (inS K t d)
      ·exact g7
      ·exact absurd (Dw H1.out f1) g7)
     have Y8:Hid (Aj (fun k=>w.heap.size<=k/\k<g) W7 (Ao noX n) (.pointer (some ⟨D,0,none⟩))):=Y7.out f1;rw[b9] at X;clear a7 b9 b5 g8 h2 W Y7 A7 f1 H1;refine X.out.mono ?_;rintro e W8 ⟨rfl,b7,O⟩;have R8:Hid (RSd K N W8 br bl (.ok (j1+1)) (d+1)):=b7;have F8:Hid (Fr (·≠br) w W8):=F7.out.trans O;have d7:Hid (Fr (·≠br) W7 W8):=O;clear b7 O R7 F7 X;go_wp2_with fail
     refine(HS.out W8 0 (d+1) (.ok (j1+1)) I (by omega) (fun _=>i7) R8.out H2.out).mono ?_;rintro e E ⟨Q,b8,bv,rfl,i2⟩;have M:=d7.out.trans Q;have R9:Hid (RSd K N E br bl (stX I) (d+1)):=b8;have F9:Hid (Fr (·≠br) w E):=F8.out.trans Q;have l7:=d7.out.size;have j2:g<W7.heap.size:=Ac G7.out;have l2:g+1<W7.heap.size:=Ac E7.out;have X9:Hid (Aj (fun k=>w.heap.size<=k/\k≠g/\k≠g+1) E z (.pointer (some ⟨u,0,none⟩))):=X7.out.fr (M.mono fun k q=>by omega) fun k _ q=>⟨q.1,by omega,by omega⟩;have Y9:Hid (Aj (fun k=>w.heap.size<=k/\k≠g/\k≠g+1) E (Ao noX n) (.pointer (some ⟨D,0,none⟩))):=Y8.out.fr (M.mono fun k q=>by omega) fun k _ q=>⟨q.1,by omega,by omega⟩;have V9:Hid (OkS (stX I)->Aj (fun k=>w.heap.size<=k/\k≠g/\k≠g+1) E (Ao noX I) (.pointer (some ⟨bv,0,none⟩))):=fun o=>by
      obtain⟨j,e⟩:=Ci noX o;exact(i2 _ _ e).fr (Fr.refl _ _) fun k _ q=>⟨by omega,by omega,by omega⟩
     have E9:Hid (Av E (g+1) ⟨#[97,116]⟩ (C:Int) ⟨#[]⟩ 0 0 ⟨#[]⟩ (some ⟨g,0,none⟩) 2 2):=E7.out.of M b4;have G9:Hid (E.heap[g]?=some (.cells #[.pointer (some ⟨u,0,none⟩),.pointer (some ⟨D,0,none⟩)] 57 (0,0))):=(M.block g j2 d0).trans G7.out;have l8:=F9.out.size;have k3:br<E.heap.size:=by omega
     clear Q b8 i2 M R8 F8 d7 X7 Y8 E7 G7 H2;have x0:=Aa E9.out 0;have y0:=Ab E9.out 0;have x8:=Aa E9.out 8;have R:Fr (·≠g+1) E (E.setCell ⟨g+1,0,none⟩ (.string ⟨#[112,117,116]⟩)):=(Fr.refl _ E).set (by simp) _;have a0:Hid (Av (E.setCell ⟨g+1,0,none⟩ (.string ⟨#[112,117,116]⟩)) (g+1) ⟨#[112,117,116]⟩ (C:Int) ⟨#[]⟩ 0 0 ⟨#[]⟩ (some ⟨g,0,none⟩) 2 2):=E9.out.op _;have f4:(E.setCell ⟨g+1,0,none⟩ (.string ⟨#[112,117,116]⟩)).heap[g]?=some (.cells #[.pointer (some ⟨u,0,none⟩),.pointer (some ⟨D,0,none⟩)] 57 (0,0)):=(R.block g (Ac G9.out) (by omega)).trans G9.out;have a3:Hid ((E.setCell ⟨g+1,0,none⟩ (.string ⟨#[112,117,116]⟩)).ownsRow w.heap.size 57 1 (.slice (some ⟨g,0,none⟩) 2 2) 2 [.pointer (some ⟨u,0,none⟩),.pointer (some ⟨D,0,none⟩)]):=⟨rfl,.inr ⟨g,2,_,rfl,S,f4,by omega,by unfold maxLen;omega,rfl,rfl⟩⟩;have a4:Hid (RSd K N (E.setCell ⟨g+1,0,none⟩ (.string ⟨#[112,117,116]⟩)) br bl (stX I) (d+1)):=R9.out.fr R (Ne.symm b4) (by omega);have U:Hid (Fr (·≠br) w (E.setCell ⟨g+1,0,none⟩ (.string ⟨#[112,117,116]⟩))):=Fr.freshT F9.out (R.mono fun _ q=>q.2) (by omega);have e2:Hid (Aj (fun k=>w.heap.size<=k/\k≠g/\k≠g+1) (E.setCell ⟨g+1,0,none⟩ (.string ⟨#[112,117,116]⟩)) z (.pointer (some ⟨u,0,none⟩))):=X9.out.fr (R.mono fun _ q=>q.2.2) fun _ _ q=>q;have e4:Hid (Aj (fun k=>w.heap.size<=k/\k≠g/\k≠g+1) (E.setCell ⟨g+1,0,none⟩ (.string ⟨#[112,117,116]⟩)) (Ao noX n) (.pointer (some ⟨D,0,none⟩))):=Y9.out.fr (R.mono fun _ q=>q.2.2) fun _ _ q=>q;have e0:Hid (OkS (stX I)->Aj (fun k=>w.heap.size<=k/\k≠g/\k≠g+1) (E.setCell ⟨g+1,0,none⟩ (.string ⟨#[112,117,116]⟩)) (Ao noX I) (.pointer (some ⟨bv,0,none⟩))):=fun o=>(V9.out o).fr (R.mono fun _ q=>q.2.2) fun _ _ q=>q;clear R f4;go_upto_region 14 with fail
     clear x0 y0 x8 E9 G9 R9 F9 X9 Y9 V9;generalize E.setCell ⟨g+1,0,none⟩ (.string ⟨#[112,117,116]⟩)=F at a0 a3 a4 U e2 e4 e0 |-;have x8:=Aa a0.out 8;have f6:Hid ((F.alloc (.cells #[.pointer (some ⟨bv,0,none⟩)] 57)).ownsRow w.heap.size 57 1 (.slice (some ⟨g,0,none⟩) 2 2) 2 [.pointer (some ⟨u,0,none⟩),.pointer (some ⟨D,0,none⟩)]):=a3.out.alloc _;have k6:=U.out.size;go_wp2_with (at_builtin;refine wpList_append_lies _ rfl _ _ 120 rfl _ 57 i0 _ 1 8 Tryz.underlying120 j3 j6 j7 c7 rfl (by decide) (.slice (some ⟨g,0,none⟩) 2 2) _ [.pointer (some ⟨u,0,none⟩),.pointer (some ⟨D,0,none⟩)] rfl f6.out _ 1 1 [.pointer (some ⟨bv,0,none⟩)] rfl rfl (nB F _) (nC rfl) (by decide) (by unfold maxLen;omega) (by omega) (by simp;omega) (F.heap.size+1) (by simp) ?_)
     intro g' L w3 h3 Z c8 g9;have b3:Fr (·≠g) F w3:=by
      have a1:=World.grownBy_alloc F (.cells #[.pointer (some ⟨bv,0,none⟩)] 57) (some g);exact⟨Z.os.trans a1.os,Z.tape.trans a1.tape,Z.output.trans a1.output,Nat.le_trans a1.size Z.size,fun k hk hp=>(Z.block k (Nat.lt_of_lt_of_le hk a1.size) (fun e=>hp (by simpa [Value.ownBlock] using e))).trans (a1.block k hk (fun e=>hp (by simpa using e)))⟩
     have c9:g'=g\/g'=F.heap.size+1:=by
      rcases c8 with q|q
      ·exact .inl (by simpa [Value.ownBlock] using q.symm)
      ·exact .inr q
     have d5:Hid (Av w3 (g+1) ⟨#[112,117,116]⟩ (C:Int) ⟨#[]⟩ 0 0 ⟨#[]⟩ (some ⟨g,0,none⟩) 2 2):=a0.out.of b3 (by omega);have e9:Fr (·≠g+1) w3 (w3.setCell ⟨g+1,8,none⟩ (.slice (some ⟨g',0,none⟩) 3 L)):=(Fr.refl _ w3).set (by simp) _;have d9:Hid (RSd K N (w3.setCell ⟨g+1,8,none⟩ (.slice (some ⟨g',0,none⟩) 3 L)) br bl (stX I) (d+1)):=(a4.out.fr b3 (Ne.symm d0) (by omega)).fr e9 (Ne.symm b4) (by omega);have d6:Hid (Fr (·≠br) w (w3.setCell ⟨g+1,8,none⟩ (.slice (some ⟨g',0,none⟩) 3 L))):=Fr.freshT (Fr.freshT U.out (b3.mono fun _ q=>q.2) S) (e9.mono fun _ q=>q.2) (by omega);have d4:Hid (OkS (stX I)->Aj (fun k=>w.heap.size<=k) (w3.setCell ⟨g+1,8,none⟩ (.slice (some ⟨g',0,none⟩) 3 L)) (Gp z (Ao noX n) (Ao noX I)) (.pointer (some ⟨g+1,0,none⟩))):=fun o=>nA a0.out (by omega) (by omega) e2.out e4.out (e0.out o) b3 h3 c9 (.inr (.inr (.inr (.inr (.inr (.inr (.inr (.inr (.inr (.inr (.inr (.inr (.inr (.inr (.inr (.inr (.inr (.inr (.inl ⟨rfl,_,_,_,rfl,rfl⟩)))))))))))))))))));have x9:=Aa d5.out 8;have y9:=Ab d5.out 8;clear h3 Z c8 g9 c9 b3 e9 f6 a3 a0 a4 U e2 e4 e0 x8;go_wp2_with fail
     clear x9 y9 d5;generalize w3.setCell ⟨g+1,8,none⟩ (.slice (some ⟨g',0,none⟩) 3 L)=W11 at d9 d6 d4 |-;refine(Cu HK.out HL.out W11 br bl _ (d+1) ⟨#[93]⟩ (by decide) hN d9.out).mono ?_;rintro e c2 ⟨rfl,d2,b0⟩;have f8:Hid (RSd K N c2 br bl (Bk K (stX I) [93]) (d+1)):=d2;have f3:Hid (Fr (·≠br) w c2):=d6.out.trans b0;have f2:Hid (OkS (stX I)->Aj (fun k=>w.heap.size<=k) c2 (Gp z (Ao noX n) (Ao noX I)) (.pointer (some ⟨g+1,0,none⟩))):=fun o=>(d4.out o).fr (b0.mono fun k q=>by omega) fun _ _ q=>q;clear d2 b0 d9 d6 d4;go_wp2_with fail
     refine(Gf c2 br bl _ d hd f8.out).mono ?_;rintro e e1 ⟨rfl,d3,b2⟩;have i8:Hid (RSd K N e1 br bl (Bk K (stX I) [93]) d):=d3;have i6:Hid (Fr (·≠br) w e1):=f3.out.trans b2;have i5:Hid (OkS (Bk K (stX I) [93])->Aj (fun k=>w.heap.size<=k) e1 (Gp z (Ao noX n) (Ao noX I)) (.pointer (some ⟨g+1,0,none⟩))):=fun o=>(f2.out (Cy o)).fr (b2.mono fun k q=>by omega) fun _ _ q=>q;clear d3 b2 f8 f3 f2;go_wp2_with fail
     go_roundg f
     case measure=>omega
     case rel=>exact⟨_,_,g+1,rfl,i8,i5,d8,i6⟩
   ·obtain rfl:false=bq:=by rw[<- V.out,z1]
    obtain rfl:true=bp:=by rw[<- a2.out,z2]
    have g6:t<N:=HL.out.lt hI (m:=[46]) (by simpa using z2) (by decide);have J:Hid (RSd K N Y br bl (.ok (t+1)) d):=by
     have:=R4.out;rw[show Cp K (.ok t) [46]=.ok (t+1) from by simp only[Cp,z2];rfl] at this;exact this
    have H1:Hid (Ay (.ok (t+1)) (Au K)=some n):=h1;have W:Hid (Ay (stX n) (fun j=>Ce K self m d f (dAt z (Fg (Ao [] n))) j)=some r):=hk;obtain⟨k2,j9,k9,c4,l0,k5,g2,t0,t1,t2⟩:=J.out.open;obtain⟨a8,-,-,u2⟩:=RS.cells c4 g2 t0 t1 t2;have c0:=Aa c4 0;have c1:=Aa c4 1;have k0:=Aa a8 0;have k1:=Aa a8 1;have e5:((t+1:Nat):Int)<((N+1:Nat):Int):=by omega
    obtain⟨ab,g0⟩:∃ab,(K (t+1)).at'=ab:=⟨_,rfl⟩;rw[g0] at t2 u2;clear R4 HB V a2 z1 z2 h1 hk c4 a8 g0 t0 t1;go_upto_region 18 with fail
    go_big_region_o
    clear c0 c1 k0 k1 t2 u2 e5;have R5:Hid (RSd K N Y.drew br bl (.ok (t+1)) d):=J.out.grew (Ad.refl _).drew;have F5:Hid (Fr (·≠br) w Y.drew):=F4.out.drew;have X5:Hid (Aj (fun k=>w.heap.size<=k) Y.drew z (.pointer (some ⟨u,0,none⟩))):=X4.out.fr (Fr.grew (Ad.refl _).drew) fun _ _ q=>q;have T5:Hid (Ap Y.drew bt sb tx (C:Int)):=T4.out.grew (Ad.refl _).drew;clear J F4 X4 T4;generalize Y.drew=W5 at R5 F5 X5 T5 |-;go_wp2_with fail
    refine(Er HL.out W5 br bl (.ok (t+1)) d hN R5.out n H1.out).mono ?_;rintro e a ⟨rfl,b6,G⟩;have R6:Hid (RSd K N a br bl (stX n) d):=b6;have F6:Hid (Fr (·≠br) w a):=F5.out.trans G;have X6:Hid (Aj (fun k=>w.heap.size<=k) a z (.pointer (some ⟨u,0,none⟩))):=X5.out.fr (G.mono fun k q=>by omega) fun _ _ q=>q;have T6:Hid (Ap a bt sb tx (C:Int)):=T5.out.fr G T;have f5:Hid (OkS (stX n)->(Ca n).data.toList=Ao [] n):=fun o=>Dx o;clear b6 G R5 F5 X5 T5 H1;obtain⟨nv,h0⟩:∃nv,Ca n=nv:=⟨_,rfl⟩;rw[h0] at f5 |-;clear h0;have S:=F6.out.size;have a6:=Ac T6.out;have E7:Hid (Av (a.alloc (.cells #[.string ⟨#[118,97,108,117,101]⟩,.int .i64 (ab:Int),.string ⟨#[]⟩,.int .i64 3,.int .i64 0,.string nv,.slice none 0 0,.slice none 0 0,.slice none 0 0,.int .i64 0,.int .i64 0] 122)) a.heap.size ⟨#[118,97,108,117,101]⟩ (ab:Int) ⟨#[]⟩ 3 0 nv none 0 0):=Ag rfl;have a5:Ad a (a.alloc (.cells #[.string ⟨#[118,97,108,117,101]⟩,.int .i64 (ab:Int),.string ⟨#[]⟩,.int .i64 3,.int .i64 0,.string nv,.slice none 0 0,.slice none 0 0,.slice none 0 0,.int .i64 0,.int .i64 0] 122)):=(Ad.refl _).alloc _;have R7:Hid (RSd K N (a.alloc (.cells #[.string ⟨#[118,97,108,117,101]⟩,.int .i64 (ab:Int),.string ⟨#[]⟩,.int .i64 3,.int .i64 0,.string nv,.slice none 0 0,.slice none 0 0,.slice none 0 0,.int .i64 0,.int .i64 0] 122)) br bl (stX n) d):=R6.out.grew a5;have F7:Hid (Fr (·≠br) w (a.alloc (.cells #[.string ⟨#[118,97,108,117,101]⟩,.int .i64 (ab:Int),.string ⟨#[]⟩,.int .i64 3,.int .i64 0,.string nv,.slice none 0 0,.slice none 0 0,.slice none 0 0,.int .i64 0,.int .i64 0] 122))):=F6.out.trans (Fr.grew a5);have X7:Hid (Aj (fun k=>w.heap.size<=k) (a.alloc (.cells #[.string ⟨#[118,97,108,117,101]⟩,.int .i64 (ab:Int),.string ⟨#[]⟩,.int .i64 3,.int .i64 0,.string nv,.slice none 0 0,.slice none 0 0,.slice none 0 0,.int .i64 0,.int .i64 0] 122)) z (.pointer (some ⟨u,0,none⟩))):=X6.out.fr (Fr.grew a5) fun _ _ q=>q;have T7:Hid (Ap (a.alloc (.cells #[.string ⟨#[118,97,108,117,101]⟩,.int .i64 (ab:Int),.string ⟨#[]⟩,.int .i64 3,.int .i64 0,.string nv,.slice none 0 0,.slice none 0 0,.slice none 0 0,.int .i64 0,.int .i64 0] 122)) bt sb tx (C:Int)):=T6.out.grew a5;have Y7:Hid (Aj (fun k=>w.heap.size<=k) (a.alloc (.cells #[.string ⟨#[118,97,108,117,101]⟩,.int .i64 (ab:Int),.string ⟨#[]⟩,.int .i64 3,.int .i64 0,.string nv,.slice none 0 0,.slice none 0 0,.slice none 0 0,.int .i64 0,.int .i64 0] 122)) (Fg nv.data.toList) (.pointer (some ⟨a.heap.size,0,none⟩))):=Aj.leaf E7.out S (.inl ⟨rfl,.inr (.inr (.inr (.inr ⟨rfl,rfl⟩)))⟩);clear a5 E7;go_upto_region 21 with fail
    generalize a.alloc (.cells #[.string ⟨#[118,97,108,117,101]⟩,.int .i64 (ab:Int),.string ⟨#[]⟩,.int .i64 3,.int .i64 0,.string nv,.slice none 0 0,.slice none 0 0,.slice none 0 0,.int .i64 0,.int .i64 0] 122)=W7 at R7 F7 X7 T7 Y7 |-;obtain⟨D,g1⟩:∃D,a.heap.size=D:=⟨_,rfl⟩;rw[g1] at Y7 S a6 |-;clear g1 R6 F6 X6 T6;have q2:=Aa T7.out 2;have j8:=F7.out.size;go_wp2_with fail
    have hG:Ad W7 ((W7.alloc (.cells #[.pointer (some ⟨u,0,none⟩),.pointer (some ⟨D,0,none⟩)] 57)).alloc (.cells #[.string ⟨#[97,116]⟩,.int .i64 (C:Int),.string ⟨#[]⟩,.int .i64 0,.int .i64 0,.string ⟨#[]⟩,.slice none 0 0,.slice none 0 0,.slice (some ⟨W7.heap.size,0,none⟩) 2 2,.int .i64 0,.int .i64 0] 122)):=((Ad.refl _).alloc _).alloc _;go_roundg f
    case measure=>omega
    case rel=>exact⟨_,dAt z (Fg (Ao [] n)),W7.heap.size+1,rfl,R7.out.grew hG,fun o=>Sd (nm:=⟨#[]⟩) (kids:=[z,Fg (Ao [] n)]) rfl (by decide) (fun k y e=>by
     match k,e with
     | 0,e=>simp at e;subst e;exact⟨_,rfl,X7.out⟩
     | 1,e=>simp at e;subst e;exact⟨_,rfl,by rw[<- f5.out o];exact Y7.out⟩
     | k+2,e=>simp at e) j8 (.inr (.inr (.inr (.inr (.inr (.inr (.inr (.inr (.inr (.inr (.inr (.inr (.inr (.inr (.inr (.inr (.inr (.inl ⟨rfl,_,_,rfl,rfl⟩)))))))))))))))))),W,F7.out.trans (Fr.grew hG)⟩
   ·obtain rfl:false=bq:=by rw[<- V.out,z1]
    obtain rfl:false=bp:=by rw[<- a2.out,z2]
    have J:Hid (RSd K N Y br bl (.ok t) d):=by
     have:=R4.out;rw[show Cp K (.ok t) [46]=.ok t from by simp only[Cp,z2];rfl] at this;exact this
    clear R4 HB V a2 z1 z2;go_wp2_with fail
    go_ret
    rw[j4];exact⟨F4.out,J.out,u,rfl,fun y j e=>by rw[<- (Prod.mk.inj (Except.ok.inj e)).1];exact X4.out⟩
end Go.Proofs.YthcndopglfkmiaaGreatDoor.Sx
