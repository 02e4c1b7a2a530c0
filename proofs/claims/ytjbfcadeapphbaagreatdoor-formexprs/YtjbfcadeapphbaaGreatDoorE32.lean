/- The reference: what stands behind a first: its rows and nodes. -/
import Derived.Test.YtjbfcadeapphbaaGreatDoorE31
namespace Go.Proofs.YtjbfcadeapphbaaGreatDoor.Sx
set_option maxRecDepth 100000
set_option maxHeartbeats 600000
open Go.RowKit Go.Sort
theorem Sy {K:Nat->Tk}{i:Nat}(h:Dd.contains (K i).tx=false):(Ho.any fun m=>isS K (.ok i) m.data.toList)=false/\((K i).tx==Ch)=false:=by
 simp only[Dd,List.contains_cons,List.contains_nil,Bool.or_eq_false_iff,Bool.or_false] at h;refine⟨?_,h.2.2.2⟩;show(((K i).tx==[110,111,116])||(((K i).tx==[97,108,119,97,121,115])||(((K i).tx==[101,118,101,110,116,117,97,108,108,121])||false)))=false;rw[h.1,h.2.1,h.2.2.1];rfl
theorem Qt {K:Nat->Tk}{i:Nat}(h:Cr.contains (K i).tx=false):(Ie.any fun m=>isS K (.ok i) m.data.toList)=false/\((K i).tx==Bo)=false:=by
 simp only[Cr,List.contains_cons,List.contains_nil,Bool.or_eq_false_iff,Bool.or_false] at h;refine⟨?_,h.2.2.2.2⟩;show(((K i).tx==[45])||(((K i).tx==[100,111,109,97,105,110])||(((K i).tx==[112,111,119,101,114,115,101,116])||(((K i).tx==[102,108,97,116,116,101,110])||false))))=false;rw[h.1,h.2.1,h.2.2.1,h.2.2.2.1];rfl
theorem aZ {K:Nat->Tk}{N br bl:Nat}(hK:∀i,Bz (K i))(hL:Bn K N)(hN:N<=1000000)(w:World)(d i:Nat)(h:RSd K N w br bl (.ok i) d)
  (hk:Dd.contains (K i).tx=false) (r:Except (Nat×Nat) (PX×Nat)) (hP:∀W,RSd K N W br bl (.ok i) d->Calls Tryz.prog 18 #[.pointer (some ⟨br,0,none⟩),.int .i64 7] W (Cd K N W br bl d r)) :
  Calls Tryz.prog 18 #[.pointer (some ⟨br,0,none⟩),.int .i64 6] w (Cd K N w br bl d r):=by
 have O:Hid (∀i,Bz (K i)):=hK;have HR:Hid (RSd K N w br bl (.ok i) d):=h;have HL:Hid (Bn K N):=hL;have HP:Hid (∀W,RSd K N W br bl (.ok i) d->Calls Tryz.prog 18 #[.pointer (some ⟨br,0,none⟩),.int .i64 7] W (Cd K N W br bl d r)):=hP;have a:=Sy hk;have C:Hid ((Ho.any fun m=>isS K (.ok i) m.data.toList)=false):=a.1;have n:Hid (isS K (.ok i) Ch=false/\Cn K (.ok i) Ch=.ok i):=⟨a.2,by show(if (K i).tx==Ch then _ else _)=_;rw[a.2,if_neg (by simp)]⟩;obtain⟨a1,a0,dd,l,hI,a2,F,H,I,J⟩:=h.open;obtain⟨g,V,X,Y⟩:=RS.cells l F H I J;have c0:=Aa l 0;have c1:=Aa l 1;have c3:=Aa l 3;have k0:=Aa g 0;have k1:=Aa g 1;have G:=Ab l;have E:(i:Int)<((N+1:Nat):Int):=by omega
 have mo:=follows;obtain⟨f,u⟩:∃f,Bg (K i).cl=f:=⟨_,rfl⟩;obtain⟨tx,v⟩:∃tx,B2 (K i)=tx:=⟨_,rfl⟩;obtain⟨c,o⟩:∃c,(K i).at'=c:=⟨_,rfl⟩;rw[u] at H V;rw[v] at I X;rw[o] at J Y;clear l g h hK hL u v o hk a hP;go_enter Tryz.func18,Tryz.ntmps18
 go_wp2_with fail
 go_big_region_o
 have y:Hid (Ap _ w.heap.size f tx (c:Int)):=Ap.new w f tx (c:Int);have x:Hid (Ad w (w.alloc (.cells #[.int .u8 (f:Int),.string tx,.int .i64 (c:Int)] 55)).drew):=((Ad.refl w).alloc _).drew;clear c0 c1 c3 k0 k1 V X Y H I J E;generalize (w.alloc (.cells #[.int .u8 (f:Int),.string tx,.int .i64 (c:Int)] 55)).drew=W1 at x y |-;obtain⟨k,p⟩:∃k,w.heap.size=k:=⟨_,rfl⟩;rw[p] at y G |-;have a3:k<=w.heap.size:=by omega
 clear p;have q:k≠br:=by omega
 have D:Hid (RSd K N W1 br bl (.ok i) d):=HR.out.grew x.out;go_wp2_with fail
 refine(D0 O.out W1 br bl (.ok i) d _ Ho 3 false rfl (by decide) rfl (by decide) C.out D.out).mono ?_;rintro e z ⟨rfl,B⟩;have P:Hid (RSd K N z br bl (.ok i) d):=D.out.grew B;have M:Hid (Ad w z):=x.out.trans B;have R:Hid (Ap z k f tx (c:Int)):=y.out.grew B;clear B D x y;go_wp2_with fail
 refine(Fc O.out HL.out z br bl (.ok i) d ⟨#[101,110,97,98,108,101,100]⟩ (by decide) hN P.out).mono ?_;rintro e A ⟨rfl,s,j⟩;have Q:Hid (RSd K N A br bl (.ok i) d):=by show RSd _ _ _ _ _ _ _;rw[<- n.out.2];exact s
 have L:Hid (Fr (·≠br) w A):=(Fr.grew M.out).trans j;have T3:Hid (Ap A k f tx (c:Int)):=R.out.fr j q;clear s j P M R;have T:isS K (.ok i) (ByteArray.mk #[101,110,97,98,108,101,100]).data.toList=false:=n.out.1;rw[T];clear T;go_wp2_with fail
 refine(HP.out A Q.out).mono ?_;rintro e W4 hp;obtain⟨S,t,b,rfl,U⟩:=hp;have Z:Hid (Cd K N w br bl d r (.returned (.pointer (some ⟨b,0,none⟩))) W4):=Cd.from L.out ⟨S,t,b,rfl,U⟩;clear S t U Q L T3;go_wp2_with fail
 go_ret
 exact Z.out
theorem Ys {K:Nat->Tk}{N br bl:Nat}(hK:∀i,Bz (K i))(hL:Bn K N)(hN:N<=1000000)(w:World)(d i:Nat)(h:RSd K N w br bl (.ok i) d)
  (hk:Cr.contains (K i).tx=false) (r:Except (Nat×Nat) (PX×Nat)) (hP:∀W,RSd K N W br bl (.ok i) d->Calls Tryz.prog 47 #[.pointer (some ⟨br,0,none⟩)] W (Cd K N W br bl d r)) :
  Calls Tryz.prog 18 #[.pointer (some ⟨br,0,none⟩),.int .i64 12] w (Cd K N w br bl d r):=by
 have O:Hid (∀i,Bz (K i)):=hK;have HR:Hid (RSd K N w br bl (.ok i) d):=h;have HL:Hid (Bn K N):=hL;have HP:Hid (∀W,RSd K N W br bl (.ok i) d->Calls Tryz.prog 47 #[.pointer (some ⟨br,0,none⟩)] W (Cd K N W br bl d r)):=hP;have a:=Qt hk;have C:Hid ((Ie.any fun m=>isS K (.ok i) m.data.toList)=false):=a.1;have n:Hid (isS K (.ok i) Bo=false/\Cn K (.ok i) Bo=.ok i):=⟨a.2,by show(if (K i).tx==Bo then _ else _)=_;rw[a.2,if_neg (by simp)]⟩;obtain⟨a1,a0,dd,l,hI,a2,F,H,I,J⟩:=h.open;obtain⟨g,V,X,Y⟩:=RS.cells l F H I J;have c0:=Aa l 0;have c1:=Aa l 1;have c3:=Aa l 3;have k0:=Aa g 0;have k1:=Aa g 1;have G:=Ab l;have E:(i:Int)<((N+1:Nat):Int):=by omega
 have mo:=follows;obtain⟨f,u⟩:∃f,Bg (K i).cl=f:=⟨_,rfl⟩;obtain⟨tx,v⟩:∃tx,B2 (K i)=tx:=⟨_,rfl⟩;obtain⟨c,o⟩:∃c,(K i).at'=c:=⟨_,rfl⟩;rw[u] at H V;rw[v] at I X;rw[o] at J Y;clear l g h hK hL u v o hk a hP;go_enter Tryz.func18,Tryz.ntmps18
 go_wp2_with fail
 go_big_region_o
 have y:Hid (Ap _ w.heap.size f tx (c:Int)):=Ap.new w f tx (c:Int);have x:Hid (Ad w (w.alloc (.cells #[.int .u8 (f:Int),.string tx,.int .i64 (c:Int)] 55)).drew):=((Ad.refl w).alloc _).drew;clear c0 c1 c3 k0 k1 V X Y H I J E;generalize (w.alloc (.cells #[.int .u8 (f:Int),.string tx,.int .i64 (c:Int)] 55)).drew=W1 at x y |-;obtain⟨k,p⟩:∃k,w.heap.size=k:=⟨_,rfl⟩;rw[p] at y G |-;have a3:k<=w.heap.size:=by omega
 clear p;have q:k≠br:=by omega
 have D:Hid (RSd K N W1 br bl (.ok i) d):=HR.out.grew x.out;go_wp2_with fail
 refine(D0 O.out W1 br bl (.ok i) d _ Ie 4 false rfl (by decide) rfl (by decide) C.out D.out).mono ?_;rintro e z ⟨rfl,B⟩;have P:Hid (RSd K N z br bl (.ok i) d):=D.out.grew B;have M:Hid (Ad w z):=x.out.trans B;have R:Hid (Ap z k f tx (c:Int)):=y.out.grew B;clear B D x y;go_wp2_with fail
 refine(Fc O.out HL.out z br bl (.ok i) d ⟨#[117,110,99,104,97,110,103,101,100]⟩ (by decide) hN P.out).mono ?_;rintro e A ⟨rfl,s,j⟩;have Q:Hid (RSd K N A br bl (.ok i) d):=by show RSd _ _ _ _ _ _ _;rw[<- n.out.2];exact s
 have L:Hid (Fr (·≠br) w A):=(Fr.grew M.out).trans j;have T3:Hid (Ap A k f tx (c:Int)):=R.out.fr j q;clear s j P M R;have T:isS K (.ok i) (ByteArray.mk #[117,110,99,104,97,110,103,101,100]).data.toList=false:=n.out.1;rw[T];clear T;go_wp2_with fail
 refine(HP.out A Q.out).mono ?_;rintro e W4 hp;obtain⟨S,t,b,rfl,U⟩:=hp;have Z:Hid (Cd K N w br bl d r (.returned (.pointer (some ⟨b,0,none⟩))) W4):=Cd.from L.out ⟨S,t,b,rfl,U⟩;clear S t U Q L T3;go_wp2_with fail
 go_ret
 exact Z.out
theorem eZ {w w3:World}{lo g g' be cap:Nat}{op nm tx:ByteArray}{a k n:Int}{p0:Option Addr}{l0 c0:Nat}{x0 k0 v0 x:PX}{va vb vc:Value}
  (he:Ao w be op a nm k n tx p0 l0 c0) (hlo:lo<=be) (hbg:be≠g)
  (ha:Ag (fun k=>lo<=k/\k≠g/\k≠be) w x0 va) (hb:Ag (fun k=>lo<=k/\k≠g/\k≠be) w k0 vb) (hc:Ag (fun k=>lo<=k/\k≠g/\k≠be) w v0 vc)
  (f:Fr (·≠g) w w3) (ho:w3.ownsRow lo 26 1 (.slice (some ⟨g',0,none⟩) 3 cap) 3 [va,vb,vc]) (hat:g'=g\/g'=w.heap.size+1)
  (hx:Fo op.data.toList nm.data.toList k n tx.data.toList [x0,k0,v0] x) :
  Ag (fun k=>lo<=k) (w3.setCell ⟨be,8,none⟩ (.slice (some ⟨g',0,none⟩) 3 cap)) x (.pointer (some ⟨be,0,none⟩)):=by
 have r:=Ab he;have j:g'≠be:=by omega
 have m:Fr (·≠be) w3 (w3.setCell ⟨be,8,none⟩ (.slice (some ⟨g',0,none⟩) 3 cap)):=(Fr.refl _ w3).set (by simp) _;have p:=(he.of f hbg).kids (some ⟨g',0,none⟩) 3 cap;rcases ho.2 with⟨e,-⟩|⟨A,l,h,e,s,o,-,-,B,u⟩
 ·simp at e
 ·simp only[Value.slice.injEq,Option.some.injEq,Addr.mk.injEq,and_true,true_and] at e;obtain⟨rfl,rfl⟩:=e;have d:=(m.block g' (Ab o) j).trans o;have c:∀(z:PX)(t:Value),Ag (fun k=>lo<=k/\k≠g/\k≠be) w z t->Ag (fun k=>lo<=k) (w3.setCell ⟨be,8,none⟩ (.slice (some ⟨g',0,none⟩) 3 cap)) z t:=fun z t hz =>
   (hz.fr (Q:=fun k=>lo<=k/\k≠be) (f.mono fun _ q=>q.2.1) fun _ _ q=>⟨q.1,q.2.2⟩).fr (m.mono fun _ q=>q.2) fun _ _ q=>q.1
  have b:∀(i:Nat)(v:Value),[va,vb,vc][i]?=some v->h[i]?=some v:=by
   intro i v q;rw[<- u,List.getElem?_take] at q;split at q
   ·simpa using q
   ·simp at q
  refine Ag.node ⟨be,op,nm,tx,a,k,n,_,3,cap,[x0,k0,v0],rfl,hlo,p,⟨rfl,by decide,.inr ⟨g',0,rfl,Ab d,s,fun i y q=>?_⟩⟩,hx⟩
  match i,q with
  | 0,q=>simp at q;subst q;exact⟨va,by rw[Aa d];exact b 0 _ rfl,c _ _ ha⟩
  | 1,q=>simp at q;subst q;exact⟨vb,by rw[Aa d];exact b 1 _ rfl,c _ _ hb⟩
  | 2,q=>simp at q;subst q;exact⟨vc,by rw[Aa d];exact b 2 _ rfl,c _ _ hc⟩
  | i+3,q=>simp at q
theorem cM {K:Nat->Tk}{γ:Type}{s1:SX}{m:List UInt8}{A B:Nat->RX γ}{r:Except (Nat×Nat) (γ×Nat)}(hb:isS K s1 m=true)(hk:Ay s1 (fun j=>if (K j).tx==m then A (j+1) else B j)=some r):∃j,Cn K s1 m=.ok (j+1)/\OkS s1/\A (j+1)=some r:=by
 rcases s1 with e|j
 ·simp[isS] at hb
 ·have a:((K j).tx==m)=true:=hb;simp only[Ay,a] at hk;exact⟨j,by simp only[Cn,a];rfl,⟨j,rfl⟩,by simpa using hk⟩
theorem cN {K:Nat->Tk}{γ:Type}{s1:SX}{m:List UInt8}{A B:Nat->RX γ}{r:Except (Nat×Nat) (γ×Nat)}(hb:isS K s1 m=false)(hk:Ay s1 (fun j=>if (K j).tx==m then A (j+1) else B j)=some r):Cn K s1 m=s1/\Ay s1 B=some r:=by
 rcases s1 with e|j
 ·exact⟨rfl,hk⟩
 ·have a:((K j).tx==m)=false:=hb;refine⟨by simp only[Cn,a];rfl,?_⟩;simp only[Ay,a] at hk |-;simpa using hk
theorem Qu {K:Nat->Tk}{self:Nat->Nat->Nat->RX PX}{M d f i:Nat}{x:PX}{r:Except (Nat×Nat) (PX×Nat)}(hp:Bj K self M d (f+1) x i=some r) :
  (((K i).tx==[91])=true/\∃r1,Ay (inS K i d) (self 0 (d+1))=some r1/\Ay (stX r1) (fun j=>if (K j).tx==[58,61] then(bX (self 0 (d+1) (j+1)) fun v j=>Cj K [93] j fun j=>Bj K self M d f (Ed x (Au noX r1) v) j) else Cj K [93] j fun j=>Bj K self M d f (dAt x (Au noX r1)) j)=some r) \/
  (((K i).tx==[91])=false/\((K i).tx==[46])=true/\∃r1,Ay (.ok (i+1)) (C0 K)=some r1/\Ay (stX r1) (fun j=>Bj K self M d f (dAt x (Du (Au [] r1))) j)=some r) \/
  (((K i).tx==[91])=false/\((K i).tx==[46])=false/\r=.ok (x,i)):=by
 simp only[Bj] at hp;cases c:((K i).tx==[91]) with
 | true =>
  rw[c,if_pos rfl] at hp;obtain⟨r1,a,b⟩:=Bx noX (Fa hp);exact .inl ⟨rfl,r1,a,b⟩
 | false =>
  rw[c,if_neg (by simp)] at hp;cases e:((K i).tx==[46]) with
  | true =>
   rw[e,if_pos rfl] at hp;obtain⟨r1,a,b⟩:=Bx (s:=.ok (i+1)) (f:=C0 K) [] hp;exact .inr (.inl ⟨rfl,rfl,r1,a,b⟩)
  | false =>
   rw[e,if_neg (by simp)] at hp;refine .inr (.inr ⟨rfl,rfl,?_⟩);simp only[okX,Option.some.injEq] at hp;exact hp.symm
end Go.Proofs.YtjbfcadeapphbaaGreatDoor.Sx
