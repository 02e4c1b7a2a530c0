/- The reference: what stands behind a first: its rows and nodes. -/
import Derived.Test.YtjbfcadeapphbaaGreatDoorF25
namespace Go.Proofs.YtjbfcadeapphbaaGreatDoor.Sx
set_option maxRecDepth 100000
set_option maxHeartbeats 600000
open Go.RowKit Go.Sort
theorem aP {K:Nat->Tk}{N br bl:Nat}{self:Nat->Nat->Nat->RX PX}(hK:∀i,Bs (K i))(hL:Bi K N)(hN:N<=1000000)(w:World)(d i:Nat)(h:RSd K N w br bl (.ok i) d)
  (hk:(K i).tx=C5) (r:Except (Nat×Nat) (PX×Nat)) (hr:El K self 6 d i=some r) :
  Calls Tryz.prog 18 #[.pointer (some ⟨br,0,none⟩),.int .i64 6] w (C0 K N w br bl d r):=by
 have HK:Hid (∀i,Bs (K i)):=hK;have HR:Hid (RSd K N w br bl (.ok i) d):=h;have HL:Hid (Bi K N):=hL;have t:bX (Au K (i+1)) (fun n j=>okX (Ed 6 (K i).tx n) j)=some r:=by
  have:=hr;unfold El at this;rw[if_pos (by rw[hk];rfl)] at this;exact this
 rw[hk] at t;obtain⟨b,h1,hc⟩:=A3 [] (s:=.ok (i+1)) (f:=Au K) t;have Q:Hid (stX r=stX b/\∀y j,r=.ok (y,j)->y=Ed 6 C5 (Ao [] b)):=Cz hc;have H1:Hid (Az (.ok (i+1)) (Au K)=some b):=h1;have P:Hid ((Jk.any fun m=>isS K (.ok i) m.data.toList)=false):=by show(Jk.any fun m=>(K i).tx==m.data.toList)=false;rw[hk];rfl
 have z:Hid (isS K (.ok i) C5=true/\Cp K (.ok i) C5=.ok (i+1)):=⟨by show((K i).tx==C5)=true;rw[hk];rfl,by show(if (K i).tx==C5 then _ else _)=_;rw[hk];rfl⟩;obtain⟨a1,a0,dd,u,hI,a2,T,W,X,Y⟩:=h.open;obtain⟨o,u0,u1,u2⟩:=RS.cells u T W X Y;have c0:=Aa u 0;have c1:=Aa u 1;have c3:=Aa u 3;have k0:=Aa o 0;have k1:=Aa o 1;have U:=Ac u;have S:(i:Int)<((N+1:Nat):Int):=by omega
 have mo:=follows;obtain⟨c,F⟩:∃c,Bn (K i).cl=c:=⟨_,rfl⟩;obtain⟨tx,G⟩:∃tx,Cf (K i)=tx:=⟨_,rfl⟩;obtain⟨a,A⟩:∃a,(K i).at'=a:=⟨_,rfl⟩;rw[F] at W u0;rw[G] at X u1;rw[A] at Y u2;clear u o h hK hL F G A hr t hk h1 hc;go_enter Tryz.func18,Tryz.ntmps18
 go_wp2_with fail
 go_big_region_o
 have I:Hid (Ap _ w.heap.size c tx (a:Int)):=Ap.new w c tx (a:Int);have H:Hid (Ad w (w.alloc (.cells #[.int .u8 (c:Int),.string tx,.int .i64 (a:Int)] 55)).drew):=((Ad.refl w).alloc _).drew;clear c0 c1 c3 k0 k1 u0 u1 u2 W X Y S;generalize (w.alloc (.cells #[.int .u8 (c:Int),.string tx,.int .i64 (a:Int)] 55)).drew=W1 at H I |-;obtain⟨l,B⟩:∃l,w.heap.size=l:=⟨_,rfl⟩;rw[B] at I U |-;have a3:l<=w.heap.size:=by omega
 clear B;have g:l≠br:=by omega
 have R:Hid (RSd K N W1 br bl (.ok i) d):=HR.out.grew H.out;go_wp2_with fail
 refine(C2 HK.out W1 br bl (.ok i) d _ Jk 3 false rfl (by decide) rfl (by decide) P.out R.out).mono ?_;rintro e J ⟨rfl,M⟩;have R2:Hid (RSd K N J br bl (.ok i) d):=R.out.grew M;have G2:Hid (Ad w J):=H.out.trans M;have T2:Hid (Ap J l c tx (a:Int)):=I.out.grew M;clear M R H I;go_wp2_with fail
 refine(Gc HK.out HL.out J br bl (.ok i) d ⟨#[101,110,97,98,108,101,100]⟩ (by decide) hN R2.out).mono ?_;rintro e L ⟨rfl,D,p⟩;have R3:Hid (RSd K N L br bl (.ok (i+1)) d):=by show RSd _ _ _ _ _ _ _;rw[<- z.out.2];exact D
 have Z:Hid (Fr (·≠br) w L):=(Fr.grew G2.out).trans p;have T3:Hid (Ap L l c tx (a:Int)):=T2.out.fr p g;clear D p R2 G2 T2;have hq:isS K (.ok i) (ByteArray.mk #[101,110,97,98,108,101,100]).data.toList=true:=z.out.1;rw[hq];clear hq;go_wp2_with fail
 refine(Er HL.out L br bl (.ok (i+1)) d hN R3.out b H1.out).mono ?_;rintro e k ⟨rfl,E,q⟩;have R4:Hid (RSd K N k br bl (stX b) d):=E;have F4:Hid (Fr (·≠br) w k):=Z.out.trans q;have T4:Hid (Ap k l c tx (a:Int)):=T3.out.fr q g;have v:Hid (OkS (stX b)->(Cb b).data.toList=Ao [] b):=Dx;obtain⟨O,C⟩:∃O,Cb b=O:=⟨_,rfl⟩;rw[C] at v |-;clear E q R3 Z T3 C;have V:=F4.out.size;have q2:=Aa T4.out 2;go_wp2_with fail
 go_ret
 have hG:Ad k (k.alloc (.cells #[.string ⟨#[101,110,97,98,108,101,100]⟩,.int .i64 (a:Int),.string O,.int .i64 0,.int .i64 0,.string ⟨#[]⟩,.slice none 0 0,.slice none 0 0,.slice none 0 0,.int .i64 0,.int .i64 0] 95)):=(Ad.refl _).alloc _;refine⟨F4.out.trans (Fr.grew hG),by rw[Q.out.1];exact R4.out.grew hG,k.heap.size,rfl,fun x j e=>?_⟩;rw[Q.out.2 x j e];exact Aj.leaf (Av.new k ⟨#[101,110,97,98,108,101,100]⟩ ⟨#[]⟩ O (a:Int) 0 0) V (.inr (.inr (.inr (.inr (.inr (.inr (.inr (.inr (.inr (.inl ⟨rfl,by rw[v.out (by rw[<- Q.out.1];exact Dz e)];rfl⟩))))))))))
theorem Va {K:Nat->Tk}{N br bl:Nat}{self:Nat->Nat->Nat->RX PX}(hK:∀i,Bs (K i))(hL:Bi K N)(hN:N<=1000000)(w:World)(d i:Nat)(h:RSd K N w br bl (.ok i) d)
  (hk:(K i).tx=Cc) (r:Except (Nat×Nat) (PX×Nat)) (hr:El K self 12 d i=some r) :
  Calls Tryz.prog 18 #[.pointer (some ⟨br,0,none⟩),.int .i64 12] w (C0 K N w br bl d r):=by
 have HK:Hid (∀i,Bs (K i)):=hK;have HR:Hid (RSd K N w br bl (.ok i) d):=h;have HL:Hid (Bi K N):=hL;have t:bX (Au K (i+1)) (fun n j=>okX (Ed 12 (K i).tx n) j)=some r:=by
  have:=hr;unfold El at this;rw[if_pos (by rw[hk];rfl)] at this;exact this
 rw[hk] at t;obtain⟨b,h1,hc⟩:=A3 [] (s:=.ok (i+1)) (f:=Au K) t;have Q:Hid (stX r=stX b/\∀y j,r=.ok (y,j)->y=Ed 12 Cc (Ao [] b)):=Cz hc;have H1:Hid (Az (.ok (i+1)) (Au K)=some b):=h1;have P:Hid ((Kg.any fun m=>isS K (.ok i) m.data.toList)=false):=by show(Kg.any fun m=>(K i).tx==m.data.toList)=false;rw[hk];rfl
 have z:Hid (isS K (.ok i) Cc=true/\Cp K (.ok i) Cc=.ok (i+1)):=⟨by show((K i).tx==Cc)=true;rw[hk];rfl,by show(if (K i).tx==Cc then _ else _)=_;rw[hk];rfl⟩;obtain⟨a1,a0,dd,u,hI,a2,T,W,X,Y⟩:=h.open;obtain⟨o,u0,u1,u2⟩:=RS.cells u T W X Y;have c0:=Aa u 0;have c1:=Aa u 1;have c3:=Aa u 3;have k0:=Aa o 0;have k1:=Aa o 1;have U:=Ac u;have S:(i:Int)<((N+1:Nat):Int):=by omega
 have mo:=follows;obtain⟨c,F⟩:∃c,Bn (K i).cl=c:=⟨_,rfl⟩;obtain⟨tx,G⟩:∃tx,Cf (K i)=tx:=⟨_,rfl⟩;obtain⟨a,A⟩:∃a,(K i).at'=a:=⟨_,rfl⟩;rw[F] at W u0;rw[G] at X u1;rw[A] at Y u2;clear u o h hK hL F G A hr t hk h1 hc;go_enter Tryz.func18,Tryz.ntmps18
 go_wp2_with fail
 go_big_region_o
 have I:Hid (Ap _ w.heap.size c tx (a:Int)):=Ap.new w c tx (a:Int);have H:Hid (Ad w (w.alloc (.cells #[.int .u8 (c:Int),.string tx,.int .i64 (a:Int)] 55)).drew):=((Ad.refl w).alloc _).drew;clear c0 c1 c3 k0 k1 u0 u1 u2 W X Y S;generalize (w.alloc (.cells #[.int .u8 (c:Int),.string tx,.int .i64 (a:Int)] 55)).drew=W1 at H I |-;obtain⟨l,B⟩:∃l,w.heap.size=l:=⟨_,rfl⟩;rw[B] at I U |-;have a3:l<=w.heap.size:=by omega
 clear B;have g:l≠br:=by omega
 have R:Hid (RSd K N W1 br bl (.ok i) d):=HR.out.grew H.out;go_wp2_with fail
 refine(C2 HK.out W1 br bl (.ok i) d _ Kg 4 false rfl (by decide) rfl (by decide) P.out R.out).mono ?_;rintro e J ⟨rfl,M⟩;have R2:Hid (RSd K N J br bl (.ok i) d):=R.out.grew M;have G2:Hid (Ad w J):=H.out.trans M;have T2:Hid (Ap J l c tx (a:Int)):=I.out.grew M;clear M R H I;go_wp2_with fail
 refine(Gc HK.out HL.out J br bl (.ok i) d ⟨#[117,110,99,104,97,110,103,101,100]⟩ (by decide) hN R2.out).mono ?_;rintro e L ⟨rfl,D,p⟩;have R3:Hid (RSd K N L br bl (.ok (i+1)) d):=by show RSd _ _ _ _ _ _ _;rw[<- z.out.2];exact D
 have Z:Hid (Fr (·≠br) w L):=(Fr.grew G2.out).trans p;have T3:Hid (Ap L l c tx (a:Int)):=T2.out.fr p g;clear D p R2 G2 T2;have hq:isS K (.ok i) (ByteArray.mk #[117,110,99,104,97,110,103,101,100]).data.toList=true:=z.out.1;rw[hq];clear hq;go_wp2_with fail
 refine(Er HL.out L br bl (.ok (i+1)) d hN R3.out b H1.out).mono ?_;rintro e k ⟨rfl,E,q⟩;have R4:Hid (RSd K N k br bl (stX b) d):=E;have F4:Hid (Fr (·≠br) w k):=Z.out.trans q;have T4:Hid (Ap k l c tx (a:Int)):=T3.out.fr q g;have v:Hid (OkS (stX b)->(Cb b).data.toList=Ao [] b):=Dx;obtain⟨O,C⟩:∃O,Cb b=O:=⟨_,rfl⟩;rw[C] at v |-;clear E q R3 Z T3 C;have V:=F4.out.size;have q2:=Aa T4.out 2;go_wp2_with fail
 go_ret
 have hG:Ad k (k.alloc (.cells #[.string ⟨#[117,110,99,104,97,110,103,101,100]⟩,.int .i64 (a:Int),.string O,.int .i64 0,.int .i64 0,.string ⟨#[]⟩,.slice none 0 0,.slice none 0 0,.slice none 0 0,.int .i64 0,.int .i64 0] 95)):=(Ad.refl _).alloc _;refine⟨F4.out.trans (Fr.grew hG),by rw[Q.out.1];exact R4.out.grew hG,k.heap.size,rfl,fun x j e=>?_⟩;rw[Q.out.2 x j e];exact Aj.leaf (Av.new k ⟨#[117,110,99,104,97,110,103,101,100]⟩ ⟨#[]⟩ O (a:Int) 0 0) V (.inr (.inr (.inr (.inr (.inr (.inr (.inr (.inr (.inl ⟨rfl,by rw[v.out (by rw[<- Q.out.1];exact Dz e)];rfl⟩)))))))))
theorem Xr {K:Nat->Tk}{i:Nat}(h:Ek.contains (K i).tx=false):(Jk.any fun m=>isS K (.ok i) m.data.toList)=false/\((K i).tx==C5)=false:=by
 simp only[Ek,List.contains_cons,List.contains_nil,Bool.or_eq_false_iff,Bool.or_false] at h;refine⟨?_,h.2.2.2⟩;show(((K i).tx==[110,111,116])||(((K i).tx==[97,108,119,97,121,115])||(((K i).tx==[101,118,101,110,116,117,97,108,108,121])||false)))=false;rw[h.1,h.2.1,h.2.2.1];rfl
theorem Vb {K:Nat->Tk}{i:Nat}(h:Df.contains (K i).tx=false):(Kg.any fun m=>isS K (.ok i) m.data.toList)=false/\((K i).tx==Cc)=false:=by
 simp only[Df,List.contains_cons,List.contains_nil,Bool.or_eq_false_iff,Bool.or_false] at h;refine⟨?_,h.2.2.2.2⟩;show(((K i).tx==[45])||(((K i).tx==[100,111,109,97,105,110])||(((K i).tx==[112,111,119,101,114,115,101,116])||(((K i).tx==[102,108,97,116,116,101,110])||false))))=false;rw[h.1,h.2.1,h.2.2.1,h.2.2.2.1];rfl
theorem iF {K:Nat->Tk}{N br bl:Nat}(hK:∀i,Bs (K i))(hL:Bi K N)(hN:N<=1000000)(w:World)(d i:Nat)(h:RSd K N w br bl (.ok i) d)
  (hk:Ek.contains (K i).tx=false) (r:Except (Nat×Nat) (PX×Nat)) (hP:∀W,RSd K N W br bl (.ok i) d->Calls Tryz.prog 18 #[.pointer (some ⟨br,0,none⟩),.int .i64 7] W (C0 K N W br bl d r)) :
  Calls Tryz.prog 18 #[.pointer (some ⟨br,0,none⟩),.int .i64 6] w (C0 K N w br bl d r):=by
 have O:Hid (∀i,Bs (K i)):=hK;have HR:Hid (RSd K N w br bl (.ok i) d):=h;have HL:Hid (Bi K N):=hL;have HP:Hid (∀W,RSd K N W br bl (.ok i) d->Calls Tryz.prog 18 #[.pointer (some ⟨br,0,none⟩),.int .i64 7] W (C0 K N W br bl d r)):=hP;have a:=Xr hk;have C:Hid ((Jk.any fun m=>isS K (.ok i) m.data.toList)=false):=a.1;have n:Hid (isS K (.ok i) C5=false/\Cp K (.ok i) C5=.ok i):=⟨a.2,by show(if (K i).tx==C5 then _ else _)=_;rw[a.2,if_neg (by simp)]⟩;obtain⟨a1,a0,dd,l,hI,a2,F,H,I,J⟩:=h.open;obtain⟨g,V,X,Y⟩:=RS.cells l F H I J;have c0:=Aa l 0;have c1:=Aa l 1;have c3:=Aa l 3;have k0:=Aa g 0;have k1:=Aa g 1;have G:=Ac l;have E:(i:Int)<((N+1:Nat):Int):=by omega
 have mo:=follows;obtain⟨f,u⟩:∃f,Bn (K i).cl=f:=⟨_,rfl⟩;obtain⟨tx,v⟩:∃tx,Cf (K i)=tx:=⟨_,rfl⟩;obtain⟨c,o⟩:∃c,(K i).at'=c:=⟨_,rfl⟩;rw[u] at H V;rw[v] at I X;rw[o] at J Y;clear l g h hK hL u v o hk a hP;go_enter Tryz.func18,Tryz.ntmps18
 go_wp2_with fail
 go_big_region_o
 have y:Hid (Ap _ w.heap.size f tx (c:Int)):=Ap.new w f tx (c:Int);have x:Hid (Ad w (w.alloc (.cells #[.int .u8 (f:Int),.string tx,.int .i64 (c:Int)] 55)).drew):=((Ad.refl w).alloc _).drew;clear c0 c1 c3 k0 k1 V X Y H I J E;generalize (w.alloc (.cells #[.int .u8 (f:Int),.string tx,.int .i64 (c:Int)] 55)).drew=W1 at x y |-;obtain⟨k,p⟩:∃k,w.heap.size=k:=⟨_,rfl⟩;rw[p] at y G |-;have a3:k<=w.heap.size:=by omega
 clear p;have q:k≠br:=by omega
 have D:Hid (RSd K N W1 br bl (.ok i) d):=HR.out.grew x.out;go_wp2_with fail
 refine(C2 O.out W1 br bl (.ok i) d _ Jk 3 false rfl (by decide) rfl (by decide) C.out D.out).mono ?_;rintro e z ⟨rfl,B⟩;have P:Hid (RSd K N z br bl (.ok i) d):=D.out.grew B;have M:Hid (Ad w z):=x.out.trans B;have R:Hid (Ap z k f tx (c:Int)):=y.out.grew B;clear B D x y;go_wp2_with fail
 refine(Gc O.out HL.out z br bl (.ok i) d ⟨#[101,110,97,98,108,101,100]⟩ (by decide) hN P.out).mono ?_;rintro e A ⟨rfl,s,j⟩;have Q:Hid (RSd K N A br bl (.ok i) d):=by show RSd _ _ _ _ _ _ _;rw[<- n.out.2];exact s
 have L:Hid (Fr (·≠br) w A):=(Fr.grew M.out).trans j;have T3:Hid (Ap A k f tx (c:Int)):=R.out.fr j q;clear s j P M R;have T:isS K (.ok i) (ByteArray.mk #[101,110,97,98,108,101,100]).data.toList=false:=n.out.1;rw[T];clear T;go_wp2_with fail
 refine(HP.out A Q.out).mono ?_;rintro e W4 hp;obtain⟨S,t,b,rfl,U⟩:=hp;have Z:Hid (C0 K N w br bl d r (.returned (.pointer (some ⟨b,0,none⟩))) W4):=C0.from L.out ⟨S,t,b,rfl,U⟩;clear S t U Q L T3;go_wp2_with fail
 go_ret
 exact Z.out
theorem eL {K:Nat->Tk}{N br bl:Nat}(hK:∀i,Bs (K i))(hL:Bi K N)(hN:N<=1000000)(w:World)(d i:Nat)(h:RSd K N w br bl (.ok i) d)
  (hk:Df.contains (K i).tx=false) (r:Except (Nat×Nat) (PX×Nat)) (hP:∀W,RSd K N W br bl (.ok i) d->Calls Tryz.prog 47 #[.pointer (some ⟨br,0,none⟩)] W (C0 K N W br bl d r)) :
  Calls Tryz.prog 18 #[.pointer (some ⟨br,0,none⟩),.int .i64 12] w (C0 K N w br bl d r):=by
 have O:Hid (∀i,Bs (K i)):=hK;have HR:Hid (RSd K N w br bl (.ok i) d):=h;have HL:Hid (Bi K N):=hL;have HP:Hid (∀W,RSd K N W br bl (.ok i) d->Calls Tryz.prog 47 #[.pointer (some ⟨br,0,none⟩)] W (C0 K N W br bl d r)):=hP;have a:=Vb hk;have C:Hid ((Kg.any fun m=>isS K (.ok i) m.data.toList)=false):=a.1;have n:Hid (isS K (.ok i) Cc=false/\Cp K (.ok i) Cc=.ok i):=⟨a.2,by show(if (K i).tx==Cc then _ else _)=_;rw[a.2,if_neg (by simp)]⟩;obtain⟨a1,a0,dd,l,hI,a2,F,H,I,J⟩:=h.open;obtain⟨g,V,X,Y⟩:=RS.cells l F H I J;have c0:=Aa l 0;have c1:=Aa l 1;have c3:=Aa l 3;have k0:=Aa g 0;have k1:=Aa g 1;have G:=Ac l;have E:(i:Int)<((N+1:Nat):Int):=by omega
 have mo:=follows;obtain⟨f,u⟩:∃f,Bn (K i).cl=f:=⟨_,rfl⟩;obtain⟨tx,v⟩:∃tx,Cf (K i)=tx:=⟨_,rfl⟩;obtain⟨c,o⟩:∃c,(K i).at'=c:=⟨_,rfl⟩;rw[u] at H V;rw[v] at I X;rw[o] at J Y;clear l g h hK hL u v o hk a hP;go_enter Tryz.func18,Tryz.ntmps18
 go_wp2_with fail
 go_big_region_o
 have y:Hid (Ap _ w.heap.size f tx (c:Int)):=Ap.new w f tx (c:Int);have x:Hid (Ad w (w.alloc (.cells #[.int .u8 (f:Int),.string tx,.int .i64 (c:Int)] 55)).drew):=((Ad.refl w).alloc _).drew;clear c0 c1 c3 k0 k1 V X Y H I J E;generalize (w.alloc (.cells #[.int .u8 (f:Int),.string tx,.int .i64 (c:Int)] 55)).drew=W1 at x y |-;obtain⟨k,p⟩:∃k,w.heap.size=k:=⟨_,rfl⟩;rw[p] at y G |-;have a3:k<=w.heap.size:=by omega
 clear p;have q:k≠br:=by omega
 have D:Hid (RSd K N W1 br bl (.ok i) d):=HR.out.grew x.out;go_wp2_with fail
 refine(C2 O.out W1 br bl (.ok i) d _ Kg 4 false rfl (by decide) rfl (by decide) C.out D.out).mono ?_;rintro e z ⟨rfl,B⟩;have P:Hid (RSd K N z br bl (.ok i) d):=D.out.grew B;have M:Hid (Ad w z):=x.out.trans B;have R:Hid (Ap z k f tx (c:Int)):=y.out.grew B;clear B D x y;go_wp2_with fail
 refine(Gc O.out HL.out z br bl (.ok i) d ⟨#[117,110,99,104,97,110,103,101,100]⟩ (by decide) hN P.out).mono ?_;rintro e A ⟨rfl,s,j⟩;have Q:Hid (RSd K N A br bl (.ok i) d):=by show RSd _ _ _ _ _ _ _;rw[<- n.out.2];exact s
 have L:Hid (Fr (·≠br) w A):=(Fr.grew M.out).trans j;have T3:Hid (Ap A k f tx (c:Int)):=R.out.fr j q;clear s j P M R;have T:isS K (.ok i) (ByteArray.mk #[117,110,99,104,97,110,103,101,100]).data.toList=false:=n.out.1;rw[T];clear T;go_wp2_with fail
 refine(HP.out A Q.out).mono ?_;rintro e W4 hp;obtain⟨S,t,b,rfl,U⟩:=hp;have Z:Hid (C0 K N w br bl d r (.returned (.pointer (some ⟨b,0,none⟩))) W4):=C0.from L.out ⟨S,t,b,rfl,U⟩;clear S t U Q L T3;go_wp2_with fail
 go_ret
 exact Z.out
theorem nJ {w w3:World}{lo g g' be cap:Nat}{op nm tx:ByteArray}{a k n:Int}{p0:Option Addr}{l0 c0:Nat}{x0 k0 v0 x:PX}{va vb vc:Value}
  (he:Av w be op a nm k n tx p0 l0 c0) (hlo:lo<=be) (hbg:be≠g)
  (ha:Aj (fun k=>lo<=k/\k≠g/\k≠be) w x0 va) (hb:Aj (fun k=>lo<=k/\k≠g/\k≠be) w k0 vb) (hc:Aj (fun k=>lo<=k/\k≠g/\k≠be) w v0 vc)
  (f:Fr (·≠g) w w3) (ho:w3.ownsRow lo 26 1 (.slice (some ⟨g',0,none⟩) 3 cap) 3 [va,vb,vc]) (hat:g'=g\/g'=w.heap.size+1)
  (hx:Hr op.data.toList nm.data.toList k n tx.data.toList [x0,k0,v0] x) :
  Aj (fun k=>lo<=k) (w3.setCell ⟨be,8,none⟩ (.slice (some ⟨g',0,none⟩) 3 cap)) x (.pointer (some ⟨be,0,none⟩)):=by
 have r:=Ac he;have j:g'≠be:=by omega
 have m:Fr (·≠be) w3 (w3.setCell ⟨be,8,none⟩ (.slice (some ⟨g',0,none⟩) 3 cap)):=(Fr.refl _ w3).set (by simp) _;have p:=(he.of f hbg).kids (some ⟨g',0,none⟩) 3 cap;rcases ho.2 with⟨e,-⟩|⟨A,l,h,e,s,o,-,-,B,u⟩
 ·simp at e
 ·simp only[Value.slice.injEq,Option.some.injEq,Addr.mk.injEq,and_true,true_and] at e;obtain⟨rfl,rfl⟩:=e;have d:=(m.block g' (Ac o) j).trans o;have c:∀(z:PX)(t:Value),Aj (fun k=>lo<=k/\k≠g/\k≠be) w z t->Aj (fun k=>lo<=k) (w3.setCell ⟨be,8,none⟩ (.slice (some ⟨g',0,none⟩) 3 cap)) z t:=fun z t hz =>
   (hz.fr (Q:=fun k=>lo<=k/\k≠be) (f.mono fun _ q=>q.2.1) fun _ _ q=>⟨q.1,q.2.2⟩).fr (m.mono fun _ q=>q.2) fun _ _ q=>q.1
  have b:∀(i:Nat)(v:Value),[va,vb,vc][i]?=some v->h[i]?=some v:=by
   intro i v q;rw[<- u,List.getElem?_take] at q;split at q
   ·simpa using q
   ·simp at q
  refine Aj.node ⟨be,op,nm,tx,a,k,n,_,3,cap,[x0,k0,v0],rfl,hlo,p,⟨rfl,by decide,.inr ⟨g',0,rfl,Ac d,s,fun i y q=>?_⟩⟩,hx⟩
  match i,q with
  | 0,q=>simp at q;subst q;exact⟨va,by rw[Aa d];exact b 0 _ rfl,c _ _ ha⟩
  | 1,q=>simp at q;subst q;exact⟨vb,by rw[Aa d];exact b 1 _ rfl,c _ _ hb⟩
  | 2,q=>simp at q;subst q;exact⟨vc,by rw[Aa d];exact b 2 _ rfl,c _ _ hc⟩
  | i+3,q=>simp at q
theorem kF {K:Nat->Tk}{γ:Type}{s1:SX}{m:List UInt8}{A B:Nat->RX γ}{r:Except (Nat×Nat) (γ×Nat)}(hb:isS K s1 m=true)(hk:Az s1 (fun j=>if (K j).tx==m then A (j+1) else B j)=some r):∃j,Cp K s1 m=.ok (j+1)/\OkS s1/\A (j+1)=some r:=by
 rcases s1 with e|j
 ·simp[isS] at hb
 ·have a:((K j).tx==m)=true:=hb;simp only[Az,a] at hk;exact⟨j,by simp only[Cp,a];rfl,⟨j,rfl⟩,by simpa using hk⟩
theorem kG {K:Nat->Tk}{γ:Type}{s1:SX}{m:List UInt8}{A B:Nat->RX γ}{r:Except (Nat×Nat) (γ×Nat)}(hb:isS K s1 m=false)(hk:Az s1 (fun j=>if (K j).tx==m then A (j+1) else B j)=some r):Cp K s1 m=s1/\Az s1 B=some r:=by
 rcases s1 with e|j
 ·exact⟨rfl,hk⟩
 ·have a:((K j).tx==m)=false:=hb;refine⟨by simp only[Cp,a];rfl,?_⟩;simp only[Az,a] at hk |-;simpa using hk
theorem Vc {K:Nat->Tk}{self:Nat->Nat->Nat->RX PX}{M d f i:Nat}{x:PX}{r:Except (Nat×Nat) (PX×Nat)}(hp:Ce K self M d (f+1) x i=some r) :
  (((K i).tx==[91])=true/\∃r1,Az (inS K i d) (self 0 (d+1))=some r1/\Az (stX r1) (fun j=>if (K j).tx==[58,61] then(bX (self 0 (d+1) (j+1)) fun v j=>B7 K [93] j fun j=>Ce K self M d f (Gp x (Ao noX r1) v) j) else B7 K [93] j fun j=>Ce K self M d f (dAt x (Ao noX r1)) j)=some r) \/
  (((K i).tx==[91])=false/\((K i).tx==[46])=true/\∃r1,Az (.ok (i+1)) (Au K)=some r1/\Az (stX r1) (fun j=>Ce K self M d f (dAt x (Fg (Ao [] r1))) j)=some r) \/
  (((K i).tx==[91])=false/\((K i).tx==[46])=false/\r=.ok (x,i)):=by
 simp only[Ce] at hp;cases c:((K i).tx==[91]) with
 | true =>
  rw[c,if_pos rfl] at hp;obtain⟨r1,a,b⟩:=A3 noX (Hb hp);exact .inl ⟨rfl,r1,a,b⟩
 | false =>
  rw[c,if_neg (by simp)] at hp;cases e:((K i).tx==[46]) with
  | true =>
   rw[e,if_pos rfl] at hp;obtain⟨r1,a,b⟩:=A3 (s:=.ok (i+1)) (f:=Au K) [] hp;exact .inr (.inl ⟨rfl,rfl,r1,a,b⟩)
  | false =>
   rw[e,if_neg (by simp)] at hp;refine .inr (.inr ⟨rfl,rfl,?_⟩);simp only[okX,Option.some.injEq] at hp;exact hp.symm
end Go.Proofs.YtjbfcadeapphbaaGreatDoor.Sx
