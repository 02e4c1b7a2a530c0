/- The reference: words ahead of a name. -/
import Derived.Test.YtjbfcadeapphbaaGreatDoorE30
namespace Go.Proofs.YtjbfcadeapphbaaGreatDoor.Sx
set_option maxRecDepth 100000
set_option maxHeartbeats 600000
open Go.RowKit Go.Sort
def Ie:List ByteArray:=[⟨#[45]⟩,⟨#[100,111,109,97,105,110]⟩,⟨#[112,111,119,101,114,115,101,116]⟩,⟨#[102,108,97,116,116,101,110]⟩]
theorem Fd {l:List UInt8}(h:l∈Cx):l∈C3/\(l==Ch||l==Bo)=false/\(l==[45])=false:=by
 simp only[Cx,List.mem_cons,List.not_mem_nil,or_false] at h;rcases h with rfl|rfl|rfl<;>decide
theorem Sw {K:Nat->Tk}{i:Nat}(h:(K i).tx=Jb\/(K i).tx∈Cx):(Ie.any fun m=>isS K (.ok i) m.data.toList)=true:=by
 show(Ie.any fun m=>(K i).tx==m.data.toList)=true;simp only[Cx,List.mem_cons,List.not_mem_nil,or_false] at h;rcases h with e|e|e|e<;>rw[e]<;>rfl
theorem dY {K:Nat->Tk}{N br bl:Nat}{self:Nat->Nat->Nat->RX PX}(hS:Cv K N br bl self)(hK:∀i,Bz (K i))(hL:Bn K N)(hN:N<=1000000)(w:World)(d i:Nat)(hd:d<=24)(h:RSd K N w br bl (.ok i) d)
  (hk:(K i).tx=Jb) (r:Except (Nat×Nat) (PX×Nat)) (hr:C5 K self 12 d i=some r) :
  Calls Tryz.prog 18 #[.pointer (some ⟨br,0,none⟩),.int .i64 12] w (Cd K N w br bl d r):=by
 have HS:Hid (Cv K N br bl self):=hS;have HK:Hid (∀i,Bz (K i)):=hK;have HR:Hid (RSd K N w br bl (.ok i) d):=h;have Z:i<N:=hL.lt h.le (m:=(K i).tx) (by simp) (by rw[hk];decide);obtain⟨c,h1,hc⟩:=Bx noX (Fa (M2 (by rw[hk];rfl) hr));have R:Hid (stX r=stX c/\∀y j,r=.ok (y,j)->y=Bu 12 (K i).tx (Au noX c)):=Dm hc;have H1:Hid (Ay (inS K i d) (self 12 (d+1))=some c):=h1;have P:Hid ((Ie.any fun m=>isS K (.ok i) m.data.toList)=true):=Sw (.inl hk);obtain⟨a3,a2,dd,z,hI,a5,X,t0,t1,t2⟩:=h.open;obtain⟨p,u0,u1,u2⟩:=RS.cells z X t0 t1 t2;have c0:=Aa z 0;have c1:=Aa z 1;have c3:=Aa z 3;have k0:=Aa p 0;have k1:=Aa p 1;have Y:=Ab z;have W:(i:Int)<((N+1:Nat):Int):=by omega
 have mo:=follows;obtain⟨f,G⟩:∃f,Bg (K i).cl=f:=⟨_,rfl⟩;obtain⟨tx,u⟩:∃tx,B2 (K i)=tx:=⟨_,rfl⟩;obtain⟨a,B⟩:∃a,(K i).at'=a:=⟨_,rfl⟩;have S:Hid (tx.data.toList=(K i).tx):=by show _=_;rw[<- u];exact C8 hK (by rw[hk];decide) rfl
 have Q:Hid ((K i).tx=Jb):=hk;have n1:(tx.toList==[45])=true:=by rw[ByteArray.toList_eq,S.out,hk];rfl
 rw[G] at t0 u0;rw[u] at t1 u1;rw[B] at t2 u2;clear z p h hS hK hL G u B hr hk h1 hc;go_enter Tryz.func18,Tryz.ntmps18
 go_wp2_with fail
 go_big_region_o
 have J:Hid (Ap _ w.heap.size f tx (a:Int)):=Ap.new w f tx (a:Int);have I:Hid (Ad w (w.alloc (.cells #[.int .u8 (f:Int),.string tx,.int .i64 (a:Int)] 55)).drew):=((Ad.refl w).alloc _).drew;clear c0 c1 c3 k0 k1 u0 u1 u2 t0 t1 t2 W;generalize (w.alloc (.cells #[.int .u8 (f:Int),.string tx,.int .i64 (a:Int)] 55)).drew=W1 at I J |-;obtain⟨n,C⟩:∃n,w.heap.size=n:=⟨_,rfl⟩;rw[C] at J Y |-;have a6:n<=w.heap.size:=by omega
 clear C;have b:n≠br:=by omega
 have T:Hid (RSd K N W1 br bl (.ok i) d):=HR.out.grew I.out;go_wp2_with fail
 refine(D0 HK.out W1 br bl (.ok i) d _ Ie 4 true rfl (by decide) rfl (by decide) P.out T.out).mono ?_;rintro e L ⟨rfl,M⟩;have R2:Hid (RSd K N L br bl (.ok i) d):=T.out.grew M;have G2:Hid (Ad w L):=I.out.trans M;have U:Hid (Ap L n f tx (a:Int)):=J.out.grew M;clear M T I J;have q1:=Aa U.out 1;go_wp2_with fail
 clear q1;refine(Hf hN L br bl i d hd Z R2.out).mono ?_;rintro e v ⟨rfl,D,s⟩;have R3:Hid (RSd K N v br bl (inS K i d) (d+1)):=D;have O:Hid (Fr (·≠br) w v):=(Fr.grew G2.out).trans s;have T3:Hid (Ap v n f tx (a:Int)):=U.out.fr s b;clear D s R2 G2 U;go_wp2_with fail
 refine(HS.out v 12 (d+1) (inS K i d) c (by omega) (Ft hd) R3.out H1.out).mono ?_;rintro e A ⟨t,E,V,rfl,H⟩;have R4:Hid (RSd K N A br bl (stX c) (d+1)):=E;have F4:Hid (Fr (·≠br) w A):=O.out.trans t;have T4:Hid (Ap A n f tx (a:Int)):=T3.out.fr t b;have a7:=O.out.size;have a4:br<v.heap.size:=by omega
 have P4:Hid (∀x j,c=.ok (x,j)->Ag (fun k=>v.heap.size<=k) A x (.pointer (some ⟨V,0,none⟩))):=H;clear t E H R3 O T3;go_wp2_with fail
 refine(Ec A br bl _ d hd R4.out).mono ?_;rintro e l ⟨rfl,F,g⟩;have R5:Hid (RSd K N l br bl (stX c) d):=F;have F5:Hid (Fr (·≠br) w l):=F4.out.trans g;have T5:Hid (Ap l n f tx (a:Int)):=T4.out.fr g b;have P5:Hid (∀x j,c=.ok (x,j)->Ag (fun k=>w.heap.size<=k) l x (.pointer (some ⟨V,0,none⟩))):=fun x j e=>(P4.out x j e).fr (g.mono fun k q=>by omega) fun _ _ q=>by omega
 have a0:=F5.out.size;clear F g R4 F4 T4 P4;have q2:=Aa T5.out 2;have a1:=Ab T5.out;go_wp2_with fail
 go_ret
 have hG:Ad l ((l.alloc (.cells #[.pointer (some ⟨V,0,none⟩)] 26)).alloc (.cells #[.string ⟨#[110,101,103]⟩,.int .i64 (a:Int),.string ⟨#[]⟩,.int .i64 0,.int .i64 0,.string ⟨#[]⟩,.slice none 0 0,.slice none 0 0,.slice (some ⟨l.heap.size,0,none⟩) 1 1,.int .i64 0,.int .i64 0] 95)):=((Ad.refl _).alloc _).alloc _;refine⟨F5.out.trans (Fr.grew hG),by rw[R.out.1];exact R5.out.grew hG,l.heap.size+1,rfl,fun x j e=>?_⟩;have o:OkS (stX c):=by rw[<- R.out.1];exact Ee e
 obtain⟨j1,e1⟩:=Cp noX o;rw[R.out.2 x j e];refine Nz (kids:=[Au noX c]) rfl (by decide) (fun k y q=>?_) a0 (.inr (.inr (.inr (.inr (.inr (.inr (.inr (.inr (.inr (.inr (.inr (.inr (.inr (.inr (.inl ⟨rfl,_,rfl,by rw[Q.out]⟩)))))))))))))))
 match k,q with
 | 0,q=>simp at q;subst q;exact⟨_,rfl,P5.out _ _ e1⟩
 | k+1,q=>simp at q
theorem Vf {K:Nat->Tk}{N br bl:Nat}{self:Nat->Nat->Nat->RX PX}(hS:Cv K N br bl self)(hK:∀i,Bz (K i))(hL:Bn K N)(hN:N<=1000000)(w:World)(d i:Nat)(hd:d<=24)(h:RSd K N w br bl (.ok i) d)
  (hk:(K i).tx∈Cx) (r:Except (Nat×Nat) (PX×Nat)) (hr:C5 K self 12 d i=some r) :
  Calls Tryz.prog 18 #[.pointer (some ⟨br,0,none⟩),.int .i64 12] w (Cd K N w br bl d r):=by
 have HS:Hid (Cv K N br bl self):=hS;have HK:Hid (∀i,Bz (K i)):=hK;have HR:Hid (RSd K N w br bl (.ok i) d):=h;have Z:i<N:=hL.lt h.le (m:=(K i).tx) (by simp) (Fd hk).1;obtain⟨c,h1,hc⟩:=Bx noX (Fa (M2 (Fd hk).2.1 hr));have S:Hid (stX r=stX c/\∀y j,r=.ok (y,j)->y=Bu 12 (K i).tx (Au noX c)):=Dm hc;have H1:Hid (Ay (inS K i d) (self 12 (d+1))=some c):=h1;have Q:Hid ((Ie.any fun m=>isS K (.ok i) m.data.toList)=true):=Sw (.inr hk);obtain⟨a3,a2,dd,A,hI,a5,X,t0,t1,t2⟩:=h.open;obtain⟨s,u0,u1,u2⟩:=RS.cells A X t0 t1 t2;have c0:=Aa A 0;have c1:=Aa A 1;have c3:=Aa A 3;have k0:=Aa s 0;have k1:=Aa s 1;have Y:=Ab A;have W:(i:Int)<((N+1:Nat):Int):=by omega
 have mo:=follows;obtain⟨f,H⟩:∃f,Bg (K i).cl=f:=⟨_,rfl⟩;obtain⟨tx,v⟩:∃tx,B2 (K i)=tx:=⟨_,rfl⟩;obtain⟨a,C⟩:∃a,(K i).at'=a:=⟨_,rfl⟩;have p:Hid (tx.data.toList=(K i).tx):=by show _=_;rw[<- v];exact C8 hK (Fd hk).1 rfl
 have R:Hid ((K i).tx∈Cx):=hk;have n1:(tx.toList==[45])=false:=by rw[ByteArray.toList_eq,p.out];exact(Fd hk).2.2
 rw[H] at t0 u0;rw[v] at t1 u1;rw[C] at t2 u2;clear A s h hS hK hL H v C hr hk h1 hc;go_enter Tryz.func18,Tryz.ntmps18
 go_wp2_with fail
 go_big_region_o
 have L:Hid (Ap _ w.heap.size f tx (a:Int)):=Ap.new w f tx (a:Int);have J:Hid (Ad w (w.alloc (.cells #[.int .u8 (f:Int),.string tx,.int .i64 (a:Int)] 55)).drew):=((Ad.refl w).alloc _).drew;clear c0 c1 c3 k0 k1 u0 u1 u2 t0 t1 t2 W;generalize (w.alloc (.cells #[.int .u8 (f:Int),.string tx,.int .i64 (a:Int)] 55)).drew=W1 at J L |-;obtain⟨n,D⟩:∃n,w.heap.size=n:=⟨_,rfl⟩;rw[D] at L Y |-;have a6:n<=w.heap.size:=by omega
 clear D;have b:n≠br:=by omega
 have T:Hid (RSd K N W1 br bl (.ok i) d):=HR.out.grew J.out;go_wp2_with fail
 refine(D0 HK.out W1 br bl (.ok i) d _ Ie 4 true rfl (by decide) rfl (by decide) Q.out T.out).mono ?_;rintro e M ⟨rfl,O⟩;have R2:Hid (RSd K N M br bl (.ok i) d):=T.out.grew O;have G2:Hid (Ad w M):=J.out.trans O;have U:Hid (Ap M n f tx (a:Int)):=L.out.grew O;clear O T J L;have q1:=Aa U.out 1;go_wp2_with fail
 clear q1;refine(Hf hN M br bl i d hd Z R2.out).mono ?_;rintro e z ⟨rfl,E,t⟩;have R3:Hid (RSd K N z br bl (inS K i d) (d+1)):=E;have P:Hid (Fr (·≠br) w z):=(Fr.grew G2.out).trans t;have T3:Hid (Ap z n f tx (a:Int)):=U.out.fr t b;clear E t R2 G2 U;go_wp2_with fail
 refine(HS.out z 12 (d+1) (inS K i d) c (by omega) (Ft hd) R3.out H1.out).mono ?_;rintro e B ⟨u,F,V,rfl,I⟩;have R4:Hid (RSd K N B br bl (stX c) (d+1)):=F;have F4:Hid (Fr (·≠br) w B):=P.out.trans u;have T4:Hid (Ap B n f tx (a:Int)):=T3.out.fr u b;have a7:=P.out.size;have a4:br<z.heap.size:=by omega
 have P4:Hid (∀x j,c=.ok (x,j)->Ag (fun k=>z.heap.size<=k) B x (.pointer (some ⟨V,0,none⟩))):=I;clear u F I R3 P T3;go_wp2_with fail
 refine(Ec B br bl _ d hd R4.out).mono ?_;rintro e l ⟨rfl,G,g⟩;have R5:Hid (RSd K N l br bl (stX c) d):=G;have F5:Hid (Fr (·≠br) w l):=F4.out.trans g;have T5:Hid (Ap l n f tx (a:Int)):=T4.out.fr g b;have P5:Hid (∀x j,c=.ok (x,j)->Ag (fun k=>w.heap.size<=k) l x (.pointer (some ⟨V,0,none⟩))):=fun x j e=>(P4.out x j e).fr (g.mono fun k q=>by omega) fun _ _ q=>by omega
 have a0:=F5.out.size;clear G g R4 F4 T4 P4;have q2:=Aa T5.out 2;have a1:=Ab T5.out;go_wp2_with fail
 go_ret
 have hG:Ad l ((l.alloc (.cells #[.pointer (some ⟨V,0,none⟩)] 26)).alloc (.cells #[.string tx,.int .i64 (a:Int),.string ⟨#[]⟩,.int .i64 0,.int .i64 0,.string ⟨#[]⟩,.slice none 0 0,.slice none 0 0,.slice (some ⟨l.heap.size,0,none⟩) 1 1,.int .i64 0,.int .i64 0] 95)):=((Ad.refl _).alloc _).alloc _;refine⟨F5.out.trans (Fr.grew hG),by rw[S.out.1];exact R5.out.grew hG,l.heap.size+1,rfl,fun x j e=>?_⟩;have o:OkS (stX c):=by rw[<- S.out.1];exact Ee e
 obtain⟨j1,e1⟩:=Cp noX o;rw[S.out.2 x j e];refine Nz (kids:=[Au noX c]) rfl (by decide) (fun k y q=>?_) a0 (.inr (.inr (.inr (.inr (.inr (.inr (.inr (.inr (.inr (.inr (.inr (.inr (.inr (.inr (.inr (.inr (.inl ⟨by rw[p.out];exact R.out,_,rfl,by rw[p.out]⟩)))))))))))))))))
 match k,q with
 | 0,q=>simp at q;subst q;exact⟨_,rfl,P5.out _ _ e1⟩
 | k+1,q=>simp at q
theorem Vg {K:Nat->Tk}{N br bl:Nat}{self:Nat->Nat->Nat->RX PX}(hK:∀i,Bz (K i))(hL:Bn K N)(hN:N<=1000000)(w:World)(d i:Nat)(h:RSd K N w br bl (.ok i) d)
  (hk:(K i).tx=Ch) (r:Except (Nat×Nat) (PX×Nat)) (hr:C5 K self 6 d i=some r) :
  Calls Tryz.prog 18 #[.pointer (some ⟨br,0,none⟩),.int .i64 6] w (Cd K N w br bl d r):=by
 have HK:Hid (∀i,Bz (K i)):=hK;have HR:Hid (RSd K N w br bl (.ok i) d):=h;have HL:Hid (Bn K N):=hL;have t:bX (C0 K (i+1)) (fun n j=>okX (C2 6 (K i).tx n) j)=some r:=by
  have:=hr;unfold C5 at this;rw[if_pos (by rw[hk];rfl)] at this;exact this
 rw[hk] at t;obtain⟨b,h1,hc⟩:=Bx [] (s:=.ok (i+1)) (f:=C0 K) t;have Q:Hid (stX r=stX b/\∀y j,r=.ok (y,j)->y=C2 6 Ch (Au [] b)):=Dm hc;have H1:Hid (Ay (.ok (i+1)) (C0 K)=some b):=h1;have P:Hid ((Ho.any fun m=>isS K (.ok i) m.data.toList)=false):=by show(Ho.any fun m=>(K i).tx==m.data.toList)=false;rw[hk];rfl
 have z:Hid (isS K (.ok i) Ch=true/\Cn K (.ok i) Ch=.ok (i+1)):=⟨by show((K i).tx==Ch)=true;rw[hk];rfl,by show(if (K i).tx==Ch then _ else _)=_;rw[hk];rfl⟩;obtain⟨a1,a0,dd,u,hI,a2,T,W,X,Y⟩:=h.open;obtain⟨o,u0,u1,u2⟩:=RS.cells u T W X Y;have c0:=Aa u 0;have c1:=Aa u 1;have c3:=Aa u 3;have k0:=Aa o 0;have k1:=Aa o 1;have U:=Ab u;have S:(i:Int)<((N+1:Nat):Int):=by omega
 have mo:=follows;obtain⟨c,F⟩:∃c,Bg (K i).cl=c:=⟨_,rfl⟩;obtain⟨tx,G⟩:∃tx,B2 (K i)=tx:=⟨_,rfl⟩;obtain⟨a,A⟩:∃a,(K i).at'=a:=⟨_,rfl⟩;rw[F] at W u0;rw[G] at X u1;rw[A] at Y u2;clear u o h hK hL F G A hr t hk h1 hc;go_enter Tryz.func18,Tryz.ntmps18
 go_wp2_with fail
 go_big_region_o
 have I:Hid (Ap _ w.heap.size c tx (a:Int)):=Ap.new w c tx (a:Int);have H:Hid (Ad w (w.alloc (.cells #[.int .u8 (c:Int),.string tx,.int .i64 (a:Int)] 55)).drew):=((Ad.refl w).alloc _).drew;clear c0 c1 c3 k0 k1 u0 u1 u2 W X Y S;generalize (w.alloc (.cells #[.int .u8 (c:Int),.string tx,.int .i64 (a:Int)] 55)).drew=W1 at H I |-;obtain⟨l,B⟩:∃l,w.heap.size=l:=⟨_,rfl⟩;rw[B] at I U |-;have a3:l<=w.heap.size:=by omega
 clear B;have g:l≠br:=by omega
 have R:Hid (RSd K N W1 br bl (.ok i) d):=HR.out.grew H.out;go_wp2_with fail
 refine(D0 HK.out W1 br bl (.ok i) d _ Ho 3 false rfl (by decide) rfl (by decide) P.out R.out).mono ?_;rintro e J ⟨rfl,M⟩;have R2:Hid (RSd K N J br bl (.ok i) d):=R.out.grew M;have G2:Hid (Ad w J):=H.out.trans M;have T2:Hid (Ap J l c tx (a:Int)):=I.out.grew M;clear M R H I;go_wp2_with fail
 refine(Fc HK.out HL.out J br bl (.ok i) d ⟨#[101,110,97,98,108,101,100]⟩ (by decide) hN R2.out).mono ?_;rintro e L ⟨rfl,D,p⟩;have R3:Hid (RSd K N L br bl (.ok (i+1)) d):=by show RSd _ _ _ _ _ _ _;rw[<- z.out.2];exact D
 have Z:Hid (Fr (·≠br) w L):=(Fr.grew G2.out).trans p;have T3:Hid (Ap L l c tx (a:Int)):=T2.out.fr p g;clear D p R2 G2 T2;have hq:isS K (.ok i) (ByteArray.mk #[101,110,97,98,108,101,100]).data.toList=true:=z.out.1;rw[hq];clear hq;go_wp2_with fail
 refine(Ka HL.out L br bl (.ok (i+1)) d hN R3.out b H1.out).mono ?_;rintro e k ⟨rfl,E,q⟩;have R4:Hid (RSd K N k br bl (stX b) d):=E;have F4:Hid (Fr (·≠br) w k):=Z.out.trans q;have T4:Hid (Ap k l c tx (a:Int)):=T3.out.fr q g;have v:Hid (OkS (stX b)->(C4 b).data.toList=Au [] b):=Iy;obtain⟨O,C⟩:∃O,C4 b=O:=⟨_,rfl⟩;rw[C] at v |-;clear E q R3 Z T3 C;have V:=F4.out.size;have q2:=Aa T4.out 2;go_wp2_with fail
 go_ret
 have hG:Ad k (k.alloc (.cells #[.string ⟨#[101,110,97,98,108,101,100]⟩,.int .i64 (a:Int),.string O,.int .i64 0,.int .i64 0,.string ⟨#[]⟩,.slice none 0 0,.slice none 0 0,.slice none 0 0,.int .i64 0,.int .i64 0] 95)):=(Ad.refl _).alloc _;refine⟨F4.out.trans (Fr.grew hG),by rw[Q.out.1];exact R4.out.grew hG,k.heap.size,rfl,fun x j e=>?_⟩;rw[Q.out.2 x j e];exact Ag.leaf (Ao.new k ⟨#[101,110,97,98,108,101,100]⟩ ⟨#[]⟩ O (a:Int) 0 0) V (.inr (.inr (.inr (.inr (.inr (.inr (.inr (.inr (.inr (.inl ⟨rfl,by rw[v.out (by rw[<- Q.out.1];exact Ee e)];rfl⟩))))))))))
theorem Qs {K:Nat->Tk}{N br bl:Nat}{self:Nat->Nat->Nat->RX PX}(hK:∀i,Bz (K i))(hL:Bn K N)(hN:N<=1000000)(w:World)(d i:Nat)(h:RSd K N w br bl (.ok i) d)
  (hk:(K i).tx=Bo) (r:Except (Nat×Nat) (PX×Nat)) (hr:C5 K self 12 d i=some r) :
  Calls Tryz.prog 18 #[.pointer (some ⟨br,0,none⟩),.int .i64 12] w (Cd K N w br bl d r):=by
 have HK:Hid (∀i,Bz (K i)):=hK;have HR:Hid (RSd K N w br bl (.ok i) d):=h;have HL:Hid (Bn K N):=hL;have t:bX (C0 K (i+1)) (fun n j=>okX (C2 12 (K i).tx n) j)=some r:=by
  have:=hr;unfold C5 at this;rw[if_pos (by rw[hk];rfl)] at this;exact this
 rw[hk] at t;obtain⟨b,h1,hc⟩:=Bx [] (s:=.ok (i+1)) (f:=C0 K) t;have Q:Hid (stX r=stX b/\∀y j,r=.ok (y,j)->y=C2 12 Bo (Au [] b)):=Dm hc;have H1:Hid (Ay (.ok (i+1)) (C0 K)=some b):=h1;have P:Hid ((Ie.any fun m=>isS K (.ok i) m.data.toList)=false):=by show(Ie.any fun m=>(K i).tx==m.data.toList)=false;rw[hk];rfl
 have z:Hid (isS K (.ok i) Bo=true/\Cn K (.ok i) Bo=.ok (i+1)):=⟨by show((K i).tx==Bo)=true;rw[hk];rfl,by show(if (K i).tx==Bo then _ else _)=_;rw[hk];rfl⟩;obtain⟨a1,a0,dd,u,hI,a2,T,W,X,Y⟩:=h.open;obtain⟨o,u0,u1,u2⟩:=RS.cells u T W X Y;have c0:=Aa u 0;have c1:=Aa u 1;have c3:=Aa u 3;have k0:=Aa o 0;have k1:=Aa o 1;have U:=Ab u;have S:(i:Int)<((N+1:Nat):Int):=by omega
 have mo:=follows;obtain⟨c,F⟩:∃c,Bg (K i).cl=c:=⟨_,rfl⟩;obtain⟨tx,G⟩:∃tx,B2 (K i)=tx:=⟨_,rfl⟩;obtain⟨a,A⟩:∃a,(K i).at'=a:=⟨_,rfl⟩;rw[F] at W u0;rw[G] at X u1;rw[A] at Y u2;clear u o h hK hL F G A hr t hk h1 hc;go_enter Tryz.func18,Tryz.ntmps18
 go_wp2_with fail
 go_big_region_o
 have I:Hid (Ap _ w.heap.size c tx (a:Int)):=Ap.new w c tx (a:Int);have H:Hid (Ad w (w.alloc (.cells #[.int .u8 (c:Int),.string tx,.int .i64 (a:Int)] 55)).drew):=((Ad.refl w).alloc _).drew;clear c0 c1 c3 k0 k1 u0 u1 u2 W X Y S;generalize (w.alloc (.cells #[.int .u8 (c:Int),.string tx,.int .i64 (a:Int)] 55)).drew=W1 at H I |-;obtain⟨l,B⟩:∃l,w.heap.size=l:=⟨_,rfl⟩;rw[B] at I U |-;have a3:l<=w.heap.size:=by omega
 clear B;have g:l≠br:=by omega
 have R:Hid (RSd K N W1 br bl (.ok i) d):=HR.out.grew H.out;go_wp2_with fail
 refine(D0 HK.out W1 br bl (.ok i) d _ Ie 4 false rfl (by decide) rfl (by decide) P.out R.out).mono ?_;rintro e J ⟨rfl,M⟩;have R2:Hid (RSd K N J br bl (.ok i) d):=R.out.grew M;have G2:Hid (Ad w J):=H.out.trans M;have T2:Hid (Ap J l c tx (a:Int)):=I.out.grew M;clear M R H I;go_wp2_with fail
 refine(Fc HK.out HL.out J br bl (.ok i) d ⟨#[117,110,99,104,97,110,103,101,100]⟩ (by decide) hN R2.out).mono ?_;rintro e L ⟨rfl,D,p⟩;have R3:Hid (RSd K N L br bl (.ok (i+1)) d):=by show RSd _ _ _ _ _ _ _;rw[<- z.out.2];exact D
 have Z:Hid (Fr (·≠br) w L):=(Fr.grew G2.out).trans p;have T3:Hid (Ap L l c tx (a:Int)):=T2.out.fr p g;clear D p R2 G2 T2;have hq:isS K (.ok i) (ByteArray.mk #[117,110,99,104,97,110,103,101,100]).data.toList=true:=z.out.1;rw[hq];clear hq;go_wp2_with fail
 refine(Ka HL.out L br bl (.ok (i+1)) d hN R3.out b H1.out).mono ?_;rintro e k ⟨rfl,E,q⟩;have R4:Hid (RSd K N k br bl (stX b) d):=E;have F4:Hid (Fr (·≠br) w k):=Z.out.trans q;have T4:Hid (Ap k l c tx (a:Int)):=T3.out.fr q g;have v:Hid (OkS (stX b)->(C4 b).data.toList=Au [] b):=Iy;obtain⟨O,C⟩:∃O,C4 b=O:=⟨_,rfl⟩;rw[C] at v |-;clear E q R3 Z T3 C;have V:=F4.out.size;have q2:=Aa T4.out 2;go_wp2_with fail
 go_ret
 have hG:Ad k (k.alloc (.cells #[.string ⟨#[117,110,99,104,97,110,103,101,100]⟩,.int .i64 (a:Int),.string O,.int .i64 0,.int .i64 0,.string ⟨#[]⟩,.slice none 0 0,.slice none 0 0,.slice none 0 0,.int .i64 0,.int .i64 0] 95)):=(Ad.refl _).alloc _;refine⟨F4.out.trans (Fr.grew hG),by rw[Q.out.1];exact R4.out.grew hG,k.heap.size,rfl,fun x j e=>?_⟩;rw[Q.out.2 x j e];exact Ag.leaf (Ao.new k ⟨#[117,110,99,104,97,110,103,101,100]⟩ ⟨#[]⟩ O (a:Int) 0 0) V (.inr (.inr (.inr (.inr (.inr (.inr (.inr (.inr (.inl ⟨rfl,by rw[v.out (by rw[<- Q.out.1];exact Ee e)];rfl⟩)))))))))
end Go.Proofs.YtjbfcadeapphbaaGreatDoor.Sx
