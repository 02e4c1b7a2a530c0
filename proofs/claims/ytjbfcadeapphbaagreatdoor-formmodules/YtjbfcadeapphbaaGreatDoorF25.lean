/- The reference: signs and words ahead of a part that hold most tightly. -/
import Derived.Test.YtjbfcadeapphbaaGreatDoorF24
namespace Go.Proofs.YtjbfcadeapphbaaGreatDoor.Sx
set_option maxRecDepth 100000
set_option maxHeartbeats 8000000
open Go.RowKit Go.Sort
theorem Xn (s:ByteArray)(w:World)(h:s.data.toList∈E0.map Prod.fst):Calls Tryz.prog 48 #[.string s] w fun e w'=>e=.returned (.int .i64 (Ak s.data.toList:Int))/\w'=w:=by
 have c:=follows;simp only[E0,List.map_cons,List.map_nil,List.mem_cons,List.not_mem_nil,or_false] at h;obtain⟨v,a⟩:∃v,Ak s.data.toList=v:=⟨_,rfl⟩;rw[a];have b:s=⟨⟨s.data.toList⟩⟩:=by cases s;rfl
 generalize s.data.toList=l at h b a;subst b;rcases h with rfl|rfl|rfl|rfl|rfl|rfl|rfl|rfl|rfl|rfl|rfl|rfl|rfl|rfl|rfl|rfl|rfl|rfl|rfl|rfl|rfl|rfl|rfl|rfl|rfl
 all_goals
  obtain rfl:=a;go_enter Tryz.func48,Tryz.ntmps48
  go_wp2_with fail
  go_ret
  exact⟨rfl,rfl⟩
theorem Xo (s:ByteArray)(w:World)(h:s.data.toList ∉ E0.map Prod.fst):Calls Tryz.prog 48 #[.string s] w fun e w'=>e=.returned (.int .i64 0)/\w'=w:=by
 have E:=follows;simp only[E0,List.map_cons,List.map_nil,List.mem_cons,List.not_mem_nil,or_false,not_or] at h;have D:s.toList=s.data.toList:=by rw[ByteArray.toList_eq]
 rw[<- D] at h;obtain⟨t,u,v,x,y,z,A,B,C,a,b,c,d,f,g,i,j,k,l,m,n,o,p,q,r⟩:=h;replace t:=beq_eq_false_iff_ne.2 t;replace u:=beq_eq_false_iff_ne.2 u;replace v:=beq_eq_false_iff_ne.2 v;replace x:=beq_eq_false_iff_ne.2 x;replace y:=beq_eq_false_iff_ne.2 y;replace z:=beq_eq_false_iff_ne.2 z;replace A:=beq_eq_false_iff_ne.2 A;replace B:=beq_eq_false_iff_ne.2 B;replace C:=beq_eq_false_iff_ne.2 C;replace a:=beq_eq_false_iff_ne.2 a;replace b:=beq_eq_false_iff_ne.2 b;replace c:=beq_eq_false_iff_ne.2 c;replace d:=beq_eq_false_iff_ne.2 d;replace f:=beq_eq_false_iff_ne.2 f;replace g:=beq_eq_false_iff_ne.2 g;replace i:=beq_eq_false_iff_ne.2 i;replace j:=beq_eq_false_iff_ne.2 j;replace k:=beq_eq_false_iff_ne.2 k;replace l:=beq_eq_false_iff_ne.2 l;replace m:=beq_eq_false_iff_ne.2 m;replace n:=beq_eq_false_iff_ne.2 n;replace o:=beq_eq_false_iff_ne.2 o;replace p:=beq_eq_false_iff_ne.2 p;replace q:=beq_eq_false_iff_ne.2 q;replace r:=beq_eq_false_iff_ne.2 r;clear D;go_enter Tryz.func48,Tryz.ntmps48
 go_wp2_with fail
 go_ret
 exact⟨rfl,rfl⟩
theorem Qv (s:ByteArray)(w:World):Calls Tryz.prog 48 #[.string s] w fun e w'=>e=.returned (.int .i64 (Ak s.data.toList:Int))/\w'=w:=by
 by_cases h:s.data.toList∈E0.map Prod.fst
 ·exact Xn s w h
 ·have e:Ak s.data.toList=0:=by unfold Ak;rw[Gn _ h];rfl
  rw[e];exact Xo s w h
def eG:List (List UInt8×Nat):=[([105,102],0),([108,101,116],0),([97,108,108],0),([115,111,109,101],0),([99,104,111,111,115,101],0),([102,117,110,32,105,110],0),([110,111,116],6),([97,108,119,97,121,115],6),([101,118,101,110,116,117,97,108,108,121],6),([101,110,97,98,108,101,100],6),([110,101,103],12),([100,111,109,97,105,110],12),([112,111,119,101,114,115,101,116],12),([102,108,97,116,116,101,110],12),([117,110,99,104,97,110,103,101,100],12),([97,116],13),([112,117,116],13)]
def aN (l:List UInt8):Nat:=match eG.lookup l with|some n=>n|none=>if Ak l=0 then 14 else Ak l
theorem eH (op:ByteArray)(w:World)(be:Nat)(c0:w.cell? ⟨be,0,none⟩=some (.string op))(h:op.data.toList∈eG.map Prod.fst):Calls Tryz.prog 20 #[.pointer (some ⟨be,0,none⟩)] w fun e w'=>e=.returned (.int .i64 (aN op.data.toList:Int))/\w'=w:=by
 have c:=follows;simp only[eG,List.map_cons,List.map_nil,List.mem_cons,List.not_mem_nil,or_false] at h;obtain⟨v,a⟩:∃v,aN op.data.toList=v:=⟨_,rfl⟩;rw[a];have b:op=⟨⟨op.data.toList⟩⟩:=by cases op;rfl
 generalize op.data.toList=l at h b a;subst b;rcases h with rfl|rfl|rfl|rfl|rfl|rfl|rfl|rfl|rfl|rfl|rfl|rfl|rfl|rfl|rfl|rfl|rfl
 all_goals
  obtain rfl:=a;go_enter Tryz.func20,Tryz.ntmps20
  go_wp2_with fail
  go_ret
  exact⟨rfl,rfl⟩
theorem eI (op:ByteArray)(w:World)(be:Nat)(c0:w.cell? ⟨be,0,none⟩=some (.string op))(h:op.data.toList ∉ eG.map Prod.fst)(u:Nat)(hu:u=if Ak op.data.toList=0 then 14 else Ak op.data.toList):Calls Tryz.prog 20 #[.pointer (some ⟨be,0,none⟩)] w fun e w'=>e=.returned (.int .i64 (u:Int))/\w'=w:=by
 have C:=follows;simp only[eG,List.map_cons,List.map_nil,List.mem_cons,List.not_mem_nil,or_false,not_or] at h;have z:op.toList=op.data.toList:=by rw[ByteArray.toList_eq]
 rw[<- z] at h;obtain⟨m,n,o,p,q,r,s,t,x,a,b,c,d,f,g,i,j⟩:=h;replace m:=beq_eq_false_iff_ne.2 m;replace n:=beq_eq_false_iff_ne.2 n;replace o:=beq_eq_false_iff_ne.2 o;replace p:=beq_eq_false_iff_ne.2 p;replace q:=beq_eq_false_iff_ne.2 q;replace r:=beq_eq_false_iff_ne.2 r;replace s:=beq_eq_false_iff_ne.2 s;replace t:=beq_eq_false_iff_ne.2 t;replace x:=beq_eq_false_iff_ne.2 x;replace a:=beq_eq_false_iff_ne.2 a;replace b:=beq_eq_false_iff_ne.2 b;replace c:=beq_eq_false_iff_ne.2 c;replace d:=beq_eq_false_iff_ne.2 d;replace f:=beq_eq_false_iff_ne.2 f;replace g:=beq_eq_false_iff_ne.2 g;replace i:=beq_eq_false_iff_ne.2 i;replace j:=beq_eq_false_iff_ne.2 j;clear z;have k:Hid (∀W:World,Calls _ _ _ _ _):=fun W=>Qv op W;obtain⟨v,A⟩:∃v,Ak op.data.toList=v:=⟨_,rfl⟩;rw[A] at k hu;clear A;go_enter Tryz.func20,Tryz.ntmps20
 go_wp2_with fail
 refine(k.out w).mono ?_;rintro e W ⟨rfl,y⟩;rw[y];clear y;by_cases l:v=0
 ·subst l;obtain rfl:u=14:=hu;go_wp2_with fail
  go_ret
  exact⟨rfl,rfl⟩
 ·obtain rfl:u=v:=by rw[hu,if_neg l]
  clear hu;have B:(0:Int)<(u:Int):=by omega
  go_wp2_with fail
  go_ret
  exact⟨rfl,rfl⟩
theorem iD (op:ByteArray)(w:World)(be:Nat)(c0:w.cell? ⟨be,0,none⟩=some (.string op)):Calls Tryz.prog 20 #[.pointer (some ⟨be,0,none⟩)] w fun e w'=>e=.returned (.int .i64 (aN op.data.toList:Int))/\w'=w:=by
 by_cases h:op.data.toList∈eG.map Prod.fst
 ·exact eH op w be c0 h
 ·have e:aN op.data.toList=if Ak op.data.toList=0 then 14 else Ak op.data.toList:=by unfold aN;rw[Gn _ h]
  exact eI op w be c0 h _ e
theorem iE {op nm tx:List UInt8}{k n:Int}{kids:List PX}{x:PX}(h:Hr op nm k n tx kids x):x.rk=aN op:=by
 rcases h with⟨rfl,h⟩|⟨rfl,rfl⟩|⟨rfl,rfl⟩|⟨rfl,rfl⟩|⟨h,rfl⟩|⟨rfl,rfl⟩|⟨rfl,rfl⟩|⟨rfl,rfl⟩|⟨rfl,rfl⟩|⟨rfl,rfl⟩|⟨rfl,a,b,c,rfl,rfl⟩|⟨rfl,a,b,rfl,rfl⟩|⟨h,a,b,rfl,rfl⟩|⟨rfl,a,b,rfl,rfl⟩|⟨rfl,a,rfl,rfl⟩|⟨h,a,rfl,rfl⟩|⟨h,a,rfl,rfl⟩|⟨rfl,a,b,rfl,rfl⟩|⟨rfl,a,b,c,rfl,rfl⟩|⟨h,a,b,rfl,rfl⟩
 ·rcases h with⟨_,rfl⟩|⟨_,_,rfl⟩|⟨_,_,rfl⟩|⟨_,_,_,rfl⟩|⟨_,rfl⟩<;>rfl
 ·rfl
 ·rfl
 ·rfl
 ·simp only[Cs,List.mem_cons,List.not_mem_nil,or_false] at h;rcases h with rfl|rfl|rfl|rfl|rfl|rfl|rfl<;>rfl
 ·rfl
 ·rfl
 ·rfl
 ·rfl
 ·rfl
 ·rfl
 ·rfl
 ·simp only[Qs,Dr,List.mem_cons,List.not_mem_nil,or_false] at h;rcases h with(rfl|rfl|rfl)|(rfl|rfl)<;>rfl
 ·rfl
 ·rfl
 ·simp only[En,List.mem_cons,List.not_mem_nil,or_false] at h;rcases h with rfl|rfl|rfl<;>rfl
 ·simp only[Dq,List.mem_cons,List.not_mem_nil,or_false] at h;rcases h with rfl|rfl|rfl<;>rfl
 ·rfl
 ·rfl
 ·simp only[E0,List.map_cons,List.map_nil,List.mem_cons,List.not_mem_nil,or_false] at h;rcases h with rfl|rfl|rfl|rfl|rfl|rfl|rfl|rfl|rfl|rfl|rfl|rfl|rfl|rfl|rfl|rfl|rfl|rfl|rfl|rfl|rfl|rfl|rfl|rfl|rfl<;>rfl
theorem Xp {K:Nat->Tk}{N br bl:Nat}(w:World)(n d:Nat)(q:Nat×Nat)(h:RSd K N w br bl (.error q) d) :
  Calls Tryz.prog 18 #[.pointer (some ⟨br,0,none⟩),.int .i64 (n:Int)] w (C0 K N w br bl d (.error q)):=by
 have f:Hid (RSd K N w br bl (.error q) d):=h;obtain⟨a,b⟩:=h.err;obtain⟨c,p⟩:=q;have i:((c:Int)==0)=false:=b c p rfl;have g:w.cell? ⟨br,3,none⟩=some (.int .i64 (c:Int)):=a;have k:=follows;clear h b a;go_enter Tryz.func18,Tryz.ntmps18
 go_wp2_with fail
 go_ret
 exact⟨Fr.grew ((Ad.refl _).alloc _),f.out.grew ((Ad.refl _).alloc _),_,rfl,fun x j e=>by simp at e⟩
theorem Si {w:World}{lo m:Nat}{op nm:ByteArray}{a:Int}{vs:Array Value}{kids:List PX}{x:PX}(hm:m=kids.length)(hm4:m<=4294967296)
  (hk:∀(i:Nat)(x:PX),kids[i]?=some x->∃v,vs[i]?=some v/\Aj (fun k=>lo<=k) w x v) (hlo:lo<=w.heap.size) (hx:Hr op.data.toList nm.data.toList 0 0 [] kids x) :
  Aj (fun k=>lo<=k) ((w.alloc (.cells vs 26 (0,0))).alloc (.cells #[.string op,.int .i64 a,.string nm,.int .i64 0,.int .i64 0,.string ⟨#[]⟩,.slice none 0 0,.slice none 0 0,.slice (some ⟨w.heap.size,0,none⟩) m m,.int .i64 0,.int .i64 0] 95 (0,0))) x (.pointer (some ⟨w.heap.size+1,0,none⟩)):=by
 have e:Fr (fun _=>True) w ((w.alloc (.cells vs 26 (0,0))).alloc (.cells #[.string op,.int .i64 a,.string nm,.int .i64 0,.int .i64 0,.string ⟨#[]⟩,.slice none 0 0,.slice none 0 0,.slice (some ⟨w.heap.size,0,none⟩) m m,.int .i64 0,.int .i64 0] 95 (0,0))):=((Fr.refl _ w).alloc _).alloc _;have d:Av ((w.alloc (.cells vs 26 (0,0))).alloc (.cells #[.string op,.int .i64 a,.string nm,.int .i64 0,.int .i64 0,.string ⟨#[]⟩,.slice none 0 0,.slice none 0 0,.slice (some ⟨w.heap.size,0,none⟩) m m,.int .i64 0,.int .i64 0] 95 (0,0))) (w.heap.size+1) op a nm 0 0 ⟨#[]⟩ (some ⟨w.heap.size,0,none⟩) m m:=Af (Fv w _);have c:(w.alloc (.cells vs 26 (0,0))).heap[w.heap.size]?=some (.cells vs 26 (0,0)):=Af rfl;have f:Fr (fun _=>True) (w.alloc (.cells vs 26 (0,0))) ((w.alloc (.cells vs 26 (0,0))).alloc (.cells #[.string op,.int .i64 a,.string nm,.int .i64 0,.int .i64 0,.string ⟨#[]⟩,.slice none 0 0,.slice none 0 0,.slice (some ⟨w.heap.size,0,none⟩) m m,.int .i64 0,.int .i64 0] 95 (0,0))):=(Fr.refl _ _).alloc _;have b:=(f.block w.heap.size (Ac c) trivial).trans c;refine Aj.node ⟨w.heap.size+1,op,nm,⟨#[]⟩,a,0,0,_,m,m,kids,rfl,by omega,d,⟨hm,hm4,.inr ⟨w.heap.size,0,rfl,Ac b,hlo,fun i x q=>?_⟩⟩,hx⟩;obtain⟨v,h,g⟩:=hk i x q;exact⟨v,by rw[Nat.zero_add,Aa b];exact h,g.fr (e.mono fun _ _=>trivial) fun k _ q=>q⟩
def Jk:List ByteArray:=[⟨#[110,111,116]⟩,⟨#[97,108,119,97,121,115]⟩,⟨#[101,118,101,110,116,117,97,108,108,121]⟩]
theorem J6 {l:List UInt8}(h:l∈En):l∈Dp/\(l==C5||l==Cc)=false:=by
 simp only[En,List.mem_cons,List.not_mem_nil,or_false] at h;rcases h with rfl|rfl|rfl<;>decide
theorem eJ {K:Nat->Tk}{i:Nat}(h:(K i).tx∈En):(Jk.any fun m=>isS K (.ok i) m.data.toList)=true:=by
 show(Jk.any fun m=>(K i).tx==m.data.toList)=true;simp only[En,List.mem_cons,List.not_mem_nil,or_false] at h;rcases h with e|e|e<;>rw[e]<;>rfl
theorem Qw {K:Nat->Tk}{self:Nat->Nat->Nat->RX PX}{n d i:Nat}{r:Except (Nat×Nat) (PX×Nat)}(e:((K i).tx==C5||(K i).tx==Cc)=false)(h:El K self n d i=some r):Dh K d i (fun j=>bX (self n (d+1) j) fun x j=>okX (Co n (K i).tx x) j)=some r:=by
 unfold El at h;rw[e,if_neg (by simp)] at h;exact h
theorem eK {K:Nat->Tk}{N br bl:Nat}{self:Nat->Nat->Nat->RX PX}(hS:Ch K N br bl self)(hK:∀i,Bs (K i))(hL:Bi K N)(hN:N<=1000000)(w:World)(d i:Nat)(hd:d<=24)(h:RSd K N w br bl (.ok i) d)
  (hk:(K i).tx∈En) (r:Except (Nat×Nat) (PX×Nat)) (hr:El K self 6 d i=some r) :
  Calls Tryz.prog 18 #[.pointer (some ⟨br,0,none⟩),.int .i64 6] w (C0 K N w br bl d r):=by
 have HS:Hid (Ch K N br bl self):=hS;have HK:Hid (∀i,Bs (K i)):=hK;have HR:Hid (RSd K N w br bl (.ok i) d):=h;have Z:i<N:=hL.lt h.le (m:=(K i).tx) (by simp) (J6 hk).1;obtain⟨c,h1,hc⟩:=A3 noX (Hb (Qw (J6 hk).2 hr));have S:Hid (stX r=stX c/\∀y j,r=.ok (y,j)->y=Co 6 (K i).tx (Ao noX c)):=Cz hc;have H1:Hid (Az (inS K i d) (self 6 (d+1))=some c):=h1;have Q:Hid ((Jk.any fun m=>isS K (.ok i) m.data.toList)=true):=eJ hk;obtain⟨a3,a2,dd,z,hI,a5,X,t0,t1,t2⟩:=h.open;obtain⟨p,u0,u1,u2⟩:=RS.cells z X t0 t1 t2;have c0:=Aa z 0;have c1:=Aa z 1;have c3:=Aa z 3;have k0:=Aa p 0;have k1:=Aa p 1;have Y:=Ac z;have W:(i:Int)<((N+1:Nat):Int):=by omega
 have mo:=follows;obtain⟨f,H⟩:∃f,Bn (K i).cl=f:=⟨_,rfl⟩;obtain⟨tx,u⟩:∃tx,Cf (K i)=tx:=⟨_,rfl⟩;obtain⟨a,C⟩:∃a,(K i).at'=a:=⟨_,rfl⟩;have A:Hid (tx.data.toList=(K i).tx):=by show _=_;rw[<- u];exact Ck hK (J6 hk).1 rfl
 have R:Hid ((K i).tx∈En):=hk;rw[H] at t0 u0;rw[u] at t1 u1;rw[C] at t2 u2;clear z p h hS hK hL H u C hr hk h1 hc;go_enter Tryz.func18,Tryz.ntmps18
 go_wp2_with fail
 go_big_region_o
 have L:Hid (Ap _ w.heap.size f tx (a:Int)):=Ap.new w f tx (a:Int);have J:Hid (Ad w (w.alloc (.cells #[.int .u8 (f:Int),.string tx,.int .i64 (a:Int)] 55)).drew):=((Ad.refl w).alloc _).drew;clear c0 c1 c3 k0 k1 u0 u1 u2 t0 t1 t2 W;generalize (w.alloc (.cells #[.int .u8 (f:Int),.string tx,.int .i64 (a:Int)] 55)).drew=W1 at J L |-;obtain⟨n,D⟩:∃n,w.heap.size=n:=⟨_,rfl⟩;rw[D] at L Y |-;have a6:n<=w.heap.size:=by omega
 clear D;have b:n≠br:=by omega
 have T:Hid (RSd K N W1 br bl (.ok i) d):=HR.out.grew J.out;go_wp2_with fail
 refine(C2 HK.out W1 br bl (.ok i) d _ Jk 3 true rfl (by decide) rfl (by decide) Q.out T.out).mono ?_;rintro e M ⟨rfl,O⟩;have R2:Hid (RSd K N M br bl (.ok i) d):=T.out.grew O;have G2:Hid (Ad w M):=J.out.trans O;have T2:Hid (Ap M n f tx (a:Int)):=L.out.grew O;clear O T J L;go_wp2_with fail
 refine(Jb hN M br bl i d hd Z R2.out).mono ?_;rintro e v ⟨rfl,E,s⟩;have R3:Hid (RSd K N v br bl (inS K i d) (d+1)):=E;have P:Hid (Fr (·≠br) w v):=(Fr.grew G2.out).trans s;have T3:Hid (Ap v n f tx (a:Int)):=T2.out.fr s b;clear E s R2 G2 T2;go_wp2_with fail
 refine(HS.out v 6 (d+1) (inS K i d) c (by omega) (Hv hd) R3.out H1.out).mono ?_;rintro e B ⟨t,F,V,rfl,I⟩;have R4:Hid (RSd K N B br bl (stX c) (d+1)):=F;have F4:Hid (Fr (·≠br) w B):=P.out.trans t;have T4:Hid (Ap B n f tx (a:Int)):=T3.out.fr t b;have a7:=P.out.size;have a4:br<v.heap.size:=by omega
 have P4:Hid (∀x j,c=.ok (x,j)->Aj (fun k=>v.heap.size<=k) B x (.pointer (some ⟨V,0,none⟩))):=I;clear t F I R3 P T3;go_wp2_with fail
 refine(Gf B br bl _ d hd R4.out).mono ?_;rintro e l ⟨rfl,G,g⟩;have R5:Hid (RSd K N l br bl (stX c) d):=G;have F5:Hid (Fr (·≠br) w l):=F4.out.trans g;have U:Hid (Ap l n f tx (a:Int)):=T4.out.fr g b;have P5:Hid (∀x j,c=.ok (x,j)->Aj (fun k=>w.heap.size<=k) l x (.pointer (some ⟨V,0,none⟩))):=fun x j e=>(P4.out x j e).fr (g.mono fun k q=>by omega) fun _ _ q=>by omega
 have a0:=F5.out.size;clear G g R4 F4 T4 P4;have q1:=Aa U.out 1;have q2:=Aa U.out 2;have a1:=Ac U.out;go_wp2_with fail
 go_ret
 have hG:Ad l ((l.alloc (.cells #[.pointer (some ⟨V,0,none⟩)] 26)).alloc (.cells #[.string tx,.int .i64 (a:Int),.string ⟨#[]⟩,.int .i64 0,.int .i64 0,.string ⟨#[]⟩,.slice none 0 0,.slice none 0 0,.slice (some ⟨l.heap.size,0,none⟩) 1 1,.int .i64 0,.int .i64 0] 95)):=((Ad.refl _).alloc _).alloc _;refine⟨F5.out.trans (Fr.grew hG),by rw[S.out.1];exact R5.out.grew hG,l.heap.size+1,rfl,fun x j e=>?_⟩;have o:OkS (stX c):=by rw[<- S.out.1];exact Dz e
 obtain⟨j1,e1⟩:=Ci noX o;rw[S.out.2 x j e];refine Si (kids:=[Ao noX c]) rfl (by decide) (fun k y q=>?_) a0 (.inr (.inr (.inr (.inr (.inr (.inr (.inr (.inr (.inr (.inr (.inr (.inr (.inr (.inr (.inr (.inl ⟨by rw[A.out];exact R.out,_,rfl,by rw[A.out]⟩))))))))))))))))
 match k,q with
 | 0,q=>simp at q;subst q;exact⟨_,rfl,P5.out _ _ e1⟩
 | k+1,q=>simp at q
def Kg:List ByteArray:=[⟨#[45]⟩,⟨#[100,111,109,97,105,110]⟩,⟨#[112,111,119,101,114,115,101,116]⟩,⟨#[102,108,97,116,116,101,110]⟩]
theorem Hf {l:List UInt8}(h:l∈Dq):l∈Dp/\(l==C5||l==Cc)=false/\(l==[45])=false:=by
 simp only[Dq,List.mem_cons,List.not_mem_nil,or_false] at h;rcases h with rfl|rfl|rfl<;>decide
theorem Xq {K:Nat->Tk}{i:Nat}(h:(K i).tx=Lg\/(K i).tx∈Dq):(Kg.any fun m=>isS K (.ok i) m.data.toList)=true:=by
 show(Kg.any fun m=>(K i).tx==m.data.toList)=true;simp only[Dq,List.mem_cons,List.not_mem_nil,or_false] at h;rcases h with e|e|e|e<;>rw[e]<;>rfl
theorem lV {K:Nat->Tk}{N br bl:Nat}{self:Nat->Nat->Nat->RX PX}(hS:Ch K N br bl self)(hK:∀i,Bs (K i))(hL:Bi K N)(hN:N<=1000000)(w:World)(d i:Nat)(hd:d<=24)(h:RSd K N w br bl (.ok i) d)
  (hk:(K i).tx=Lg) (r:Except (Nat×Nat) (PX×Nat)) (hr:El K self 12 d i=some r) :
  Calls Tryz.prog 18 #[.pointer (some ⟨br,0,none⟩),.int .i64 12] w (C0 K N w br bl d r):=by
 have HS:Hid (Ch K N br bl self):=hS;have HK:Hid (∀i,Bs (K i)):=hK;have HR:Hid (RSd K N w br bl (.ok i) d):=h;have Z:i<N:=hL.lt h.le (m:=(K i).tx) (by simp) (by rw[hk];decide);obtain⟨c,h1,hc⟩:=A3 noX (Hb (Qw (by rw[hk];rfl) hr));have R:Hid (stX r=stX c/\∀y j,r=.ok (y,j)->y=Co 12 (K i).tx (Ao noX c)):=Cz hc;have H1:Hid (Az (inS K i d) (self 12 (d+1))=some c):=h1;have P:Hid ((Kg.any fun m=>isS K (.ok i) m.data.toList)=true):=Xq (.inl hk);obtain⟨a3,a2,dd,z,hI,a5,X,t0,t1,t2⟩:=h.open;obtain⟨p,u0,u1,u2⟩:=RS.cells z X t0 t1 t2;have c0:=Aa z 0;have c1:=Aa z 1;have c3:=Aa z 3;have k0:=Aa p 0;have k1:=Aa p 1;have Y:=Ac z;have W:(i:Int)<((N+1:Nat):Int):=by omega
 have mo:=follows;obtain⟨f,G⟩:∃f,Bn (K i).cl=f:=⟨_,rfl⟩;obtain⟨tx,u⟩:∃tx,Cf (K i)=tx:=⟨_,rfl⟩;obtain⟨a,B⟩:∃a,(K i).at'=a:=⟨_,rfl⟩;have S:Hid (tx.data.toList=(K i).tx):=by show _=_;rw[<- u];exact Ck hK (by rw[hk];decide) rfl
 have Q:Hid ((K i).tx=Lg):=hk;have n1:(tx.toList==[45])=true:=by rw[ByteArray.toList_eq,S.out,hk];rfl
 rw[G] at t0 u0;rw[u] at t1 u1;rw[B] at t2 u2;clear z p h hS hK hL G u B hr hk h1 hc;go_enter Tryz.func18,Tryz.ntmps18
 go_wp2_with fail
 go_big_region_o
 have J:Hid (Ap _ w.heap.size f tx (a:Int)):=Ap.new w f tx (a:Int);have I:Hid (Ad w (w.alloc (.cells #[.int .u8 (f:Int),.string tx,.int .i64 (a:Int)] 55)).drew):=((Ad.refl w).alloc _).drew;clear c0 c1 c3 k0 k1 u0 u1 u2 t0 t1 t2 W;generalize (w.alloc (.cells #[.int .u8 (f:Int),.string tx,.int .i64 (a:Int)] 55)).drew=W1 at I J |-;obtain⟨n,C⟩:∃n,w.heap.size=n:=⟨_,rfl⟩;rw[C] at J Y |-;have a6:n<=w.heap.size:=by omega
 clear C;have b:n≠br:=by omega
 have T:Hid (RSd K N W1 br bl (.ok i) d):=HR.out.grew I.out;go_wp2_with fail
 refine(C2 HK.out W1 br bl (.ok i) d _ Kg 4 true rfl (by decide) rfl (by decide) P.out T.out).mono ?_;rintro e L ⟨rfl,M⟩;have R2:Hid (RSd K N L br bl (.ok i) d):=T.out.grew M;have G2:Hid (Ad w L):=I.out.trans M;have U:Hid (Ap L n f tx (a:Int)):=J.out.grew M;clear M T I J;have q1:=Aa U.out 1;go_wp2_with fail
 clear q1;refine(Jb hN L br bl i d hd Z R2.out).mono ?_;rintro e v ⟨rfl,D,s⟩;have R3:Hid (RSd K N v br bl (inS K i d) (d+1)):=D;have O:Hid (Fr (·≠br) w v):=(Fr.grew G2.out).trans s;have T3:Hid (Ap v n f tx (a:Int)):=U.out.fr s b;clear D s R2 G2 U;go_wp2_with fail
 refine(HS.out v 12 (d+1) (inS K i d) c (by omega) (Hv hd) R3.out H1.out).mono ?_;rintro e A ⟨t,E,V,rfl,H⟩;have R4:Hid (RSd K N A br bl (stX c) (d+1)):=E;have F4:Hid (Fr (·≠br) w A):=O.out.trans t;have T4:Hid (Ap A n f tx (a:Int)):=T3.out.fr t b;have a7:=O.out.size;have a4:br<v.heap.size:=by omega
 have P4:Hid (∀x j,c=.ok (x,j)->Aj (fun k=>v.heap.size<=k) A x (.pointer (some ⟨V,0,none⟩))):=H;clear t E H R3 O T3;go_wp2_with fail
 refine(Gf A br bl _ d hd R4.out).mono ?_;rintro e l ⟨rfl,F,g⟩;have R5:Hid (RSd K N l br bl (stX c) d):=F;have F5:Hid (Fr (·≠br) w l):=F4.out.trans g;have T5:Hid (Ap l n f tx (a:Int)):=T4.out.fr g b;have P5:Hid (∀x j,c=.ok (x,j)->Aj (fun k=>w.heap.size<=k) l x (.pointer (some ⟨V,0,none⟩))):=fun x j e=>(P4.out x j e).fr (g.mono fun k q=>by omega) fun _ _ q=>by omega
 have a0:=F5.out.size;clear F g R4 F4 T4 P4;have q2:=Aa T5.out 2;have a1:=Ac T5.out;go_wp2_with fail
 go_ret
 have hG:Ad l ((l.alloc (.cells #[.pointer (some ⟨V,0,none⟩)] 26)).alloc (.cells #[.string ⟨#[110,101,103]⟩,.int .i64 (a:Int),.string ⟨#[]⟩,.int .i64 0,.int .i64 0,.string ⟨#[]⟩,.slice none 0 0,.slice none 0 0,.slice (some ⟨l.heap.size,0,none⟩) 1 1,.int .i64 0,.int .i64 0] 95)):=((Ad.refl _).alloc _).alloc _;refine⟨F5.out.trans (Fr.grew hG),by rw[R.out.1];exact R5.out.grew hG,l.heap.size+1,rfl,fun x j e=>?_⟩;have o:OkS (stX c):=by rw[<- R.out.1];exact Dz e
 obtain⟨j1,e1⟩:=Ci noX o;rw[R.out.2 x j e];refine Si (kids:=[Ao noX c]) rfl (by decide) (fun k y q=>?_) a0 (.inr (.inr (.inr (.inr (.inr (.inr (.inr (.inr (.inr (.inr (.inr (.inr (.inr (.inr (.inl ⟨rfl,_,rfl,by rw[Q.out]⟩)))))))))))))))
 match k,q with
 | 0,q=>simp at q;subst q;exact⟨_,rfl,P5.out _ _ e1⟩
 | k+1,q=>simp at q
theorem aO {K:Nat->Tk}{N br bl:Nat}{self:Nat->Nat->Nat->RX PX}(hS:Ch K N br bl self)(hK:∀i,Bs (K i))(hL:Bi K N)(hN:N<=1000000)(w:World)(d i:Nat)(hd:d<=24)(h:RSd K N w br bl (.ok i) d)
  (hk:(K i).tx∈Dq) (r:Except (Nat×Nat) (PX×Nat)) (hr:El K self 12 d i=some r) :
  Calls Tryz.prog 18 #[.pointer (some ⟨br,0,none⟩),.int .i64 12] w (C0 K N w br bl d r):=by
 have HS:Hid (Ch K N br bl self):=hS;have HK:Hid (∀i,Bs (K i)):=hK;have HR:Hid (RSd K N w br bl (.ok i) d):=h;have Z:i<N:=hL.lt h.le (m:=(K i).tx) (by simp) (Hf hk).1;obtain⟨c,h1,hc⟩:=A3 noX (Hb (Qw (Hf hk).2.1 hr));have S:Hid (stX r=stX c/\∀y j,r=.ok (y,j)->y=Co 12 (K i).tx (Ao noX c)):=Cz hc;have H1:Hid (Az (inS K i d) (self 12 (d+1))=some c):=h1;have Q:Hid ((Kg.any fun m=>isS K (.ok i) m.data.toList)=true):=Xq (.inr hk);obtain⟨a3,a2,dd,A,hI,a5,X,t0,t1,t2⟩:=h.open;obtain⟨s,u0,u1,u2⟩:=RS.cells A X t0 t1 t2;have c0:=Aa A 0;have c1:=Aa A 1;have c3:=Aa A 3;have k0:=Aa s 0;have k1:=Aa s 1;have Y:=Ac A;have W:(i:Int)<((N+1:Nat):Int):=by omega
 have mo:=follows;obtain⟨f,H⟩:∃f,Bn (K i).cl=f:=⟨_,rfl⟩;obtain⟨tx,v⟩:∃tx,Cf (K i)=tx:=⟨_,rfl⟩;obtain⟨a,C⟩:∃a,(K i).at'=a:=⟨_,rfl⟩;have p:Hid (tx.data.toList=(K i).tx):=by show _=_;rw[<- v];exact Ck hK (Hf hk).1 rfl
 have R:Hid ((K i).tx∈Dq):=hk;have n1:(tx.toList==[45])=false:=by rw[ByteArray.toList_eq,p.out];exact(Hf hk).2.2
 rw[H] at t0 u0;rw[v] at t1 u1;rw[C] at t2 u2;clear A s h hS hK hL H v C hr hk h1 hc;go_enter Tryz.func18,Tryz.ntmps18
 go_wp2_with fail
 go_big_region_o
 have L:Hid (Ap _ w.heap.size f tx (a:Int)):=Ap.new w f tx (a:Int);have J:Hid (Ad w (w.alloc (.cells #[.int .u8 (f:Int),.string tx,.int .i64 (a:Int)] 55)).drew):=((Ad.refl w).alloc _).drew;clear c0 c1 c3 k0 k1 u0 u1 u2 t0 t1 t2 W;generalize (w.alloc (.cells #[.int .u8 (f:Int),.string tx,.int .i64 (a:Int)] 55)).drew=W1 at J L |-;obtain⟨n,D⟩:∃n,w.heap.size=n:=⟨_,rfl⟩;rw[D] at L Y |-;have a6:n<=w.heap.size:=by omega
 clear D;have b:n≠br:=by omega
 have T:Hid (RSd K N W1 br bl (.ok i) d):=HR.out.grew J.out;go_wp2_with fail
 refine(C2 HK.out W1 br bl (.ok i) d _ Kg 4 true rfl (by decide) rfl (by decide) Q.out T.out).mono ?_;rintro e M ⟨rfl,O⟩;have R2:Hid (RSd K N M br bl (.ok i) d):=T.out.grew O;have G2:Hid (Ad w M):=J.out.trans O;have U:Hid (Ap M n f tx (a:Int)):=L.out.grew O;clear O T J L;have q1:=Aa U.out 1;go_wp2_with fail
 clear q1;refine(Jb hN M br bl i d hd Z R2.out).mono ?_;rintro e z ⟨rfl,E,t⟩;have R3:Hid (RSd K N z br bl (inS K i d) (d+1)):=E;have P:Hid (Fr (·≠br) w z):=(Fr.grew G2.out).trans t;have T3:Hid (Ap z n f tx (a:Int)):=U.out.fr t b;clear E t R2 G2 U;go_wp2_with fail
 refine(HS.out z 12 (d+1) (inS K i d) c (by omega) (Hv hd) R3.out H1.out).mono ?_;rintro e B ⟨u,F,V,rfl,I⟩;have R4:Hid (RSd K N B br bl (stX c) (d+1)):=F;have F4:Hid (Fr (·≠br) w B):=P.out.trans u;have T4:Hid (Ap B n f tx (a:Int)):=T3.out.fr u b;have a7:=P.out.size;have a4:br<z.heap.size:=by omega
 have P4:Hid (∀x j,c=.ok (x,j)->Aj (fun k=>z.heap.size<=k) B x (.pointer (some ⟨V,0,none⟩))):=I;clear u F I R3 P T3;go_wp2_with fail
 refine(Gf B br bl _ d hd R4.out).mono ?_;rintro e l ⟨rfl,G,g⟩;have R5:Hid (RSd K N l br bl (stX c) d):=G;have F5:Hid (Fr (·≠br) w l):=F4.out.trans g;have T5:Hid (Ap l n f tx (a:Int)):=T4.out.fr g b;have P5:Hid (∀x j,c=.ok (x,j)->Aj (fun k=>w.heap.size<=k) l x (.pointer (some ⟨V,0,none⟩))):=fun x j e=>(P4.out x j e).fr (g.mono fun k q=>by omega) fun _ _ q=>by omega
 have a0:=F5.out.size;clear G g R4 F4 T4 P4;have q2:=Aa T5.out 2;have a1:=Ac T5.out;go_wp2_with fail
 go_ret
 have hG:Ad l ((l.alloc (.cells #[.pointer (some ⟨V,0,none⟩)] 26)).alloc (.cells #[.string tx,.int .i64 (a:Int),.string ⟨#[]⟩,.int .i64 0,.int .i64 0,.string ⟨#[]⟩,.slice none 0 0,.slice none 0 0,.slice (some ⟨l.heap.size,0,none⟩) 1 1,.int .i64 0,.int .i64 0] 95)):=((Ad.refl _).alloc _).alloc _;refine⟨F5.out.trans (Fr.grew hG),by rw[S.out.1];exact R5.out.grew hG,l.heap.size+1,rfl,fun x j e=>?_⟩;have o:OkS (stX c):=by rw[<- S.out.1];exact Dz e
 obtain⟨j1,e1⟩:=Ci noX o;rw[S.out.2 x j e];refine Si (kids:=[Ao noX c]) rfl (by decide) (fun k y q=>?_) a0 (.inr (.inr (.inr (.inr (.inr (.inr (.inr (.inr (.inr (.inr (.inr (.inr (.inr (.inr (.inr (.inr (.inl ⟨by rw[p.out];exact R.out,_,rfl,by rw[p.out]⟩)))))))))))))))))
 match k,q with
 | 0,q=>simp at q;subst q;exact⟨_,rfl,P5.out _ _ e1⟩
 | k+1,q=>simp at q
end Go.Proofs.YtjbfcadeapphbaaGreatDoor.Sx
