/- What stands behind a part, in brackets: a key and what is put there. -/
import Derived.Test.YtjbfcadeapphbaaGreatDoorE11
import Derived.Lib.AtoiErrMem
import Derived.Deep.RegionLaw
namespace Go.Proofs.YtjbfcadeapphbaaGreatDoor.Sx
set_option maxRecDepth 100000
set_option maxHeartbeats 2000000
open Go.RowKit Go.Sort
theorem Pt {br:Nat}{t:ByteArray}{self:Nat->Nat->Nat->RX PX}(hS:Az br t self)(w:World)(d i m:Nat)(hd:d<=24)(ht:t.size<=4000)(hI:B1 w br)(hr:RdF w br t i d)(ho:txF t.data.toList i=[40])
  (r:Except (Nat×Nat) (PX×Nat)) (h:Bp (tkF t.data.toList) self m d i=some r) :
  Calls Tryz.prog 157 #[.pointer (some ⟨br,0,none⟩)] w (Cq w br t d r):=by
 have T:Hid (Az br t self):=hS;have R:Hid (B1 w br):=hI;have S:Hid (RdF w br t i d):=hr;have L:=Ab hr;have h1:=Aa hr 1;have HL:Hid (∀(W:World)(k:Nat),_):=fun W k h=>Dl W br t k d h hd;clear hI hS hr;have mo:=follows;have s:Hid (Ak (w.alloc (.cells #[.int .i64 12,.string ⟨#[]⟩,.string ⟨#[]⟩,.int .i64 0,.int .i64 (atF t.data.toList i:Int),.slice none 0 0] 81)) w.heap.size 12 ⟨#[]⟩ ⟨#[]⟩ 0 (atF t.data.toList i) none 0 0):=Al rfl;have C:Hid (Fr (·≠br) w (w.alloc (.cells #[.int .i64 12,.string ⟨#[]⟩,.string ⟨#[]⟩,.int .i64 0,.int .i64 (atF t.data.toList i:Int),.slice none 0 0] 81))):=(Fr.refl _ w).alloc _;have u:Hid (RdF (w.alloc (.cells #[.int .i64 12,.string ⟨#[]⟩,.string ⟨#[]⟩,.int .i64 0,.int .i64 (atF t.data.toList i:Int),.slice none 0 0] 81)) br t i d):=RdF.of S.out (P:=fun _=>True) ((Fr.refl _ w).alloc _) trivial;have A:(pcF t i).toList=txF t.data.toList i:=by rw[ByteArray.toList_eq,Br]
 have B:(tkF t.data.toList i).tx=txF t.data.toList i:=rfl;unfold Bp at h;simp only[B] at h;go_enter Tryz.func157,Tryz.ntmps157
 go_upto_region 2 with fail
 clear h1 S;generalize (w.alloc (.cells #[.int .i64 12,.string ⟨#[]⟩,.string ⟨#[]⟩,.int .i64 0,.int .i64 (atF t.data.toList i:Int),.slice none 0 0] 81))=w1 at s C u |-;obtain⟨f,y⟩:∃f,w.heap.size=f:=⟨_,rfl⟩;rw[y] at s L |-;have a3:w.heap.size<=f:=by omega
 have a0:f<=w.heap.size:=by omega
 clear y;have M:f≠br:=by omega
 have a1:f<w1.heap.size:=Ab s.out;have h2:=Aa u.out 2;have g0:((pcF t i).toList==[40])=true:=by rw[A,ho];rfl
 rw[ho] at h;rw[if_pos (by decide)] at h;clear A B ho;go_wp2_with fail
 rcases C1 hd h with⟨K,V⟩|⟨rfl,rfl⟩
 case inr =>
  refine(Da w1 br t i u.out).mono ?_;rintro e l ⟨rfl,rfl⟩;exact⟨rfl,C.out,rfl⟩
 refine(D1 w1 br t i d u.out ht K).mono ?_;rintro e l ⟨rfl,hr,a⟩;have H:Hid (RdF l br t (i+1) (d+1)):=hr;have O:Hid (Ak l f 12 ⟨#[]⟩ ⟨#[]⟩ 0 (atF t.data.toList i) none 0 0):=s.out.of a M;have n:Hid (Fr (·≠br) w l):=C.out.trans a;have a2:f<l.heap.size:=Ab O.out;have a4:=n.out.size;clear hr a s C u h h2;have Q:Hid (∀(W:World)(m:ByteArray)(k:Nat)(b:Bool),_):=fun W m k b h=>Db W br t m k (d+1) h ht b;go_wp2_with fail
 rcases Aw V with⟨⟨c,p⟩,E,rfl⟩|⟨x,j,E,z⟩
 ·refine(A0 T.out l (d+1) _ _ (by omega) (R.out.fr n.out) H.out E).mono ?_;rintro e o ⟨a,rfl⟩;exact⟨rfl,n.out.trans a,rfl⟩
 refine(A0 T.out l (d+1) _ _ (by omega) (R.out.fr n.out) H.out E).mono ?_;rintro e o ⟨a,⟨v,rfl,X⟩,hr⟩;have I:Hid (RdF o br t j (d+1)):=hr;have G:Hid (Fr (·≠br) w o):=n.out.trans a;have J:Hid (Ae (fun k=>w.heap.size<=k) o x v):=X.fr (Fr.refl _ _) fun _ _ q=>by omega
 clear a hr X E V O n H;obtain⟨U,rfl,-,-⟩:=J.out.ptr;go_wp2_with fail
 rcases Cf z with⟨D,g⟩|⟨D,rfl⟩
 case inr =>
  refine(Q.out o ⟨#[41]⟩ j false I.out D).mono ?_;rintro e F ⟨a,⟨q,-⟩|⟨-,rfl⟩⟩
  ·simp at q
  ·exact⟨rfl,G.out.trans a,rfl⟩
 refine(Q.out o ⟨#[41]⟩ j true I.out D).mono ?_;rintro e F ⟨a,⟨-,rfl,hr⟩|⟨q,-⟩⟩
 case inr=>simp at q
 have R4:Hid (RdF F br t (j+1) (d+1)):=hr;have Y:Hid (Fr (·≠br) w F):=G.out.trans a;have T4:Hid (Ae (fun k=>w.heap.size<=k) F x (.pointer (some ⟨U,0,none⟩))):=J.out.fr (a.mono fun k q=>by omega) fun _ _ q=>q;have HQ:Hid (r=.ok (x,j+1)):=by simp only[okX,Option.some.injEq] at g;exact g.symm
 clear a hr D z g I G J;go_wp2_with (go_at_call 146;refine(HL.out _ _ R4.out).mono ?_;rintro e N ⟨rfl,hr,a⟩;have R5:Hid (RdF N br t (j+1) d):=hr;have Z:Hid (Fr (·≠br) w N):=Y.out.trans a;have T5:Hid (Ae (fun k=>w.heap.size<=k) N x (.pointer (some ⟨U,0,none⟩))):=T4.out.fr (a.mono fun k q=>by omega) fun _ _ q=>q;clear hr a)
 go_ret
 rw[HQ.out];exact⟨Z.out,⟨_,rfl,T5.out⟩,R5.out⟩
theorem Pu {br:Nat}{t:ByteArray}{self:Nat->Nat->Nat->RX PX}(hS:Az br t self)(w:World)(d i m:Nat)(hd:d<=24)(ht:t.size<=4000)(hm:m<=1000000)(hI:B1 w br)(hr:RdF w br t i d)(ho:txF t.data.toList i=[123])
  (r:Except (Nat×Nat) (PX×Nat)) (h:Bp (tkF t.data.toList) self m d i=some r) :
  Calls Tryz.prog 157 #[.pointer (some ⟨br,0,none⟩)] w (Cq w br t d r):=by
 have O:Hid (Az br t self):=hS;have H:Hid (B1 w br):=hI;have I:Hid (RdF w br t i d):=hr;have E:=Ab hr;have U:=Aa hr 1;have N:Hid (∀(W:World)(k:Nat),_):=fun W k h=>Dl W br t k d h hd;clear hI hS hr;have mo:=follows;have o:Hid (Ak (w.alloc (.cells #[.int .i64 12,.string ⟨#[]⟩,.string ⟨#[]⟩,.int .i64 0,.int .i64 (atF t.data.toList i:Int),.slice none 0 0] 81)) w.heap.size 12 ⟨#[]⟩ ⟨#[]⟩ 0 (atF t.data.toList i) none 0 0):=Al rfl;have z:Hid (Fr (·≠br) w (w.alloc (.cells #[.int .i64 12,.string ⟨#[]⟩,.string ⟨#[]⟩,.int .i64 0,.int .i64 (atF t.data.toList i:Int),.slice none 0 0] 81))):=(Fr.refl _ w).alloc _;have q:Hid (RdF (w.alloc (.cells #[.int .i64 12,.string ⟨#[]⟩,.string ⟨#[]⟩,.int .i64 0,.int .i64 (atF t.data.toList i:Int),.slice none 0 0] 81)) br t i d):=RdF.of I.out (P:=fun _=>True) ((Fr.refl _ w).alloc _) trivial;have g:(pcF t i).toList=txF t.data.toList i:=by rw[ByteArray.toList_eq,Br]
 have y:(tkF t.data.toList i).tx=txF t.data.toList i:=rfl;unfold Bp at h;simp only[y] at h;go_enter Tryz.func157,Tryz.ntmps157
 go_upto_region 2 with fail
 clear U I;generalize (w.alloc (.cells #[.int .i64 12,.string ⟨#[]⟩,.string ⟨#[]⟩,.int .i64 0,.int .i64 (atF t.data.toList i:Int),.slice none 0 0] 81))=w1 at o z q |-;obtain⟨f,s⟩:∃f,w.heap.size=f:=⟨_,rfl⟩;rw[s] at o E |-;have l:w.heap.size<=f:=by omega
 have X:f<=w.heap.size:=by omega
 clear s;have v:f≠br:=by omega
 have Z:f<w1.heap.size:=Ab o.out;have V:=Aa q.out 2;have g0:((pcF t i).toList==[40])=false:=by rw[g,ho];rfl
 have g1:((pcF t i).toList==[123])=true:=by rw[g,ho];rfl
 rw[ho] at h;rw[if_neg (by decide),if_pos (by decide)] at h;clear g y ho;go_wp2_with fail
 rcases C1 hd h with⟨D,Y⟩|⟨rfl,rfl⟩
 case inr =>
  refine(Da w1 br t i q.out).mono ?_;rintro e n ⟨rfl,rfl⟩;exact⟨rfl,z.out,rfl⟩
 refine(D1 w1 br t i d q.out ht D).mono ?_;rintro e n ⟨rfl,hr,a⟩;have Q:Hid (RdF n br t (i+1) (d+1)):=hr;have F:Hid (Ak n f 12 ⟨#[]⟩ ⟨#[]⟩ 0 (atF t.data.toList i) none 0 0):=o.out.of a v;have A:Hid (Fr (·≠br) w n):=z.out.trans a;have a0:f<n.heap.size:=Ab F.out;have a1:=A.out.size;clear hr a o z q h V;have HD:Hid (∀(W:World)(m:ByteArray)(k:Nat)(b:Bool),_):=fun W m k b h=>Db W br t m k (d+1) h ht b;have C:=H.out.new l;have G:Hid (Calls _ _ _ _ _):=aC O.out n f (d+1) (i+1) m _ (by omega) ht hm v C (H.out.fr A.out) Q.out F.out r Y;go_wp2_with fail
 refine G.out.mono ?_;rintro e B ⟨a,u⟩;rcases r with⟨c,p⟩|⟨x,j⟩
 ·obtain rfl:=u;exact⟨rfl,J5 l A.out a⟩
 ·obtain⟨rfl,J,hr⟩:=u;have T:Hid (Ae _ B x _):=J;have R:Hid (RdF B br t j (d+1)):=hr;have L:Hid (Fr _ n B):=a;clear J hr a G;go_wp2_with (go_at_call 146;refine(N.out _ _ R.out).mono ?_;rintro e K ⟨rfl,hr,a⟩;have S:Hid (RdF K br t j d):=hr;have M:Hid (Fr (·≠br) B K):=a;clear hr a)
  go_ret
  exact Hr l (by omega) A.out L.out T.out rfl S.out M.out
theorem Pv {br:Nat}{t:ByteArray}{self:Nat->Nat->Nat->RX PX}(hS:Az br t self)(w:World)(d i m:Nat)(hd:d<=24)(ht:t.size<=4000)(hm:m<=1000000)(hI:B1 w br)(hr:RdF w br t i d)(ho:txF t.data.toList i=[60,60])
  (r:Except (Nat×Nat) (PX×Nat)) (h:Bp (tkF t.data.toList) self m d i=some r) :
  Calls Tryz.prog 157 #[.pointer (some ⟨br,0,none⟩)] w (Cq w br t d r):=by
 have U:Hid (Az br t self):=hS;have S:Hid (B1 w br):=hI;have T:Hid (RdF w br t i d):=hr;have N:=Ab hr;have h1:=Aa hr 1;have HL:Hid (∀(W:World)(k:Nat),_):=fun W k h=>Dl W br t k d h hd;clear hI hS hr;have mo:=follows;have E:Hid (Ak (w.alloc (.cells #[.int .i64 12,.string ⟨#[]⟩,.string ⟨#[]⟩,.int .i64 0,.int .i64 (atF t.data.toList i:Int),.slice none 0 0] 81)) w.heap.size 12 ⟨#[]⟩ ⟨#[]⟩ 0 (atF t.data.toList i) none 0 0):=Al rfl;have I:Hid (Fr (·≠br) w (w.alloc (.cells #[.int .i64 12,.string ⟨#[]⟩,.string ⟨#[]⟩,.int .i64 0,.int .i64 (atF t.data.toList i:Int),.slice none 0 0] 81))):=(Fr.refl _ w).alloc _;have F:Hid (RdF (w.alloc (.cells #[.int .i64 12,.string ⟨#[]⟩,.string ⟨#[]⟩,.int .i64 0,.int .i64 (atF t.data.toList i:Int),.slice none 0 0] 81)) br t i d):=RdF.of T.out (P:=fun _=>True) ((Fr.refl _ w).alloc _) trivial;have u:(pcF t i).toList=txF t.data.toList i:=by rw[ByteArray.toList_eq,Br]
 have H:(tkF t.data.toList i).tx=txF t.data.toList i:=rfl;unfold Bp at h;simp only[H] at h;go_enter Tryz.func157,Tryz.ntmps157
 go_upto_region 2 with fail
 clear h1 T;generalize (w.alloc (.cells #[.int .i64 12,.string ⟨#[]⟩,.string ⟨#[]⟩,.int .i64 0,.int .i64 (atF t.data.toList i:Int),.slice none 0 0] 81))=w1 at E I F |-;obtain⟨f,G⟩:∃f,w.heap.size=f:=⟨_,rfl⟩;rw[G] at E N |-;have B:w.heap.size<=f:=by omega
 have a0:f<=w.heap.size:=by omega
 clear G;have s:f≠br:=by omega
 have a1:f<w1.heap.size:=Ab E.out;have h2:=Aa F.out 2;have g0:((pcF t i).toList==[40])=false:=by rw[u,ho];rfl
 have g1:((pcF t i).toList==[123])=false:=by rw[u,ho];rfl
 have g2:((pcF t i).toList==[60,60])=true:=by rw[u,ho];rfl
 rw[ho] at h;rw[if_neg (by decide),if_neg (by decide),if_pos (by decide)] at h;clear u H ho;go_wp2_with fail
 rcases C1 hd h with⟨M,Z⟩|⟨rfl,rfl⟩
 case inr =>
  refine(Da w1 br t i F.out).mono ?_;rintro e o ⟨rfl,rfl⟩;exact⟨rfl,I.out,rfl⟩
 refine(D1 w1 br t i d F.out ht M).mono ?_;rintro e o ⟨rfl,hr,g⟩;have L:Hid (RdF o br t (i+1) (d+1)):=hr;have K:Hid (Ak o f 12 ⟨#[]⟩ ⟨#[]⟩ 0 (atF t.data.toList i) none 0 0):=E.out.of g s;have D:Hid (Fr (·≠br) w o):=I.out.trans g;have O:f<o.heap.size:=Ab K.out;have a2:=D.out.size;clear hr g E I F h h2;have HD:Hid (∀(W:World)(m:ByteArray)(k:Nat)(b:Bool),_):=fun W m k b h=>Db W br t m k (d+1) h ht b;go_wp2_with fail
 rcases Aw Z with⟨⟨c,p⟩,J,rfl⟩|⟨l,j,J,A⟩
 ·refine(J7 U.out o (d+1) _ m ⟨#[62,62]⟩ rfl (by omega) ht hm (S.out.fr D.out) L.out _ J).mono ?_;rintro e n ⟨g,rfl⟩;exact⟨rfl,D.out.trans g,rfl⟩
 refine(J7 U.out o (d+1) _ m ⟨#[62,62]⟩ rfl (by omega) ht hm (S.out.fr D.out) L.out _ J).mono ?_;rintro e n ⟨g,⟨a,v,cap,rfl,y⟩,hr⟩;have V:Hid (RdF n br t j (d+1)):=hr;have R:Hid (Fr (·≠br) w n):=D.out.trans g;have C:Hid (Ak n f 12 ⟨#[]⟩ ⟨#[]⟩ 0 (atF t.data.toList i) none 0 0):=K.out.of g s;have X:Hid (Bh (fun k=>o.heap.size<=k) n (Ae (fun k=>o.heap.size<=k) n) a v l):=y;have HQ:Hid (r=.ok (Gh l,j)):=by simp only[okX,Option.some.injEq] at A;exact A.symm
 have c1:=Aa C.out 1;have f1:=Ac C.out 1;have c5:=Aa C.out 5;have f5:=Ac C.out 5;have z:Fr (fun k=>o.heap.size<=k) n (n.setCell ⟨f,1,none⟩ (.string ⟨#[115,101,113]⟩)):=(Fr.refl _ _).set (by simp;omega) _;have Y:=Mh (lo:=w.heap.size) (cap:=cap) O (Bh.fr z (fun _ _ h=>h.fr z fun _ _ q=>q) (fun _ _ q=>q) X.out) B (C.out.op ⟨#[115,101,113]⟩) (x:=Gh l) (.inr (.inr (.inr (.inr (.inr (.inr (.inr (.inr (.inr (.inr (.inr ⟨.inr rfl,.inr (.inr (.inl ⟨rfl,rfl⟩))⟩)))))))))));have T4:Hid (Ae (fun k=>w.heap.size<=k) ((n.setCell ⟨f,1,none⟩ (.string ⟨#[115,101,113]⟩)).setCell ⟨f,5,none⟩ (.slice a v cap)) (Gh l) (.pointer (some ⟨f,0,none⟩))):=Y;have R4:Hid (RdF ((n.setCell ⟨f,1,none⟩ (.string ⟨#[115,101,113]⟩)).setCell ⟨f,5,none⟩ (.slice a v cap)) br t j (d+1)):=(V.out.setB (Ne.symm s) _).setB (Ne.symm s) _;have F4:Hid (Fr (·≠br) w ((n.setCell ⟨f,1,none⟩ (.string ⟨#[115,101,113]⟩)).setCell ⟨f,5,none⟩ (.slice a v cap))):=(R.out.setB B _).setB B _;clear g hr y J Z A K D L Y z C X V R;go_wp2_with (go_at_call 146;refine(HL.out _ _ R4.out).mono ?_;rintro e Q ⟨rfl,hr,g⟩;have R5:Hid (RdF Q br t j d):=hr;have F5:Hid (Fr (·≠br) w Q):=F4.out.trans g;have T5:Hid (Ae (fun k=>w.heap.size<=k) Q (Gh l) (.pointer (some ⟨f,0,none⟩))):=T4.out.fr (g.mono fun k q=>by omega) fun _ _ q=>q;clear hr g)
 go_ret
 rw[HQ.out];exact⟨F5.out,⟨_,rfl,T5.out⟩,R5.out⟩
theorem Nm {br:Nat}{t:ByteArray}{self:Nat->Nat->Nat->RX PX}(hS:Az br t self)(w:World)(d i m:Nat)(hd:d<=24)(hI:B1 w br)(hr:RdF w br t i d)(ho:txF t.data.toList i≠[40]/\txF t.data.toList i≠[123]/\txF t.data.toList i≠[60,60]/\txF t.data.toList i≠[91])
  (r:Except (Nat×Nat) (PX×Nat)) (h:Bp (tkF t.data.toList) self m d i=some r) :
  Calls Tryz.prog 157 #[.pointer (some ⟨br,0,none⟩)] w (Cq w br t d r):=by
 have G:Hid (Az br t self):=hS;have E:Hid (B1 w br):=hI;have x:Hid (RdF w br t i d):=hr;have o:=Ab hr;have z:=Aa hr 1;have F:Hid (∀(W:World)(k:Nat),_):=fun W k h=>Dl W br t k d h hd;clear hI hS hr;have M:=follows;have j:Hid (Ak (w.alloc (.cells #[.int .i64 12,.string ⟨#[]⟩,.string ⟨#[]⟩,.int .i64 0,.int .i64 (atF t.data.toList i:Int),.slice none 0 0] 81)) w.heap.size 12 ⟨#[]⟩ ⟨#[]⟩ 0 (atF t.data.toList i) none 0 0):=Al rfl;have v:Hid (Fr (·≠br) w (w.alloc (.cells #[.int .i64 12,.string ⟨#[]⟩,.string ⟨#[]⟩,.int .i64 0,.int .i64 (atF t.data.toList i:Int),.slice none 0 0] 81))):=(Fr.refl _ w).alloc _;have n:Hid (RdF (w.alloc (.cells #[.int .i64 12,.string ⟨#[]⟩,.string ⟨#[]⟩,.int .i64 0,.int .i64 (atF t.data.toList i:Int),.slice none 0 0] 81)) br t i d):=RdF.of x.out (P:=fun _=>True) ((Fr.refl _ w).alloc _) trivial;have a:(pcF t i).toList=txF t.data.toList i:=by rw[ByteArray.toList_eq,Br]
 have g:(tkF t.data.toList i).tx=txF t.data.toList i:=rfl;unfold Bp at h;simp only[g] at h;go_enter Tryz.func157,Tryz.ntmps157
 go_upto_region 2 with fail
 clear z x;generalize (w.alloc (.cells #[.int .i64 12,.string ⟨#[]⟩,.string ⟨#[]⟩,.int .i64 0,.int .i64 (atF t.data.toList i:Int),.slice none 0 0] 81))=w1 at j v n |-;obtain⟨b,f⟩:∃b,w.heap.size=b:=⟨_,rfl⟩;rw[f] at j o |-;have D:w.heap.size<=b:=by omega
 have A:b<=w.heap.size:=by omega
 clear f;have C:b≠br:=by omega
 have B:b<w1.heap.size:=Ab j.out;have L:=Aa n.out 2;obtain⟨p,q,s,u⟩:=ho;have H:((pcF t i).toList==[40])=false:=by rw[a];simpa using p
 have I:((pcF t i).toList==[123])=false:=by rw[a];simpa using q
 have J:((pcF t i).toList==[60,60])=false:=by rw[a];simpa using s
 have K:((pcF t i).toList==[91])=false:=by rw[a];simpa using u
 rw[if_neg (by simpa using p),if_neg (by simpa using q),if_neg (by simpa using s),if_neg (by simpa using u)] at h;have c:(tkF t.data.toList i).at'=atF t.data.toList i:=rfl;rw[c] at h;have y:Hid (r=.error (1,atF t.data.toList i)):=by simp only[Cz,Option.some.injEq] at h;exact h.symm
 have l:Hid (Calls _ _ _ _ _):=Em w1 br t i d 1 n.out;clear a g p q s u h c;go_wp2_with (go_at_call 61;refine l.out.mono ?_;rintro e N ⟨rfl,rfl⟩;unfold Flt)
 rw[y.out];exact⟨rfl,v.out,rfl⟩
theorem Ub (m:ByteArray)(w:World)(br:Nat)(hE:B1 w br)(hm:m.size<=4000) :
  Calls Tryz.prog 159 #[.string m,.int .i64 10,.int .i64 64] w fun e w'=>Below w.heap.size w w'/\((∃v,Lib.parseIntB 64 m.data.toList=.ok v/\e=.returned (.tuple #[.int .i64 v,.nilIface]))\/((∀v,Lib.parseIntB 64 m.data.toList≠.ok v)/\∃v T p,e=.returned (.tuple #[.int .i64 v,.iface T p]))):=by
 obtain⟨j,k,⟨b,d,f⟩,l,c,g,h⟩:=hE;cases q:Lib.parseIntB 64 m.data.toList with
 | ok v =>
  refine(Tryz.strconv_ParseInt_10_at64_ok m (by omega) v q w).mono ?_;rintro e w' ⟨rfl,i⟩;refine⟨?_,.inl ⟨v,rfl,rfl⟩⟩;rcases i with rfl|⟨s,rfl⟩
  ·exact Below.refl _ _
  ·exact Lib.bytesWorld_below _ _ _
 | range =>
  refine(Tryz.strconv_ParseInt_10_at64_range m (by omega) q b w d f).mono ?_;rintro e w' ⟨N,rfl,_,_,a⟩;exact⟨a,.inr ⟨fun v=>by simp,_,_,_,rfl⟩⟩
 | _ =>
  refine(Tryz.strconv_ParseInt_10_at64_syntax m (by omega) q c w g h).mono ?_;rintro e w' ⟨N,rfl,_,_,a⟩;exact⟨a,.inr ⟨fun v=>by simp,_,_,_,rfl⟩⟩
def eO (K:Nat->Tk)(i:Nat):RX PX:=match Lib.parseIntB 64 (K i).tx with | .ok v=>okX (B8 (Lib.itoa v)) (i+1)|_=>Cz 5 (K i).at'
theorem Rx {br:Nat}{t:ByteArray}(w:World)(d i:Nat)(ht:t.size<=4000)(hI:B1 w br)(hr:RdF w br t i d)(hv64:∀v,Lib.parseIntB 64 (txF t.data.toList i)=.ok v->-9223372036854775808<=v/\v<=9223372036854775807)
  (r:Except (Nat×Nat) (PX×Nat)) (h:eO (tkF t.data.toList) i=some r) :
  Calls Tryz.prog 155 #[.pointer (some ⟨br,0,none⟩)] w (Cq w br t d r):=by
 have x:=Hm t.data.toList i;have J:t.data.toList.length=t.size:=by simp
 have z:=Iq t i;have m:Hid (Calls _ _ _ _ _):=Ub (pcF t i) w br hI (by omega);have n:Hid (RdF w br t i d):=hr;have K:=Ab hr;have D:=Aa hr 2;have j:(pcF t i).data.toList=txF t.data.toList i:=Br t i;have k:(tkF t.data.toList i).tx=txF t.data.toList i:=rfl;have b:(tkF t.data.toList i).at'=atF t.data.toList i:=rfl;unfold eO at h;simp only[k,b] at h;rw[j] at m;clear hr hI x J z j k b;have N:=follows;go_enter Tryz.func155,Tryz.ntmps155
 go_wp2_with fail
 refine m.out.mono ?_;rintro e a ⟨c,⟨v,A,rfl⟩|⟨g,v,T,p,rfl⟩⟩
 ·have o:Hid (RdF a br t i d):=RdF.of n.out (P:=fun _=>True) (Fr.below c) trivial;have l:Hid (Fr (·≠br) w a):=Fr.below c;have M:=Aa o.out 1;rw[A] at h;have u:Hid (r=.ok (B8 (Lib.itoa v),i+1)):=by simp only[okX,Option.some.injEq] at h;exact h.symm
  have C:=hv64 v A;clear c A h m n D hv64;have f:=(Fr.refl (fun _=>True) a).alloc (.cells #[.int .i64 0,.string ⟨#[]⟩,.string ⟨#[]⟩,.int .i64 v,.int .i64 (atF t.data.toList i:Int),.slice none 0 0] 81);have H:Hid (Calls _ _ _ _ _):=Dh _ br t i d (RdF.of o.out f trivial) ht;have L:=l.out.size;have E:Hid (Ak (a.alloc (.cells #[.int .i64 0,.string ⟨#[]⟩,.string ⟨#[]⟩,.int .i64 v,.int .i64 (atF t.data.toList i:Int),.slice none 0 0] 81)) a.heap.size 0 ⟨#[]⟩ ⟨#[]⟩ v (atF t.data.toList i) none 0 0):=Al rfl;clear f;go_wp2_with (go_at_call 60;refine H.out.mono ?_;rintro e B ⟨rfl,hr,y⟩;have I:Hid (RdF B br t (i+1) d):=hr;have G:Hid (Fr (·≠br) w B):=(l.out.alloc _).trans y;have F:Hid (Ak B a.heap.size 0 ⟨#[]⟩ ⟨#[]⟩ v (atF t.data.toList i) none 0 0):=E.out.of y (by omega);clear hr y)
  go_ret
  rw[u.out];exact⟨G.out,⟨_,rfl,Ae.node ⟨a.heap.size,0,⟨#[]⟩,⟨#[]⟩,v,atF t.data.toList i,none,0,0,[],rfl,L,F.out,Fb _,.inl ⟨rfl,C.1,C.2,rfl⟩⟩⟩,I.out⟩
 ·have o:Hid (RdF a br t i d):=RdF.of n.out (P:=fun _=>True) (Fr.below c) trivial;have l:Hid (Fr (·≠br) w a):=Fr.below c;have u:Hid (r=.error (5,atF t.data.toList i)):=by
   cases q:Lib.parseIntB 64 (txF t.data.toList i) with
   | ok v=>exact absurd q (g v)
   | _=>rw[q] at h;simp only[Cz,Option.some.injEq] at h;exact h.symm
  have s:Hid (Calls _ _ _ _ _):=Em a br t i d 5 o.out;clear c g h m n D hv64;go_wp2_with (go_at_call 61;refine s.out.mono ?_;rintro e O ⟨rfl,rfl⟩;unfold Flt)
  rw[u.out];exact⟨rfl,l.out,rfl⟩
def Jp (K:Nat->Tk)(self:Nat->Nat->Nat->RX PX)(d:Nat)(x:PX)(i:Nat):RX PX :=
 Cs K d i fun j=>bX (self 0 (d+1) j) fun k j =>
  if (K j).tx==[58,61] then bX (self 0 (d+1) (j+1)) fun v j=>Cj K [93] j fun j=>okX (Ed x k v) j
  else Cj K [93] j fun j=>okX (dAt x k) j
theorem Ks {br:Nat}{t:ByteArray}{self:Nat->Nat->Nat->RX PX}(hS:Az br t self)(w:World)(lo d i:Nat)(x:PX)(v:Value)(hd:d<=24)(ht:t.size<=4000)(hI:B1 w br)(hr:RdF w br t i d)(hlo:lo<=w.heap.size)(hbl:br<lo)(hx:Ae (fun k=>lo<=k) w x v)
  (hno:∀y j,self 0 (d+1) (i+1)=some (.ok (y,j))->(txF t.data.toList j==[58,61])=false) (r:Except (Nat×Nat) (PX×Nat)) (h:Jp (tkF t.data.toList) self d x i=some r) :
  Calls Tryz.prog 149 #[.pointer (some ⟨br,0,none⟩),v] w (Og lo w br t d r):=by
 have HS:Hid (Az br t self):=hS;have HI:Hid (B1 w br):=hI;have HL:Hid (∀(W:World)(k:Nat),_):=fun W k h=>Dl W br t k d h hd;have HD:Hid (∀(W:World)(m:ByteArray)(k:Nat)(b:Bool),_):=fun W m k b h=>Db W br t m k (d+1) h ht b;have HK:Hid (∀(W:World)(k:Nat)(b:Bool),_):=fun W k b h=>Gb W br t ⟨#[58,61]⟩ k (d+1) h ht b;have HR:Hid (RdF w br t i d):=hr;have X:=Ab hr;have h1:=Aa hr 1;clear hS hr hI;have mo:=follows;obtain⟨K,rfl,a0,U⟩:=hx.ptr;have g:=(Fr.refl (fun _=>True) w).alloc (.cells #[.int .i64 12,.string ⟨#[97,116]⟩,.string ⟨#[]⟩,.int .i64 0,.int .i64 (atF t.data.toList i:Int),.slice none 0 0] 81);have G:Hid (Ak (w.alloc (.cells #[.int .i64 12,.string ⟨#[97,116]⟩,.string ⟨#[]⟩,.int .i64 0,.int .i64 (atF t.data.toList i:Int),.slice none 0 0] 81)) w.heap.size 12 ⟨#[97,116]⟩ ⟨#[]⟩ 0 (atF t.data.toList i) none 0 0):=Al rfl;have H:Hid (Fr (·≠br) w (w.alloc (.cells #[.int .i64 12,.string ⟨#[97,116]⟩,.string ⟨#[]⟩,.int .i64 0,.int .i64 (atF t.data.toList i:Int),.slice none 0 0] 81))):=g.mono fun _ _=>trivial;have I:Hid (RdF (w.alloc (.cells #[.int .i64 12,.string ⟨#[97,116]⟩,.string ⟨#[]⟩,.int .i64 0,.int .i64 (atF t.data.toList i:Int),.slice none 0 0] 81)) br t i d):=RdF.of HR.out g trivial;have J:Hid (Ae (fun k=>lo<=k/\k<w.heap.size) (w.alloc (.cells #[.int .i64 12,.string ⟨#[97,116]⟩,.string ⟨#[]⟩,.int .i64 0,.int .i64 (atF t.data.toList i:Int),.slice none 0 0] 81)) x (.pointer (some ⟨K,0,none⟩))):=hx.fr (g.mono fun _ _=>trivial) fun _ h q=>⟨q,h⟩;clear g hx;unfold Jp at h;go_enter Tryz.func149,Tryz.ntmps149
 go_wp2_with fail
 clear h1 HR;generalize w.alloc (.cells #[.int .i64 12,.string ⟨#[97,116]⟩,.string ⟨#[]⟩,.int .i64 0,.int .i64 (atF t.data.toList i:Int),.slice none 0 0] 81)=w1 at G H I J |-;obtain⟨f,C⟩:∃f,w.heap.size=f:=⟨_,rfl⟩;rw[C] at G X hlo J U |-;have Z:w.heap.size<=f:=by omega
 clear C;have s:f≠br:=by omega
 rcases C1 hd h with⟨V,hk⟩|⟨rfl,rfl⟩
 case inr =>
  refine(Da w1 br t i I.out).mono ?_;rintro e n ⟨rfl,rfl⟩;exact⟨rfl,H.out,rfl⟩
 refine(D1 w1 br t i d I.out ht V).mono ?_;rintro e n ⟨rfl,hr,a⟩;have Q:Hid (RdF n br t (i+1) (d+1)):=hr;have N:Hid (Ak n f 12 ⟨#[97,116]⟩ ⟨#[]⟩ 0 (atF t.data.toList i) none 0 0):=G.out.of a s;have B:Hid (Fr (·≠br) w n):=H.out.trans a;have X2:Hid (Ae (fun k=>lo<=k/\k<f) n x (.pointer (some ⟨K,0,none⟩))):=J.out.fr (a.mono fun k q=>by omega) fun _ _ q=>q;have a1:f<n.heap.size:=Ab N.out;clear hr a G H I J h;go_wp2_with fail
 rcases Aw hk with⟨⟨c,p⟩,D,rfl⟩|⟨y,j,D,l⟩
 ·refine(A0 HS.out n (d+1) _ _ (by omega) (HI.out.fr B.out) Q.out D).mono ?_;rintro e u ⟨a,rfl⟩;exact⟨rfl,B.out.trans a,rfl⟩
 refine(A0 HS.out n (d+1) _ _ (by omega) (HI.out.fr B.out) Q.out D).mono ?_;rintro e u ⟨a,⟨vy,rfl,hv⟩,hr⟩;have Y:=hno y j D;have R3:Hid (RdF u br t j (d+1)):=hr;have F3:Hid (Fr (·≠br) w u):=B.out.trans a;have A:Hid (Ak u f 12 ⟨#[97,116]⟩ ⟨#[]⟩ 0 (atF t.data.toList i) none 0 0):=N.out.of a s;have X3:Hid (Ae (fun k=>lo<=k/\k<f) u x (.pointer (some ⟨K,0,none⟩))):=X2.out.fr (a.mono fun k q=>by omega) fun _ _ q=>q;have S:Hid (Ae (fun k=>n.heap.size<=k) u y vy):=hv;have a2:f<u.heap.size:=Ab A.out;have a3:=a.size;clear a hr hv D hk hno N B Q X2;obtain⟨bb,rfl,-,-⟩:=S.out.ptr;have c5:=Aa A.out 5;have f5:=Ac A.out 5;have E:(tkF t.data.toList j).tx=txF t.data.toList j:=rfl;simp only[E] at l;clear E;rw[Y,if_neg (by simp)] at l;obtain⟨hT,T⟩:=Gm (lo:=lo) A.out (m:=2) (vs:=#[.pointer (some ⟨K,0,none⟩),.pointer (some ⟨bb,0,none⟩)]) (kids:=[x,y]) (x:=dAt x y) rfl (by omega) (fun k z q=>by
   match k with
   | 0=>simp at q;subst q;exact⟨_,rfl,X3.out.fr (Fr.refl _ _) fun _ _ q=>by omega⟩
   | 1=>simp at q;subst q;exact⟨_,rfl,S.out.fr (Fr.refl _ _) fun _ _ q=>by omega⟩
   | k+2=>simp at q) (by omega)
  (.inr (.inr (.inr (.inr (.inr (.inr (.inr (.inr (.inr (.inr (.inr ⟨.inr rfl,.inr (.inr (.inr (.inr (.inl ⟨rfl,x,y,rfl,rfl⟩))))⟩)))))))))))
 have T4:Hid (Ae (fun k=>lo<=k) _ (dAt x y) _):=hT.fr (Fr.refl _ _) fun _ _ q=>by omega
 have R4:Hid (RdF _ br t j (d+1)):=RdF.of R3.out T (Ne.symm s);have F4:Hid (Fr (·≠br) w _):=F3.out.fresh (T.mono fun _ q=>q.2) Z;have P:Hid (Calls _ _ _ _ _):=HK.out _ j false R4.out Y;clear hT T A F3 R3 X3 S Y;go_wp2_with (go_at_call 112;refine P.out.mono ?_;rintro e F ⟨rfl,hr,a⟩;have R:Hid (RdF F br t j (d+1)):=hr;have O:Hid (Fr (·≠br) w F):=F4.out.trans a;have T5:Hid (Ae (fun k=>lo<=k) F (dAt x y) (.pointer (some ⟨f,0,none⟩))):=T4.out.fr (a.mono fun k q=>by omega) fun _ _ q=>q;clear hr a)
 rcases Cf l with⟨L,o⟩|⟨L,rfl⟩
 case inr =>
  refine(HD.out F ⟨#[93]⟩ j false R.out L).mono ?_;rintro e M ⟨a,⟨q,-⟩|⟨-,rfl⟩⟩
  ·simp at q
  ·exact⟨rfl,O.out.trans a,rfl⟩
 refine(HD.out F ⟨#[93]⟩ j true R.out L).mono ?_;rintro e M ⟨a,⟨-,rfl,hr⟩|⟨q,-⟩⟩
 case inr=>simp at q
 have R6:Hid (RdF M br t (j+1) (d+1)):=hr;have F6:Hid (Fr (·≠br) w M):=O.out.trans a;have T6:Hid (Ae (fun k=>lo<=k) M (dAt x y) (.pointer (some ⟨f,0,none⟩))):=T5.out.fr (a.mono fun k q=>by omega) fun _ _ q=>q;have HQ:Hid (r=.ok (dAt x y,j+1)):=by simp only[okX,Option.some.injEq] at o;exact o.symm
 clear a hr L l o R O T5;go_wp2_with (go_at_call 146;refine(HL.out _ _ R6.out).mono ?_;rintro e w7 ⟨rfl,hr,a⟩;have R7:Hid (RdF w7 br t (j+1) d):=hr;have F7:Hid (Fr (·≠br) w w7):=F6.out.trans a;have T7:Hid (Ae (fun k=>lo<=k) w7 (dAt x y) (.pointer (some ⟨f,0,none⟩))):=T6.out.fr (a.mono fun k q=>by omega) fun _ _ q=>q;clear hr a)
 go_ret
 rw[HQ.out];exact⟨F7.out,⟨_,rfl,T7.out⟩,R7.out⟩
theorem aE {w8 w9:World}{o:Obj}{lo be bg g cap lz at' bl bb bz:Nat}{x y z:PX}(E8:Ak w8 be 12 ⟨#[112,117,116]⟩ ⟨#[]⟩ 0 at' (some ⟨bg,0,none⟩) 2 2)
  (X8:Ae (fun k=>lo<=k/\k<bg/\k≠be) w8 x (.pointer (some ⟨bl,0,none⟩))) (Y8:Ae (fun k=>lo<=k/\k<bg/\k≠be) w8 y (.pointer (some ⟨bb,0,none⟩))) (Z8:Ae (fun k=>lz<=k) w8 z (.pointer (some ⟨bz,0,none⟩)))
  (hlo:lo<=be) (hbe:be<bg) (hlz:bg<lz) (hl8:lz<=w8.heap.size) (ho:w9.ownsRow lo 37 1 (.slice (some ⟨g,0,none⟩) 3 cap) 3 [.pointer (some ⟨bl,0,none⟩),.pointer (some ⟨bb,0,none⟩),.pointer (some ⟨bz,0,none⟩)])
  (hg:(w8.alloc o).grownBy w9 (some bg)) (hat:some bg=some g\/g=w8.heap.size+1) :
  Ae (fun k=>lo<=k) (w9.setCell ⟨be,5,none⟩ (.slice (some ⟨g,0,none⟩) 3 cap)) (Ed x y z) (.pointer (some ⟨be,0,none⟩))/\Fr (fun k=>k≠be/\k≠bg) w8 (w9.setCell ⟨be,5,none⟩ (.slice (some ⟨g,0,none⟩) 3 cap)):=by
 have n:bg<=g:=by
  rcases hat with q|q
  ·simp at q;omega
  ·omega
 have c:=World.grownBy_alloc w8 o none;have f:Fr (fun k=>k≠bg) w8 w9:=⟨hg.os.trans c.os,hg.tape.trans c.tape,hg.output.trans c.output,Nat.le_trans c.size hg.size,fun k hk hq=>(hg.block k (Nat.lt_of_lt_of_le hk c.size) (by simpa using hq)).trans (c.block k hk (by simp))⟩;have j:Ak (w9.setCell ⟨be,5,none⟩ (.slice (some ⟨g,0,none⟩) 3 cap)) be 12 ⟨#[112,117,116]⟩ ⟨#[]⟩ 0 at' (some ⟨g,0,none⟩) 3 cap:=(E8.of f (by omega)).parts _ _ _;have b:Fr (fun k=>k≠be/\k≠bg) w8 (w9.setCell ⟨be,5,none⟩ (.slice (some ⟨g,0,none⟩) 3 cap)):=(f.mono fun _ q=>q.2).set (by simp) _;have m:(w9.setCell ⟨be,5,none⟩ (.slice (some ⟨g,0,none⟩) 3 cap)).ownsRow lo 37 1 (.slice (some ⟨g,0,none⟩) 3 cap) 3 [.pointer (some ⟨bl,0,none⟩),.pointer (some ⟨bb,0,none⟩),.pointer (some ⟨bz,0,none⟩)]:=J6 ho fun q hq _ _=>by
  simp only[Value.ownBlock,Option.some.injEq] at hq;exact Below.heap_setCell w9 _ _ q (by simp;omega)
 have l:LSt (w9.setCell ⟨be,5,none⟩ (.slice (some ⟨g,0,none⟩) 3 cap)) lo (.slice (some ⟨g,0,none⟩) 3 cap) [x,y,z]:=by
  refine⟨_,m,fun i v q=>?_⟩
  match i with
  | 0=>simp at q;subst q;exact⟨_,rfl,X8.fr (b.mono fun k q=>by omega) fun k _ q=>⟨q.1,by simp only[Value.ownBlock,ne_eq,Option.some.injEq];omega⟩⟩
  | 1=>simp at q;subst q;exact⟨_,rfl,Y8.fr (b.mono fun k q=>by omega) fun k _ q=>⟨q.1,by simp only[Value.ownBlock,ne_eq,Option.some.injEq];omega⟩⟩
  | 2=>simp at q;subst q;exact⟨_,rfl,Z8.fr (b.mono fun k q=>by omega) fun k hk q=>⟨by omega,by
    simp only[Value.ownBlock,ne_eq,Option.some.injEq];rcases hat with h|h
    ·simp at h;omega
    ·omega⟩⟩
  | i+3=>simp at q
 obtain⟨a,p,r,e,d⟩:=l.row (by simp);injection e with e1 e2 e3
 subst e1 e2 e3;exact⟨Ae.node ⟨be,12,⟨#[112,117,116]⟩,⟨#[]⟩,0,at',_,3,cap,[x,y,z],rfl,hlo,j,d,.inr (.inr (.inr (.inr (.inr (.inr (.inr (.inr (.inr (.inr (.inr ⟨.inr rfl,.inr (.inr (.inr (.inr (.inr (.inl ⟨rfl,x,y,z,rfl,rfl⟩)))))⟩))))))))))⟩,b⟩
theorem Fr.fresh2 {br be bg:Nat}{w w2 w3:World}(F:Fr (·≠br) w w2)(hf:Fr (fun k=>k≠be/\k≠bg) w2 w3)(h:w.heap.size<=be)(h2:w.heap.size<=bg):Fr (·≠br) w w3 :=
 ⟨hf.os.trans F.os,hf.tape.trans F.tape,hf.output.trans F.output,Nat.le_trans F.size hf.size,fun k hk hq=>(hf.block k (Nat.lt_of_lt_of_le hk F.size) ⟨by omega,by omega⟩).trans (F.block k hk hq)⟩
theorem Xt {w8 w9:World}{o:Obj}{be bg at':Nat}(E8:Ak w8 be 12 ⟨#[112,117,116]⟩ ⟨#[]⟩ 0 at' (some ⟨bg,0,none⟩) 2 2)(hbe:be≠bg)(hg:(w8.alloc o).grownBy w9 (some bg)):w9.cell? ⟨be,5,none⟩=some (.slice (some ⟨bg,0,none⟩) 2 2)/\w9.frozen? ⟨be,5,none⟩=false:=by
 have a:=World.grownBy_alloc w8 o none;have c:w9.heap[be]?=w8.heap[be]?:=(hg.block be (Nat.lt_of_lt_of_le (Ab E8) a.size) (by simpa using hbe)).trans (a.block be (Ab E8) (by simp));have b:Ak w9 be 12 ⟨#[112,117,116]⟩ ⟨#[]⟩ 0 at' (some ⟨bg,0,none⟩) 2 2:=c.trans E8;exact⟨Aa b 5,Ac b 5⟩
theorem Uc {br:Nat}{t:ByteArray}{self:Nat->Nat->Nat->RX PX}(hS:Az br t self)(w:World)(lo d i:Nat)(x:PX)(v:Value)(hd:d<=24)(ht:t.size<=4000)(hI:B1 w br)(hr:RdF w br t i d)(hlo:lo<=w.heap.size)(hbl:br<lo)(hx:Ae (fun k=>lo<=k) w x v)
  (hyes:∀y j,self 0 (d+1) (i+1)=some (.ok (y,j))->(txF t.data.toList j==[58,61])=true) (r:Except (Nat×Nat) (PX×Nat)) (h:Jp (tkF t.data.toList) self d x i=some r) :
  Calls Tryz.prog 149 #[.pointer (some ⟨br,0,none⟩),v] w (Og lo w br t d r):=by
 have HS:Hid (Az br t self):=hS;have HI:Hid (B1 w br):=hI;have HL:Hid (∀(W:World)(k:Nat),_):=fun W k h=>Dl W br t k d h hd;have HD:Hid (∀(W:World)(m:ByteArray)(k:Nat)(b:Bool),_):=fun W m k b h=>Db W br t m k (d+1) h ht b;have HK:Hid (∀(W:World)(k:Nat)(b:Bool),_):=fun W k b h=>Gb W br t ⟨#[58,61]⟩ k (d+1) h ht b;have HR:Hid (RdF w br t i d):=hr;have b8:=Ab hr;have h1:=Aa hr 1;clear hS hr hI;have mo:=follows;obtain⟨f,rfl,c8,b3⟩:=hx.ptr;have C:=(Fr.refl (fun _=>True) w).alloc (.cells #[.int .i64 12,.string ⟨#[97,116]⟩,.string ⟨#[]⟩,.int .i64 0,.int .i64 (atF t.data.toList i:Int),.slice none 0 0] 81);have E1:Hid (Ak (w.alloc (.cells #[.int .i64 12,.string ⟨#[97,116]⟩,.string ⟨#[]⟩,.int .i64 0,.int .i64 (atF t.data.toList i:Int),.slice none 0 0] 81)) w.heap.size 12 ⟨#[97,116]⟩ ⟨#[]⟩ 0 (atF t.data.toList i) none 0 0):=Al rfl;have F1:Hid (Fr (·≠br) w (w.alloc (.cells #[.int .i64 12,.string ⟨#[97,116]⟩,.string ⟨#[]⟩,.int .i64 0,.int .i64 (atF t.data.toList i:Int),.slice none 0 0] 81))):=C.mono fun _ _=>trivial;have R1:Hid (RdF (w.alloc (.cells #[.int .i64 12,.string ⟨#[97,116]⟩,.string ⟨#[]⟩,.int .i64 0,.int .i64 (atF t.data.toList i:Int),.slice none 0 0] 81)) br t i d):=RdF.of HR.out C trivial;have X1:Hid (Ae (fun k=>lo<=k/\k<w.heap.size) (w.alloc (.cells #[.int .i64 12,.string ⟨#[97,116]⟩,.string ⟨#[]⟩,.int .i64 0,.int .i64 (atF t.data.toList i:Int),.slice none 0 0] 81)) x (.pointer (some ⟨f,0,none⟩))):=hx.fr (C.mono fun _ _=>trivial) fun _ h q=>⟨q,h⟩;clear C hx;unfold Jp at h;go_enter Tryz.func149,Tryz.ntmps149
 go_wp2_with fail
 clear h1 HR;generalize w.alloc (.cells #[.int .i64 12,.string ⟨#[97,116]⟩,.string ⟨#[]⟩,.int .i64 0,.int .i64 (atF t.data.toList i:Int),.slice none 0 0] 81)=w1 at E1 F1 R1 X1 |-;obtain⟨be,a1⟩:∃be,w.heap.size=be:=⟨_,rfl⟩;rw[a1] at E1 b8 hlo X1 b3 |-;have M:w.heap.size<=be:=by omega
 clear a1;have l:be≠br:=by omega
 rcases C1 hd h with⟨b6,hk⟩|⟨rfl,rfl⟩
 case inr =>
  refine(Da w1 br t i R1.out).mono ?_;rintro e F ⟨rfl,rfl⟩;exact⟨rfl,F1.out,rfl⟩
 refine(D1 w1 br t i d R1.out ht b6).mono ?_;rintro e F ⟨rfl,hr,hf⟩;have R2:Hid (RdF F br t (i+1) (d+1)):=hr;have E2:Hid (Ak F be 12 ⟨#[97,116]⟩ ⟨#[]⟩ 0 (atF t.data.toList i) none 0 0):=E1.out.of hf l;have V:Hid (Fr (·≠br) w F):=F1.out.trans hf;have X2:Hid (Ae (fun k=>lo<=k/\k<be) F x (.pointer (some ⟨f,0,none⟩))):=X1.out.fr (hf.mono fun k q=>by omega) fun _ _ q=>q;have d0:be<F.heap.size:=Ab E2.out;clear hr hf E1 F1 R1 X1 h;go_wp2_with fail
 rcases Aw hk with⟨⟨c,p⟩,A,rfl⟩|⟨y,j,A,D⟩
 ·refine(A0 HS.out F (d+1) _ _ (by omega) (HI.out.fr V.out) R2.out A).mono ?_;rintro e a ⟨hf,rfl⟩;exact⟨rfl,V.out.trans hf,rfl⟩
 refine(A0 HS.out F (d+1) _ _ (by omega) (HI.out.fr V.out) R2.out A).mono ?_;rintro e a ⟨hf,⟨vy,rfl,hv⟩,hr⟩;have q:=hyes y j A;have R3:Hid (RdF a br t j (d+1)):=hr;have F3:Hid (Fr (·≠br) w a):=V.out.trans hf;have U:Hid (Ak a be 12 ⟨#[97,116]⟩ ⟨#[]⟩ 0 (atF t.data.toList i) none 0 0):=E2.out.of hf l;have X3:Hid (Ae (fun k=>lo<=k/\k<be) a x (.pointer (some ⟨f,0,none⟩))):=X2.out.fr (hf.mono fun k q=>by omega) fun _ _ q=>q;have Y3:Hid (Ae (fun k=>F.heap.size<=k) a y vy):=hv;have a5:be<a.heap.size:=Ab U.out;have c6:=hf.size;clear hf hr hv A hk hyes E2 V R2 X2;obtain⟨s,rfl,-,-⟩:=Y3.out.ptr;have Y:=Aa U.out 5;have Z:=Ac U.out 5;have a6:(tkF t.data.toList j).tx=txF t.data.toList j:=rfl;simp only[a6] at D;clear a6;rw[q,if_pos rfl] at D;have u:Fr (fun k=>k≠be) a ((a.setCell ⟨be,5,none⟩ (.slice (some ⟨a.heap.size,0,none⟩) 2 2)).alloc (.cells #[.pointer (some ⟨f,0,none⟩),.pointer (some ⟨s,0,none⟩)] 37)):=((Fr.refl _ a).set (by simp) _).alloc _;have E4:Hid (Ak ((a.setCell ⟨be,5,none⟩ (.slice (some ⟨a.heap.size,0,none⟩) 2 2)).alloc (.cells #[.pointer (some ⟨f,0,none⟩),.pointer (some ⟨s,0,none⟩)] 37)) be 12 ⟨#[97,116]⟩ ⟨#[]⟩ 0 (atF t.data.toList i) (some ⟨a.heap.size,0,none⟩) 2 2):=(U.out.parts _ _ _).of (P:=fun _=>True) ((Fr.refl _ _).alloc _) trivial;have T:Hid (((a.setCell ⟨be,5,none⟩ (.slice (some ⟨a.heap.size,0,none⟩) 2 2)).alloc (.cells #[.pointer (some ⟨f,0,none⟩),.pointer (some ⟨s,0,none⟩)] 37)).heap[a.heap.size]?=some (.cells #[.pointer (some ⟨f,0,none⟩),.pointer (some ⟨s,0,none⟩)] 37 (0,0))):=Al (by simp);have R4:Hid (RdF _ br t j (d+1)):=RdF.of R3.out u (Ne.symm l);have F4:Hid (Fr (·≠br) w _):=F3.out.fresh (u.mono fun _ q=>q.2) M;have X4:Hid (Ae (fun k=>lo<=k/\k<a.heap.size/\k≠be) _ x (.pointer (some ⟨f,0,none⟩))):=X3.out.fr (u.mono fun _ _=>by omega) fun _ h q=>by omega
 have Y4:Hid (Ae (fun k=>lo<=k/\k<a.heap.size/\k≠be) _ y (.pointer (some ⟨s,0,none⟩))):=Y3.out.fr (u.mono fun _ _=>by omega) fun _ h q=>by omega
 have H:Hid (Calls _ _ _ _ _):=HK.out _ j true R4.out q;clear u U F3 R3 X3 Y3 q;go_wp2_with fail
 clear Y Z;generalize (a.setCell ⟨be,5,none⟩ (.slice (some ⟨a.heap.size,0,none⟩) 2 2)).alloc (.cells #[.pointer (some ⟨f,0,none⟩),.pointer (some ⟨s,0,none⟩)] 37)=w4 at E4 T R4 F4 X4 Y4 H |-;obtain⟨bg,a2⟩:∃bg,a.heap.size=bg:=⟨_,rfl⟩;rw[a2] at E4 T X4 Y4 a5 c6 |-;clear a2;refine H.out.mono ?_;rintro e n ⟨rfl,hr,hf⟩;have R5:Hid (RdF n br t (j+1) (d+1)):=hr;have F5:Hid (Fr (·≠br) w n):=F4.out.trans hf;have O:Hid (Ak n be 12 ⟨#[97,116]⟩ ⟨#[]⟩ 0 (atF t.data.toList i) (some ⟨bg,0,none⟩) 2 2):=E4.out.of hf l;have B5:Hid (n.heap[bg]?=some (.cells #[.pointer (some ⟨f,0,none⟩),.pointer (some ⟨s,0,none⟩)] 37 (0,0))):=(hf.block bg (Ab T.out) (by omega)).trans T.out;have X5:Hid (Ae (fun k=>lo<=k/\k<bg/\k≠be) n x (.pointer (some ⟨f,0,none⟩))):=X4.out.fr (hf.mono fun k q=>by omega) fun _ _ q=>q;have Y5:Hid (Ae (fun k=>lo<=k/\k<bg/\k≠be) n y (.pointer (some ⟨s,0,none⟩))):=Y4.out.fr (hf.mono fun k q=>by omega) fun _ _ q=>q;have c1:=Aa O.out 1;have f1:=Ac O.out 1;have Y:=Aa O.out 5;have Z:=Ac O.out 5;clear hr hf R4 F4 E4 T X4 Y4 H;go_wp2_with fail
 have Q:Hid (Ak (n.setCell ⟨be,1,none⟩ (.string ⟨#[112,117,116]⟩)) be 12 ⟨#[112,117,116]⟩ ⟨#[]⟩ 0 (atF t.data.toList i) (some ⟨bg,0,none⟩) 2 2):=O.out.op _;have R6:Hid (RdF (n.setCell ⟨be,1,none⟩ (.string ⟨#[112,117,116]⟩)) br t (j+1) (d+1)):=R5.out.setB (Ne.symm l) _;have F6:Hid (Fr (·≠br) w (n.setCell ⟨be,1,none⟩ (.string ⟨#[112,117,116]⟩))):=F5.out.setB M _;have B:Fr (·≠be) n (n.setCell ⟨be,1,none⟩ (.string ⟨#[112,117,116]⟩)):=(Fr.refl _ n).set (by simp) _;have X6:Hid (Ae (fun k=>lo<=k/\k<bg/\k≠be) _ x (.pointer (some ⟨f,0,none⟩))):=X5.out.fr (B.mono fun k q=>q.2.2) fun _ _ q=>q;have Y6:Hid (Ae (fun k=>lo<=k/\k<bg/\k≠be) _ y (.pointer (some ⟨s,0,none⟩))):=Y5.out.fr (B.mono fun k q=>q.2.2) fun _ _ q=>q;have B6:Hid ((n.setCell ⟨be,1,none⟩ (.string ⟨#[112,117,116]⟩)).heap[bg]?=some (.cells #[.pointer (some ⟨f,0,none⟩),.pointer (some ⟨s,0,none⟩)] 37 (0,0))):=(B.block bg (Ab B5.out) (by omega)).trans B5.out;clear c1 f1 Y Z B O R5 F5 X5 Y5 B5;generalize n.setCell ⟨be,1,none⟩ (.string ⟨#[112,117,116]⟩)=w6 at Q R6 F6 X6 Y6 B6 |-;have Y:=Aa Q.out 5;have k5:=Aa (Q.out.of (P:=fun _=>True) (Fr.grew (Ad.refl _).drew) trivial) 5;have Z:=Ac Q.out 5;have R7:Hid (RdF w6.drew br t (j+1) (d+1)):=RdF.of R6.out (P:=fun _=>True) (Fr.grew (Ad.refl _).drew) trivial;have F7:Hid (Fr (·≠br) w w6.drew):=F6.out.drew;rcases Aw D with⟨⟨c,p⟩,A,rfl⟩|⟨z,j2,A,a4⟩
 ·have HC:Hid (Calls _ _ _ _ _):=A0 HS.out w6.drew (d+1) _ _ (by omega) (HI.out.fr F7.out) R7.out A;refine wp_region_any (by kernel_rfl) ?_;change wpAny _ _ _ _ _ _ _ (World.drew _);refine wpAny_take (i:=0) (v:=.pointer (some ⟨be,0,none⟩)) rfl (by kernel_rfl) (by kernel_rfl) (by kernel_rfl) (fun _ _ _ h=>h) (Or.inl ⟨by rfl,by intro w;go_simp⟩) ?_;refine wpAny_take (i:=1) (v:=.pointer (some ⟨be,0,none⟩)) rfl (by kernel_rfl) (by kernel_rfl) (by kernel_rfl) (fun _ _ _ h=>h) (Or.inl ⟨by rfl,by intro w;go_simp⟩) ?_;refine wpAny_take (i:=5) (v:=.pointer (some ⟨br,0,none⟩)) rfl (by kernel_rfl) (by kernel_rfl) (by kernel_rfl) (fun _ _ _ h=>h) (Or.inl ⟨by rfl,by intro w;go_simp⟩) ?_;refine wpAny_take (i:=2) (v:=.pointer (some ⟨be,0,none⟩)) rfl (by kernel_rfl) (by kernel_rfl) (by kernel_rfl) (fun _ _ _ h=>h) (Or.inl ⟨by rfl,by intro w;go_simp⟩) ?_;refine wpAny_take (i:=3) (v:=.pointer (some ⟨be,5,none⟩)) rfl (by kernel_rfl) (by kernel_rfl) (by kernel_rfl) (fun _ _ _ h=>h) (Or.inl ⟨by rfl,by intro w;go_simp⟩) ?_;refine wpAny_ready (rs:=[4,6]) (by kernel_rfl) (by simp) ?_;refine AllReady.cons rfl (fun K hK=>?_) (AllReady.cons rfl (fun K hK=>?_) AllReady.nil)
  ·go_simp
   refine hK _ _ ?_;clear hK K;refine wpAny_ready (rs:=[6]) (by kernel_rfl) (by simp) ?_;refine AllReady.cons rfl (fun K hK=>?_) AllReady.nil;go_simp
   refine HC.out.mono ?_;rintro e w8 ⟨hf,rfl⟩;exact⟨rfl,F7.out.trans hf,rfl⟩
  ·go_simp
   refine HC.out.mono ?_;rintro e w8 ⟨hf,rfl⟩;exact⟨rfl,F7.out.trans hf,rfl⟩
 have HC:Hid (Calls _ _ _ _ _):=A0 HS.out w6.drew (d+1) _ _ (by omega) (HI.out.fr F7.out) R7.out A;obtain⟨R,b7,c2,c3,c4⟩:∃R,Tryz.prog.info? 37=some R/\R.zero=some (.pointer none)/\R.size=1/\R.bytes=8:=by
  have:=aA;cases hq:Tryz.prog.info? 37 with
  | none=>rw[hq] at this;simp at this
  | some j=>rw[hq] at this;simp at this;exact⟨j,rfl,this.1,this.2.1,this.2.2⟩
 have G:bg<w6.heap.size:=Ab B6.out;have a3:bg<w6.drew.heap.size:=by simp;exact G
 have c0:2+1<=maxLen:=by unfold maxLen;omega
 have b5:(2+1)*8<=140737488355328:=by omega
 clear D A;have HPO:Hid (∀(w8:World)(vz:Value),Fr (·≠br) w6.drew w8->Ae (fun k=>w6.drew.heap.size<=k) w8 z vz->∃bz,vz=.pointer (some ⟨bz,0,none⟩)/\Ak w8 be 12 ⟨#[112,117,116]⟩ ⟨#[]⟩ 0 (atF t.data.toList i) (some ⟨bg,0,none⟩) 2 2/\(w8.alloc (.cells #[.pointer (some ⟨bz,0,none⟩)] 37)).ownsRow lo 37 1 (.slice (some ⟨bg,0,none⟩) 2 2) 2 [.pointer (some ⟨f,0,none⟩),.pointer (some ⟨s,0,none⟩)]/\lo<=(w8.alloc (.cells #[.pointer (some ⟨bz,0,none⟩)] 37)).heap.size/\(w8.alloc (.cells #[.pointer (some ⟨bz,0,none⟩)] 37)).heap[w8.heap.size]?=some (.cells #[.pointer (some ⟨bz,0,none⟩)] 37 (0,0))):=by
  intro w8 vz hf hv;obtain⟨bz,rfl,-,-⟩:=hv.ptr;have J:Fr (·≠br) w6 w8:=(Fr.grew (Ad.refl _).drew).trans hf;have hB:w8.heap[bg]?=_:=(J.block bg G (by omega)).trans B6.out;refine⟨bz,rfl,Q.out.of J l,World.ownsRow.alloc ⟨rfl,.inr ⟨bg,2,_,rfl,by omega,hB,by omega,by unfold maxLen;omega,rfl,rfl⟩⟩ _,?_,Al rfl⟩;have:=J.size;simp;omega
 go_region_law (first
  | (
   refine step_append_lies _ rfl _ _ 79 rfl lo 37 R _ 1 8 Tryz.underlying79 b7 c2 c3 c4 rfl (by decide) (.slice (some ⟨bg,0,none⟩) 2 2) 2 _ (by simp[Act.eval]) OW.out _ 1 1 [.pointer (some ⟨bz,0,none⟩)] (by simp[Act.eval]) rfl (World.news_of_block NB.out) (by simp;rfl) (by decide) c0 b5 LW.out (w8.heap.size+1) (by simp) ?_;intro g o S ho hg a0 b9;have X:Hid (Ae (fun k=>lo<=k) (S.setCell ⟨be,5,none⟩ (.slice (some ⟨g,0,none⟩) 3 o)) (Ed x y z) (.pointer (some ⟨be,0,none⟩))/\Fr (fun k=>k≠be/\k≠bg) w8 (S.setCell ⟨be,5,none⟩ (.slice (some ⟨g,0,none⟩) 3 o))):=aE E8.out X8.out Y8.out Z8.out hlo a5 a3 c7 ho hg a0;obtain⟨c9,f9⟩:=Xt E8.out (by omega) hg;clear ho hg a0 b9)
  | (go_simp;go_wp2_with (go_at_call 29;refine HC.out.mono ?_;rintro e w8 ⟨hf,⟨vz,rfl,hv⟩,hr⟩;obtain⟨bz,rfl,hE,hO,hL,hN⟩:=HPO.out w8 vz hf hv;have R8:Hid (RdF w8 br t j2 (d+1)):=hr;have F8:Hid (Fr (·≠br) w w8):=F7.out.trans hf;have E8:Hid (Ak w8 be 12 ⟨#[112,117,116]⟩ ⟨#[]⟩ 0 (atF t.data.toList i) (some ⟨bg,0,none⟩) 2 2):=hE;have OW:Hid (World.ownsRow _ _ _ _ _ _ _):=hO;have LW:Hid (_<=_):=hL;have NB:Hid (_=_):=hN;have X8:Hid (Ae (fun k=>lo<=k/\k<bg/\k≠be) w8 x (.pointer (some ⟨f,0,none⟩))):=X6.out.fr (((Fr.grew (Ad.refl _).drew).trans hf).mono fun k q=>by omega) fun _ _ q=>q;have Y8:Hid (Ae (fun k=>lo<=k/\k<bg/\k≠be) w8 y (.pointer (some ⟨s,0,none⟩))):=Y6.out.fr (((Fr.grew (Ad.refl _).drew).trans hf).mono fun k q=>by omega) fun _ _ q=>q;have Z8:Hid (Ae (fun k=>w6.drew.heap.size<=k) w8 z (.pointer (some ⟨bz,0,none⟩))):=hv;have c7:=hf.size;have k8:=Aa hE 5;have b4:be<w8.heap.size:=Ab hE;clear hr hf hv hE hO hL hN)))
 all_goals obtain⟨hT,I⟩:=X.out
 all_goals have R9:Hid (RdF (S.setCell ⟨be,5,none⟩ (.slice (some ⟨g,0,none⟩) 3 o)) br t j2 (d+1)):=RdF.of R8.out I ⟨Ne.symm l,by omega⟩
 all_goals have F9:Hid (Fr (·≠br) w (S.setCell ⟨be,5,none⟩ (.slice (some ⟨g,0,none⟩) 3 o))):=F8.out.fresh2 I M (by omega)
 all_goals have T9:Hid (Ae (fun k=>lo<=k) (S.setCell ⟨be,5,none⟩ (.slice (some ⟨g,0,none⟩) 3 o)) (Ed x y z) (.pointer (some ⟨be,0,none⟩))):=hT
 all_goals clear hT I X R8 F8 E8 OW LW NB X8 Y8 Z8 k8 b4 c9 f9 Y k5 Z Q R6 F6 X6 Y6 B6 R7 F7 HC HPO
 all_goals generalize S.setCell ⟨be,5,none⟩ (.slice (some ⟨g,0,none⟩) 3 o)=w10 at R9 F9 T9 |-
 all_goals
  go_wp2_with fail
  rcases Cf a4 with⟨hb,L⟩|⟨hb,rfl⟩
  rotate_left
  ·refine(HD.out w10 ⟨#[93]⟩ j2 false R9.out hb).mono ?_;rintro e E ⟨hf,⟨q,-⟩|⟨-,rfl⟩⟩
   ·simp at q
   ·exact⟨rfl,F9.out.trans hf,rfl⟩
  refine(HD.out w10 ⟨#[93]⟩ j2 true R9.out hb).mono ?_;rintro e E ⟨hf,⟨-,rfl,hr⟩|⟨q,-⟩⟩
  rotate_left
  ·simp at q
  have a9:Hid (RdF E br t (j2+1) (d+1)):=hr;have a7:Hid (Fr (·≠br) w E):=F9.out.trans hf;have b1:Hid (Ae (fun k=>lo<=k) E (Ed x y z) (.pointer (some ⟨be,0,none⟩))):=T9.out.fr (hf.mono fun k q=>by omega) fun _ _ q=>q;have HQ:Hid (r=.ok (Ed x y z,j2+1)):=by simp only[okX,Option.some.injEq] at L;exact L.symm
  clear hf hr hb a4 L R9 F9 T9;go_wp2_with (go_at_call 146;refine(HL.out _ _ a9.out).mono ?_;rintro e N ⟨rfl,hr,hf⟩;have b0:Hid (RdF N br t (j2+1) d):=hr;have a8:Hid (Fr (·≠br) w N):=a7.out.trans hf;have b2:Hid (Ae (fun k=>lo<=k) N (Ed x y z) (.pointer (some ⟨be,0,none⟩))):=b1.out.fr (hf.mono fun k q=>by omega) fun _ _ q=>q;clear hr hf)
  go_ret
  rw[HQ.out];exact⟨a8.out,⟨_,rfl,b2.out⟩,b0.out⟩
end Go.Proofs.YtjbfcadeapphbaaGreatDoor.Sx
