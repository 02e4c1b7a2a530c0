/- The values that are handed in: their own row is not kept. -/
import Derived.Test.YtdpeliifdlhhkaaGreatDoorM36
import Derived.Test.YtdpeliifdlhhkaaGreatDoorM25
import Derived.Test.YtdpeliifdlhhkaaGreatDoorM35
namespace Go.Proofs.YtdpeliifdlhhkaaGreatDoor.Sx
open Go.RowKit Go.Sort Tryz
set_option maxRecDepth 100000
set_option maxHeartbeats 2000000
theorem Zz (n m:Nat)(P:Nat->Prop)(w:World)(a:Option Addr)(cap:Nat)(x y:AV n){Q0:Nat->Prop}(h:Bv Q0 w (Aj P w n) a 2 [x,y])(p q:Nat)(v0:Value)(k:FuncId)(cs:Array Value)(hp:Box w p 23 v0)(hq:Box w q 239 (.func (.func k) #[] cs))(z:AV m)
  (H0:¬((Au n x).isSome=true/\(Au n y).isSome=true)->Aj (fun k=>P k/\k≠w.heap.size) w m z v0)
  (H1:∀i j,Au n x=some i->Au n y=some j->∀W,Ac w W->w.heap.size<W.heap.size->jG k cs i j W (Bd (fun k=>P k/\k≠w.heap.size) W m z)) (h0:v0.oneCell'=true) :
  Calls prog 273 #[.slice a 2 cap,.pointer (some ⟨p,0,none⟩),.pointer (some ⟨q,0,none⟩)] w (Bd P w m z):=by
 obtain⟨b,Q,v,u,rfl,N,S,T,J,I⟩:=Mw h;have K:=W7 (J.rep _ _ _);have L:=W7 (I.rep _ _ _);have st:=Ae h0;have U:=Ab hp 0;have V:=Ab hq 0;have zp:=Aa hp;have zq:=Aa hq;have s:Hid ((w.alloc (.cells #[.nilIface] 23)).heap[w.heap.size]?=_):=Af rfl;have d:Hid (Ac w (w.alloc (.cells #[.nilIface] 23))):=(Ac.refl w).alloc _;have g:Hid _:=H0;have l:Hid _:=H1;clear h hp hq J I h0 H0 H1;obtain⟨i,D⟩:∃o,Au n x=o:=⟨_,rfl⟩;obtain⟨j,F⟩:∃o,Au n y=o:=⟨_,rfl⟩;rw[D] at K g;rw[F] at L g;cases i with
 | none =>
  have E:=A6 d.out.below ((g.out (by simp)).keep (Fr.grew d.out));have f:Hid (Bd P w m z _ _):=⟨v0,rfl,E.1,E.2⟩;have B:Hid (((w.alloc (.cells #[.nilIface] 23)).setCell ⟨w.heap.size,0,none⟩ v0).heap[w.heap.size]?=some (.cells #[v0] 23 (0,0))):=Ai s.out 0 v0;clear E g l;go_enter func273,ntmps273
  go_wp2_with fail
  have A:(w.alloc (.cells #[.nilIface] 23)).setCell ⟨w.heap.size,0,none⟩ v0=w.alloc (.cells #[v0] 23):=by simp[go_sem]
  rw[A] at f;exact Ae2 (by simp[results,results273,go_sem]) rfl f.out
 | some i =>
  cases j with
  | none =>
   have E:=A6 d.out.below ((g.out (by simp)).keep (Fr.grew d.out));have f:Hid (Bd P w m z _ _):=⟨v0,rfl,E.1,E.2⟩;have B:Hid (((w.alloc (.cells #[.nilIface] 23)).setCell ⟨w.heap.size,0,none⟩ v0).heap[w.heap.size]?=some (.cells #[v0] 23 (0,0))):=Ai s.out 0 v0;clear E g l;go_enter func273,ntmps273
   go_wp2_with fail
   have A:(w.alloc (.cells #[.nilIface] 23)).setCell ⟨w.heap.size,0,none⟩ v0=w.alloc (.cells #[v0] 23):=by simp[go_sem]
   rw[A] at f;exact Ae2 (by simp[results,results273,go_sem]) rfl f.out
  | some j =>
   obtain⟨H,M,c⟩:=l.out i j D F _ d.out (Aa s.out);clear g l D F;go_enter func273,ntmps273
   go_wp2_with fail
   refine c.mono ?_;rintro e R ⟨r,rfl,C,G⟩;have Z:=Ae (G.rep _ _ _).one;have t:Hid _:=Ac1 C s.out;have E:=A6 (d.out.below.trans (C.mono d.out.below.size)) G;have f:Hid (Bd P w m z _ _):=⟨r,rfl,E.1,E.2⟩;have B:Hid ((R.setCell ⟨w.heap.size,0,none⟩ r).heap[w.heap.size]?=some (.cells #[r] 23 (0,0))):=Ai t.out 0 r;have X:=Ab t.out 0;have Y:=Ad t.out 0;have zw:=Aa t.out;clear E C G c M;go_wp2_with fail
   have O:=Ab B.out 0;exact Ae2 (by simp[results,results273,go_sem,O]) rfl f.out
theorem pO (n m:Nat)(P:Nat->Prop)(w:World)(a:Option Addr)(cap:Nat)(x y:Ag (AV n)){Q0:Nat->Prop}(h:Bv Q0 w (Aj P w (n+1)) a 2 [(x:AV (n+1)),(y:AV (n+1))])(p q:Nat)(v0:Value)(k:FuncId)(cs:Array Value)(hp:Box w p 23 v0)(hq:Box w q 245 (.func (.func k) #[] cs))(z:AV m)
  (H0:¬(x.kind=5/\y.kind=5)->Aj (fun k=>P k/\k≠w.heap.size) w m z v0)
  (H1:∀b1 b2,x=Bt x.keys->y=Bt y.keys->Dy P w (Aj P w n) (wt n) b1 x.keys->Dy P w (Aj P w n) (wt n) b2 y.keys->∀W,Ac w W->w.heap.size<W.heap.size->zR k cs #[.pointer (some ⟨b1,0,none⟩),.pointer (some ⟨b2,0,none⟩)] W (Bd (fun k=>P k/\k≠w.heap.size) W m z)) (h0:v0.oneCell'=true) :
  Calls prog 276 #[.slice a 2 cap,.pointer (some ⟨p,0,none⟩),.pointer (some ⟨q,0,none⟩)] w (Bd P w m z):=by
 obtain⟨b,O,v,u,rfl,M,R,S,t,j⟩:=Mw h;have Z:=Ae h0;have T:=Ab hp 0;have U:=Ab hq 0;have zp:=Aa hp;have zq:=Aa hq;have H:Hid ((w.alloc (.cells #[.nilIface] 23)).heap[w.heap.size]?=_):=Af rfl;have f:Hid (Ac w (w.alloc (.cells #[.nilIface] 23))):=(Ac.refl w).alloc _;have s:Hid _:=H1;clear h hp hq h0 H1;rcases Si t with⟨b1,i,G,-,K⟩|⟨i,K⟩
 ·rcases Si j with⟨b2,g,B,-,C⟩|⟨g,C⟩
  ·obtain⟨I,L,c⟩:=s.out b1 b2 i g G B _ f.out (Aa H.out);clear G B i g t j H0;clear s;go_enter func276,ntmps276
   go_wp2_with fail
   refine c.mono ?_;rintro e Q ⟨r,rfl,D,F⟩;have Y:=Ae (F.rep _ _ _).one;have A:Hid _:=Ac1 D H.out;have E:=A6 (f.out.below.trans (D.mono f.out.below.size)) F;have d:Hid (Bd P w m z _ _):=⟨r,rfl,E.1,E.2⟩;have J:Hid ((Q.setCell ⟨w.heap.size,0,none⟩ r).heap[w.heap.size]?=some (.cells #[r] 23 (0,0))):=Ai A.out 0 r;have V:=Ab A.out 0;have X:=Ad A.out 0;have zw:=Aa A.out;clear E D F c L;go_wp2_with fail
   have N:=Ab J.out 0;exact Ae2 (by simp[results,results276,go_sem,N]) rfl d.out
  ·have o:Hid _:=H0 (fun h=>g h.2);clear G i g t j H0;have E:=A6 f.out.below (o.out.keep (Fr.grew f.out));have d:Hid (Bd P w m z _ _):=⟨v0,rfl,E.1,E.2⟩;clear E s;go_enter func276,ntmps276
   go_wp2_with fail
   have l:(w.alloc (.cells #[.nilIface] 23)).setCell ⟨w.heap.size,0,none⟩ v0=w.alloc (.cells #[v0] 23):=by simp[go_sem]
   rw[l] at d;exact Ae2 (by simp[results,results276,go_sem]) rfl d.out
 ·rcases Si j with⟨b2,g,B,-,C⟩|⟨g,C⟩
  ·have o:Hid _:=H0 (fun h=>i h.1);clear B i g t j H0;have E:=A6 f.out.below (o.out.keep (Fr.grew f.out));have d:Hid (Bd P w m z _ _):=⟨v0,rfl,E.1,E.2⟩;clear E s;go_enter func276,ntmps276
   go_wp2_with fail
   have l:(w.alloc (.cells #[.nilIface] 23)).setCell ⟨w.heap.size,0,none⟩ v0=w.alloc (.cells #[v0] 23):=by simp[go_sem]
   rw[l] at d;exact Ae2 (by simp[results,results276,go_sem]) rfl d.out
  ·have o:Hid _:=H0 (fun h=>i h.1);clear i g t j H0;have E:=A6 f.out.below (o.out.keep (Fr.grew f.out));have d:Hid (Bd P w m z _ _):=⟨v0,rfl,E.1,E.2⟩;clear E s;go_enter func276,ntmps276
   go_wp2_with fail
   have l:(w.alloc (.cells #[.nilIface] 23)).setCell ⟨w.heap.size,0,none⟩ v0=w.alloc (.cells #[v0] 23):=by simp[go_sem]
   rw[l] at d;exact Ae2 (by simp[results,results276,go_sem]) rfl d.out
theorem tT (n m:Nat)(P:Nat->Prop)(w:World)(a:Option Addr)(len cap:Nat)(hl:len<cap)(hcap:cap<=9223372036854775807)(x:Ag (AV n))(xs:List (AV (n+1))){Q0:Nat->Prop}(h:Bv Q0 w (Aj P w (n+1)) a (len+1) ((x:AV (n+1))::xs))(q:Nat)(k:FuncId)(cs:Array Value)(hq:Box w q 248 (.func (.func k) #[] cs))(z:AV m)
  (H0:x.kind≠5->Aj (fun k=>P k/\k≠w.heap.size) w m z .nilIface)
  (HC:∀(g1 g2:Value)(W:World),Sem.run prog (callFunc k (#[g1,g2]++cs)) W=.ok (.enter k (#[g1,g2]++cs)) W)
  (H1:∀b1,x=Bt x.keys->Dy P w (Aj P w n) (wt n) b1 x.keys->∀(b off off':Nat),a=some ⟨b,off,none⟩->(0<len->off'=off+1)->∀W,Ac w W->w.heap.size<W.heap.size->Calls prog k (#[.pointer (some ⟨b1,0,none⟩),.slice (some ⟨b,off',none⟩) len (cap-1)]++cs) W (Bd (fun k=>P k/\k≠w.heap.size) W m z)) :
  Calls prog 280 #[.slice a (len+1) cap,.pointer (some ⟨q,0,none⟩)] w (Bd P w m z):=by
 obtain⟨b,off,rfl,S,y⟩:=W5 h (by omega);obtain⟨v,g,C⟩:=y 0 x rfl;have R:w.cell? ⟨b,off,none⟩=some v:=g;have H:=Ab hq 0;have D:=Aa hq;have G:len<=9223372036854775806:=by omega
 have u:Hid ((w.alloc (.cells #[.nilIface] 23)).heap[w.heap.size]?=_):=Af rfl;have c:Hid (Ac w (w.alloc (.cells #[.nilIface] 23))):=(Ac.refl w).alloc _;have t:Hid _:=H1;clear h hq H1 y g;rcases Si C with⟨b1,i,I,-,Q⟩|⟨i,Q⟩
 ·obtain⟨off',f⟩:∃o,(if cap=1 then off else off+1)=o:=⟨_,rfl⟩;have d:0<len->off'=off+1:=by intro h;rw[<- f,if_neg (by omega)]
  have B:=Sj b off len cap;rw[f] at B;have N:Hid _:=t.out b1 i I b off off' rfl d;have X:=follows;have y:=HC (.pointer (some ⟨b1,0,none⟩)) (.slice (some ⟨b,off',none⟩) len (cap-1));clear I i C H0 t HC d f;go_enter func280,ntmps280
  go_wp2_with fail
  have F:(w.alloc (.cells #[.nilIface] 23)).cell? _=some (.func _ #[] cs):=(c.out.below.cell (p:=⟨q,0,none⟩) D).trans H;have J:=Ad8 D c.out.below.size;clear H R;have K:=Aa u.out;generalize w.alloc _=W0 at u c F J K |-;go_region_held3 (fun w'=>w'.cell? ⟨q,0,none⟩=some (.func (.func k) #[] cs)) (first|assumption|(refine Et ?_ (Nat.ne_of_lt D);assumption)|go_keep)
   ((refine(N.out _ (c.out.drew) K).mono ?_;rintro e U ⟨r,rfl,s,A⟩;have sr:=Ae (A.rep _ _ _).one;have l:Hid _:=Ac1 s u.out;have E:=A6 ((c.out.drew).below.trans (s.mono (c.out.drew).below.size)) A;have j:Hid (Bd P w m z _ _):=⟨r,rfl,E.1,E.2⟩;have Y:=Ab l.out 0;have Z:=Ad l.out 0;have zw:=Aa l.out;have V:=(s.cell (p:=⟨q,0,none⟩) J).trans F;clear E s A))
  have O:Hid ((U.setCell ⟨w.heap.size,0,none⟩ r).heap[w.heap.size]?=some (.cells #[r] 23 (0,0))):=Ai l.out 0 r;go_wp2_with fail
  have T:=Ab O.out 0;exact Ae2 (by simp[results,results280,go_sem,T]) rfl j.out
 ·have M:Hid _:=H0 i;clear i C H0 HC;have E:=A6 c.out.below (M.out.keep (Fr.grew c.out));have j:Hid (Bd P w m z _ _):=⟨_,rfl,E.1,E.2⟩;clear E t;go_enter func280,ntmps280
  go_wp2_with fail
  have L:(w.alloc (.cells #[.nilIface] 23)).setCell ⟨w.heap.size,0,none⟩ .nilIface=w.alloc (.cells #[.nilIface] 23):=by simp[go_sem]
  rw[L] at j;exact Ae2 (by simp[results,results280,go_sem]) rfl j.out
theorem P3 (n m:Nat)(P:Nat->Prop)(w:World)(a:Option Addr)(len cap:Nat)(hl:len<cap)(hcap:cap<=9223372036854775807)(x:Ag (AV n))(xs:List (AV (n+1))){Q0:Nat->Prop}(h:Bv Q0 w (Aj P w (n+1)) a (len+1) ((x:AV (n+1))::xs))(q:Nat)(k:FuncId)(cs:Array Value)(hq:Box w q 250 (.func (.func k) #[] cs))(z:AV m)
  (H0:x.kind≠6->Aj (fun k=>P k/\k≠w.heap.size) w m z .nilIface)
  (HC:∀(g1 g2:Value)(W:World),Sem.run prog (callFunc k (#[g1,g2]++cs)) W=.ok (.enter k (#[g1,g2]++cs)) W)
  (H1:∀b1 d1,x=Dd x.keys x.vals->FnP P w (Aj P w n) (Au n) (wt n) b1 d1 x.keys x.vals->∀(b off off':Nat),a=some ⟨b,off,none⟩->(0<len->off'=off+1)->∀W,Ac w W->w.heap.size<W.heap.size->Calls prog k (#[.pointer (some ⟨b1,0,none⟩),.slice (some ⟨b,off',none⟩) len (cap-1)]++cs) W (Bd (fun k=>P k/\k≠w.heap.size) W m z)) :
  Calls prog 285 #[.slice a (len+1) cap,.pointer (some ⟨q,0,none⟩)] w (Bd P w m z):=by
 obtain⟨b,off,rfl,S,y⟩:=W5 h (by omega);obtain⟨v,g,C⟩:=y 0 x rfl;have R:w.cell? ⟨b,off,none⟩=some v:=g;have H:=Ab hq 0;have D:=Aa hq;have G:len<=9223372036854775806:=by omega
 have u:Hid ((w.alloc (.cells #[.nilIface] 23)).heap[w.heap.size]?=_):=Af rfl;have c:Hid (Ac w (w.alloc (.cells #[.nilIface] 23))):=(Ac.refl w).alloc _;have t:Hid _:=H1;clear h hq H1 y g;rcases sX C with⟨b1,d1,i,I,-,Q⟩|⟨i,Q⟩
 ·obtain⟨off',f⟩:∃o,(if cap=1 then off else off+1)=o:=⟨_,rfl⟩;have d:0<len->off'=off+1:=by intro h;rw[<- f,if_neg (by omega)]
  have B:=Sj b off len cap;rw[f] at B;have N:Hid _:=t.out b1 d1 i I b off off' rfl d;have X:=follows;have y:=HC (.pointer (some ⟨b1,0,none⟩)) (.slice (some ⟨b,off',none⟩) len (cap-1));clear I i C H0 t HC d f;go_enter func285,ntmps285
  go_wp2_with fail
  have F:(w.alloc (.cells #[.nilIface] 23)).cell? _=some (.func _ #[] cs):=(c.out.below.cell (p:=⟨q,0,none⟩) D).trans H;have J:=Ad8 D c.out.below.size;clear H R;have K:=Aa u.out;generalize w.alloc _=W0 at u c F J K |-;go_region_held3 (fun w'=>w'.cell? ⟨q,0,none⟩=some (.func (.func k) #[] cs)) (first|assumption|(refine Et ?_ (Nat.ne_of_lt D);assumption)|go_keep)
   ((refine(N.out _ (c.out.drew) K).mono ?_;rintro e U ⟨r,rfl,s,A⟩;have sr:=Ae (A.rep _ _ _).one;have l:Hid _:=Ac1 s u.out;have E:=A6 ((c.out.drew).below.trans (s.mono (c.out.drew).below.size)) A;have j:Hid (Bd P w m z _ _):=⟨r,rfl,E.1,E.2⟩;have Y:=Ab l.out 0;have Z:=Ad l.out 0;have zw:=Aa l.out;have V:=(s.cell (p:=⟨q,0,none⟩) J).trans F;clear E s A))
  have O:Hid ((U.setCell ⟨w.heap.size,0,none⟩ r).heap[w.heap.size]?=some (.cells #[r] 23 (0,0))):=Ai l.out 0 r;go_wp2_with fail
  have T:=Ab O.out 0;exact Ae2 (by simp[results,results285,go_sem,T]) rfl j.out
 ·have M:Hid _:=H0 i;clear i C H0 HC;have E:=A6 c.out.below (M.out.keep (Fr.grew c.out));have j:Hid (Bd P w m z _ _):=⟨_,rfl,E.1,E.2⟩;clear E t;go_enter func285,ntmps285
  go_wp2_with fail
  have L:(w.alloc (.cells #[.nilIface] 23)).setCell ⟨w.heap.size,0,none⟩ .nilIface=w.alloc (.cells #[.nilIface] 23):=by simp[go_sem]
  rw[L] at j;exact Ae2 (by simp[results,results285,go_sem]) rfl j.out
theorem Ab7 (m:Nat)(P:Nat->Prop)(w:World)(a:Option Addr)(len cap:Nat)(us:List (AV (m+1))){Q0:Nat->Prop}(h:Bv Q0 w (Aj P w (m+1)) a len us)(hsh:Gm a len cap)(hl:len<=1048577)(hw:∀x∈us,wt (m+1) x<=1024)(hP:∀k,w.heap.size<=k->P k) :
  Calls prog 235 #[.slice a len cap] w (Bd P w (m+2) (mkF (wt (m+1)) (Aq m len) us)):=by
 obtain⟨o,B,C⟩:=Jf h;have z:Hid (Src w a len o):=B;have A:Hid (Ey P w (m+1) us o):=C;have u:Hid _:=hP;have y:Hid _:=hw;have g:Hid (Gm a len cap):=hsh;have f:Hid (Ac w (w.alloc (.cells #[.nilIface] 23))):=(Ac.refl w).alloc _;have q:Hid ((w.alloc (.cells #[.nilIface] 23)).heap[w.heap.size]?=_):=Af rfl;have F:(w.alloc (.cells #[.nilIface] 23)).heap.size=w.heap.size+1:=by simp
 clear h hsh B C hw hP;have N:=follows;go_enter func235,ntmps235
 go_wp2_with fail
 generalize w.alloc _=W0 at q F f |-;refine(Zw W0 a len cap o (z.out.below f.out.below) g.out (by omega)).mono ?_;rintro e t ⟨R,rfl,D,n⟩;have p:Hid _:=f.out.below.trans (n.mono f.out.below.size);have I:Hid _:=Ac1 n q.out;have i:Ey (fun k=>P k/\k≠w.heap.size) t (m+1) us o:=A.out.fr (Fr.below p.out) (fun k hk hp=>⟨hp,by omega⟩);obtain⟨K,j,rfl,c,b⟩:=Pf (W:=w) D i (by omega) (fun k hk=>⟨u.out k (by omega),by omega⟩) rfl;have s:=n.size;have H:Hid (Calls _ 236 #[_] t _):=E5 m _ t K len j us hl b (fun k hk=>⟨u.out k (by omega),by omega⟩) y.out c;clear D n i c b s A z y g q F f;go_wp2_with fail
 refine H.out.mono ?_;rintro e M ⟨v,rfl,r,d⟩;have S:=Ae (r.rep _ _ _).one;have E:=A6 (p.out.trans (d.mono p.out.size)) r;have G:Hid (Bd P w (m+2) _ _ _):=⟨v,rfl,E.1,E.2⟩;have l:Hid _:=Ac1 d I.out;have J:Hid ((M.setCell ⟨w.heap.size,0,none⟩ v).heap[w.heap.size]?=some (.cells #[v] 23 (0,0))):=Ai l.out 0 v;have O:=Ab l.out 0;have Q:=Ad l.out 0;have T:=Aa l.out;clear E d r;go_wp2_with fail
 have L:=Ab J.out 0;exact Ae2 (by simp[results,results235,go_sem,L]) rfl G.out
theorem tU (n:Nat)(P:Nat->Prop)(w:World)(a:Option Addr)(len cap:Nat)(es:List (AV n)){Q0:Nat->Prop}(h:Bv Q0 w (Aj P w n) a len es)(h2:len % 2=0)(hl:len<=1048576)(hw:∀x∈es,wt n x<=1024)(hP:∀k,w.heap.size<=k->P k) :
  Calls prog 229 #[.slice a len cap] w (Bd P w (n+1) (mkP (wt n) (Dp (Al n) (Bs es)))):=by
 obtain⟨b,f⟩:∃b,len=2*b:=⟨len / 2,by omega⟩;have A:Hid (len=2*b):=f;have b3:b<=1048576:=by omega
 have tm:Int.tmod (len:Int) 2=0:=by rw[Int.tmod_eq_emod_of_nonneg (by omega)];omega
 have td:Int.tdiv (len:Int) 2=(b:Int):=by rw[Int.tdiv_eq_ediv_of_nonneg (by omega)];omega
 have wd:wrap64 (b:Int)=b:=by unfold wrap64;omega
 obtain⟨i0,hi,a7,a8,a9⟩:=info_parts xU;obtain⟨g,S1,V1⟩:=Jf h;have M:Hid (Src w a len g):=S1;have KV:Hid (Ey P w n es g):=V1;have HP:Hid _:=hP;have HW:Hid _:=hw;have B:Hid (len=es.length):=h.1;have G0:Hid (Ac w (w.alloc (.cells #[.nilIface] 23))):=(Ac.refl w).alloc _;have X0:Hid ((w.alloc (.cells #[.nilIface] 23)).heap[w.heap.size]?=_):=Af rfl;obtain⟨R,ra,oa,Z⟩:=run_make_full _ (w.alloc (.cells #[.nilIface] 23)).heap.size 270 273 i0 _ 2 underlying270 hi a7 a8 .i64 .i64 b (by rw[a9];omega) (by unfold maxLen;omega) (Ad9 _);have K:(w.alloc (.cells #[.nilIface] 23)).heap.size=w.heap.size+1:=by simp
 rw[K] at ra oa;have B1:Hid _:=G0.out.below.trans (((Below.refl _ _).grown Z (Ad9 _) (fun k hk=>by simp at hk)).mono (by omega));have X1:Hid _:=(Z.block _ (Aa X0.out) (by simp)).trans X0.out;have PI:Hid (tQ R R (w.heap.size+1) b g 0):=by
  rcases oa.2 with⟨e,_⟩|⟨g',b2,l,e,_,c,_,_,H,_⟩
  ·simp at e
  ·simp at e;obtain⟨rfl,rfl⟩:=e;exact⟨l,c,H,fun j hj=>by omega,Fr.refl _ _⟩
 clear h S1 V1 hw hP h2 oa Z K f;have mo:=follows;go_enter func229,ntmps229
 go_wp2_with fail
 go_loopw [16,4] (fun i _ wr=>∃k:Nat,k<=b/\i=.int .i64 k/\Hid (tQ R wr (w.heap.size+1) b g k)) (fun i _ _=>b-(intOf i).toNat)
 case atStart=>exact⟨0,Ae1 _,rfl,PI⟩
 case round =>
  clear PI ra;obtain⟨k,hk,rfl,U⟩:=hrel;obtain⟨l,c,H,D,G⟩:=U.out;have m:Hid (Below w.heap.size w wr):=by
   have F:Fr (fun k=>k<w.heap.size) w wr:=(Fr.below B1.out).trans (G.mono (fun k hk=>by have:=hk;omega));exact⟨F.os,F.tape,F.output,F.size,fun i hi=>F.block i hi hi⟩
  by_cases b4:k<b
  ·have f:=A.out;have a6:g.length=len:=M.out.1;obtain⟨p,o,a0,y,s⟩:=M.out.2.2.resolve_left (by omega);subst a0;obtain⟨v,Q⟩:∃v,g[2*k]?=some v:=⟨_,List.getElem?_eq_getElem (by omega)⟩;obtain⟨u,O⟩:∃u,g[2*k+1]?=some u:=⟨_,List.getElem?_eq_getElem (by omega)⟩;have st:=Ae (M.out.2.1 v (Ae4 Q));have su:=Ae (M.out.2.1 u (Ae4 O));have m0:wr.drew.cell? _=some v:=(m.out.cell (p:=⟨p,o+2*k,none⟩) y).trans (s _ _ Q);have m1:wr.drew.cell? _=some u:=(m.out.cell (p:=⟨p,o+(2*k+1),none⟩) y).trans (s _ _ O);have zp:=Ad8 y m.out.size;have zg:=Aa c;have d:wr.drew.heap[_+1]?=_:=c;obtain⟨x0,I⟩:∃x0,l[k*2]?=some x0:=⟨_,Array.getElem?_eq_getElem (by omega)⟩;obtain⟨T,J⟩:∃T,l[k*2+1]?=some T:=⟨_,Array.getElem?_eq_getElem (by omega)⟩;have t0:=(Ab d (k*2)).trans I;have t1:=(Ab d (k*2+1)).trans J;have b0:wr.cell? _=some x0:=t0;have L:wr.cell? _=some T:=t1;have f0:=Ad d (k*2);have f1:=Ad d (k*2+1);have X:=Ad c (k*2);have C:=Ad c (k*2+1);have b1:(wr.drew.setCell ⟨w.heap.size+1,k*2,none⟩ v).cell? _=some T:=(World.cell?_setCell_other _ _ _ _ (fun e=>by have:=congrArg Addr.off e;simp at this)).trans t1;have Y:=Ad (Ai d (k*2) v) (k*2+1);have a4:Sem.run prog (storeCells ⟨w.heap.size+1,k*2,none⟩ [v,u] 0) wr.drew=.ok () ((wr.drew.setCell ⟨w.heap.size+1,k*2,none⟩ v).setCell ⟨w.heap.size+1,k*2+1,none⟩ u):=by
    simp[storeCells,Addr.add,st,su,stored,t0,f0,Result.andThen,go_sem,L,C]
   clear I J;have S:wrap64 (2*(k:Int))=2*(k:Int):=by unfold wrap64;omega
   have w3:wrap64 (2*(k:Int)+1)=2*(k:Int)+1:=by unfold wrap64;omega
   have b5:IntKind.i64.wrap (2*(k:Int))=2*(k:Int):=by rw[IntKind.wrap_i64];omega
   have b6:IntKind.i64.wrap (2*(k:Int)+1)=2*(k:Int)+1:=by rw[IntKind.wrap_i64];omega
   have l2:2*(k:Int)<(len:Int):=by omega
   have l3:2*(k:Int)+1<(len:Int):=by omega
   have n2:(0:Int)<=2*(k:Int):=by omega
   have n3:(0:Int)<=2*(k:Int)+1:=by omega
   have e2:(2*(k:Int)).toNat=2*k:=by omega
   have e3:(2*(k:Int)+1).toNat=2*k+1:=by omega
   have V:Hid (tQ R ((wr.setCell ⟨w.heap.size+1,k*2,none⟩ v).setCell ⟨w.heap.size+1,k*2+1,none⟩ u).drew (w.heap.size+1) b g (k+1)):=by
    refine⟨_,Ai (Ai c (k*2) v) _ u,by simp[H],fun j hj=>?_,?_⟩
    ·rw[Array.set!_eq_setIfInBounds,Array.set!_eq_setIfInBounds];rcases(show j<2*k\/j=2*k\/j=2*k+1 by omega) with q|q|q
     ·rw[Array.getElem?_setIfInBounds_ne (by omega),Array.getElem?_setIfInBounds_ne (by omega)];exact D j q
     ·subst q;rw[Array.getElem?_setIfInBounds_ne (by omega),Q,Nat.mul_comm 2 k,Array.getElem?_setIfInBounds_self_of_lt (by omega)]
     ·subst q;rw[O,Nat.mul_comm 2 k,Array.getElem?_setIfInBounds_self_of_lt (by simp;omega)]
    ·exact((G.set (by simp) v).set (by simp) u).trans (Fr.grew (Ac.refl _).drew)
   clear c d H D G U Q O s a6 f;clear b1 Y;go_wp2_with fail
   go_region
   clear a4 t0 t1 f0 f1 m0 m1 b0 L X C;go_wp2_with fail
   go_roundw
   case rel=>exact⟨k+1,by omega,by go_num,V⟩
   case measure=>simp[intOf];omega
  ·obtain rfl:k=b:=by omega
   have f:=A.out;have X2:Hid _:=(G.block _ (Aa X1.out) (by omega)).trans X1.out;have zg:=Aa c;have V:Hid (Calls prog 267 #[.slice (some ⟨w.heap.size+1,0,none⟩) k k] wr fun e w'=>∃v,e=.returned (.agg #[v])/\Aj (fun j=>P j/\j≠w.heap.size) w' (n+1) (mkP (wt n) (Dp (Al n) (Bs es))) v/\Fr (·≠w.heap.size+1) wr w'):=by
    rcases Nat.eq_zero_or_pos k with h0|h0
    ·subst h0;obtain rfl:es=[]:=List.length_eq_zero_iff.1 (by have:=B.out;omega);refine(Uk (w.heap.size+1) n (fun j=>P j/\j≠w.heap.size) wr (fun j hj=>⟨HP.out j (by have:=m.out.size;omega),by omega⟩)).mono ?_;rintro e w' ⟨v,rfl,hr,a1⟩;exact⟨v,rfl,hr,Fr.below a1⟩
    ·have a5:Ey (fun j=>P j/\j≠w.heap.size/\j≠w.heap.size+1) wr n es g:=KV.out.fr (Fr.below m.out) (fun j hj hp=>⟨hp,by omega,by omega⟩);obtain⟨z,W,e2,e3⟩:=yI (fun k hk=>hk.2.2) es g a5;have a3:z.length=k:=by
      have:=congrArg List.length W;rw[List.length_map,K8] at this;have:=B.out;omega
     have hq:Jt wr _ k z:=⟨zg,a3,fun i r hr=>by
      have hi:i<k:=by have:=(List.getElem?_eq_some_iff.1 hr).1;omega
      obtain⟨q1,q2⟩:=e3 i r hr;refine⟨?_,?_,Ad c _,Ad c _⟩
      ·rw[Ab c,Nat.mul_comm i 2,D _ (by omega)];exact q1
      ·rw[Ab c,Nat.mul_comm i 2,D _ (by omega)];exact q2⟩
     refine(N3 n (fun j=>P j/\j≠w.heap.size/\j≠w.heap.size+1) wr (w.heap.size+1) k k z e2 hq h0 (by omega) (Ad9 _) (fun h=>h.2.2 rfl) (fun j hj=>⟨HP.out j (by have:=m.out.size;omega),by omega,by omega⟩) (fun q hq9=>?_)).mono ?_
     ·have hm:xyP q∈Bs es:=by rw[<- W];exact List.mem_map.2 ⟨q,hq9,rfl⟩
      exact⟨HW.out _ (Gu es _ hm).1,HW.out _ (Gu es _ hm).2⟩
     ·rintro e w' ⟨v,rfl,hr,a2⟩;rw[W] at hr;exact⟨v,rfl,hr.fr (Fr.refl _ w') (fun j _ hj=>⟨hj.1,hj.2.1⟩) _ _ _,a2⟩
   clear c H D G U f;go_wp2_with fail
   refine V.out.mono ?_;rintro e S ⟨v,rfl,hr,t⟩;have st:=Ae (hr.rep _ _ _).one;have B2:Below w.heap.size w S:=by
    have F:Fr (fun k=>k<w.heap.size) w S:=(Fr.below m.out).trans (t.mono (fun k hk=>by have:=hk;omega));exact⟨F.os,F.tape,F.output,F.size,fun i hi=>F.block i hi hi⟩
   have E:=A6 B2 hr;have HE:Hid (Bd P w (n+1) _ _ _):=⟨v,rfl,E.1,E.2⟩;have N:Hid _:=(t.block _ (Aa X2.out) (by omega)).trans X2.out;have XF:Hid ((S.setCell ⟨w.heap.size,0,none⟩ v).heap[w.heap.size]?=some (.cells #[v] 23 (0,0))):=Ai N.out 0 v;have r0:=Ab N.out 0;have s0:=Ad N.out 0;have zw:=Aa N.out;clear E t hr B2;go_wp2_with fail
   have k0:=Ab XF.out 0;exact Ae2 (by simp[results,results229,go_sem,k0]) rfl HE.out
theorem tV (m:Nat)(P:Nat->Prop)(w:World)(a1 a2:Option Addr)(n1 c1 n2 c2:Nat)(es fs:List (AV (m+1)))(r1:Bv P w (Aj P w (m+1)) a1 n1 es){Q0:Nat->Prop}(r2:Bv Q0 w (Aj P w (m+1)) a2 n2 fs)(hw:∀x∈es++fs,wt (m+1) x<=1024)(hn1:n1<=524288)(hn2:n2<=524288)(hP:∀k,w.heap.size<=k->P k) :
  Calls prog 242 #[.slice a1 n1 c1,.slice a2 n2 c2] w (Bd P w (m+2) (mkF (wt (m+1)) (Aq m (n1+n2)) (es++fs))):=by
 have d:Hid _:=yH m P w a1 a2 n1 c1 n2 c2 es fs r1 r2 hw hn1 hn2 hP;have i:Hid (Ac w (w.alloc (.cells #[.nilIface] 23))):=(Ac.refl w).alloc _;have j:Hid ((w.alloc (.cells #[.nilIface] 23)).heap[w.heap.size]?=_):=Af rfl;clear r1 r2 hw hP;have A:=follows;go_enter func242,ntmps242
 go_wp2_with fail
 have z:w.heap.size+1=(w.alloc (.cells #[.nilIface] 23)).heap.size:=by simp
 rw[z];generalize w.alloc _=W0 at j i |-;refine(d.out _ _ ?_ ?_ ?_).mono ?_
 ·exact i.out.alloc _
 ·exact Ac1 ((Ac.refl _).alloc _).below j.out
 ·exact Af rfl
 rintro e o ⟨a,t,rfl,f,g,b⟩;have n:Hid (Below w.heap.size w o):=f;have r:Hid _:=g;have q:Hid (Calls _ 236 #[_] o _):=b;clear f g b d j i;go_wp2_with fail
 refine q.out.mono ?_;rintro e y ⟨v,rfl,l,c⟩;have D:=Ae (l.rep _ _ _).one;have E:=A6 (n.out.trans (c.mono n.out.size)) l;have p:Hid (Bd P w (m+2) _ _ _):=⟨v,rfl,E.1,E.2⟩;have h:Hid _:=Ac1 c r.out;have s:Hid ((y.setCell ⟨w.heap.size,0,none⟩ v).heap[w.heap.size]?=some (.cells #[v] 23 (0,0))):=Ai h.out 0 v;have B:=Ab h.out 0;have C:=Ad h.out 0;have F:=Aa h.out;clear E c l;go_wp2_with fail
 have u:=Ab s.out 0;exact Ae2 (by simp[results,results242,go_sem,u]) rfl p.out
end Go.Proofs.YtdpeliifdlhhkaaGreatDoor.Sx
