/- The law of what is written again: its walk, all of it. -/
import Derived.Test.YtjbfcadeapphbaaGreatDoorK22
import Derived.Test.YtjbfcadeapphbaaGreatDoorK40
import Derived.Test.YtjbfcadeapphbaaGreatDoorK44
import Derived.Test.YtjbfcadeapphbaaGreatDoorK29
import Derived.Test.YtjbfcadeapphbaaGreatDoorK04
import Derived.Lib.ItoaLen
import Derived.Lib.ParseIntBTie
import Derived.Test.YtjbfcadeapphbaaGreatDoorK45
namespace Go.Proofs.YtjbfcadeapphbaaGreatDoor.Sx
set_option maxRecDepth 100000
set_option maxHeartbeats 4000000
open Go.RowKit Go.Sort
theorem fW (T:List UInt8)(hT:T.length<=4000):∃f g r,f<=900000/\g<=900000/\Iw (tkF T) (Z6 (tkF T) f) f 0=some r/\Iw (tkF T) (A3 (tkF T) g) g 0=some r/\∀x j,r=.ok (x,j)->x.length<=1000000000/\0<x.length:=by
 obtain⟨N,q,h,_⟩:=M4 T;obtain⟨r,k,a⟩:=eC (self:=Z6 (tkF T) (N+1)) (Sw h) (fun n d j _ b=>Ou (Sw h) (N+1) n d j b (by omega)) (m:=N+1) (by omega);have c:Iw (tkF T) (A3 (tkF T) (13*(N+1)+20)) (13*(N+1)+20) 0=some r:=(Mj (fun n d i=>Op (Mc T) (N+1) n d i) (by omega) 0).some k;refine⟨N+1,13*(N+1)+20,r,by omega,by omega,k,c,fun x j e=>?_⟩;subst e;have o:=Mg (K:=tkF T) (fun i v hv=>by
   have s:=Lib.parseIntB_bounds hv;have:=Lib.itoa_length_le v (by omega) (by omega);omega) (Mi T hT) (13*(N+1)+20)
 have l:=eK (Mi T hT) o _ 0 x j c;have p:=a x j rfl;exact⟨by omega,l.2.1⟩
theorem Fr.allF {w w':World}(h:Fr (fun _=>True) w w'):Below w.heap.size w w':=⟨h.os,h.tape,h.output,h.size,fun i hi=>h.block i hi trivial⟩
structure Ci (w:World):Prop where
 env:6<w.heap.size/\(∃ev,w.cell? ⟨6,0,none⟩=some ev/\(ev=.nilIface\/∃te pe,ev=.iface te pe))/\∃ev,w.cell? ⟨5,0,none⟩=some ev/\(ev=.nilIface\/∃te pe,ev=.iface te pe)
 tab : Lib.TabIs Tryz.prog w "internal/strconv.uint64pow10" .u64 Lib.pow10Tab
theorem Ci.below {w w':World}(h:Ci w)(hb:Below w.heap.size w w'):Ci w':=by
 obtain⟨a,⟨b,d,e⟩,c,f,g⟩:=h.env;exact⟨⟨Nat.lt_of_lt_of_le a hb.size,⟨b,(hb.cell (p:=⟨6,0,none⟩) a).trans d,e⟩,c,(hb.cell (p:=⟨5,0,none⟩) (by show 5<_;omega)).trans f,g⟩,Hn hb (by omega) h.tab⟩
theorem Ci.envF {w:World}(h:Ci w):Bl w w.heap.size:=⟨by have:=h.env.1;omega,h.env.1,h.env.2.1,by have:=h.env.1;omega,h.env.2.2⟩
theorem cM (v:Int):0<(Lib.itoa v).length:=by
 have a:∀n,0<(Lib.decDigits n).length:=fun n=>by
  rw[Lib.decDigits.eq_def];split<;>simp
 unfold Lib.itoa;split
 ·simp
 ·exact a _
theorem cN (T:List UInt8)(hT:T.length<=1000):∃g r,g<=1000000/\Ea (tkF T) g=some r/\∀x j,r=.ok (x,j)->x.tx.length<=1000000000/\0<x.tx.length:=by
 obtain⟨N,n,h,_⟩:=M4 T;obtain⟨r,f,a⟩:=Ou (Sw h) (N+1) 0 0 0 (Nat.zero_le _) (by omega);have c:=(Op (Mc T) (N+1) 0 0 0).some f;have b:∀x j,r=.ok (x,j)->x.tx.length<=1000000000/\0<x.tx.length:=fun x j e=>by
  subst e;have l:=Mg (K:=tkF T) (fun i v hv=>by
   have o:=Lib.parseIntB_bounds hv;have:=Lib.itoa_length_le v (by omega) (by omega);omega) (Mi T (by omega)) _ _ _ _ x j c
  have m:=a x j rfl;exact⟨by omega,Rs (Tn T) cM _ _ _ _ x j c⟩
 refine⟨13*(N+1)+20,?_⟩;unfold Ea;rw[c];rcases r with e|⟨x,j⟩
 ·exact⟨_,by omega,rfl,fun x j e=>by simp at e⟩
 ·show ∃r,_/\(if (tkF T j).cl=0 then okX x j else Ck 1 (tkF T j).at')=some r/\_;split
  ·exact⟨_,by omega,rfl,fun y k e=>by
    have d:=(Prod.mk.inj (Except.ok.inj e)).1;rw[<- d];exact b x j rfl⟩
  ·exact⟨_,by omega,rfl,fun x j e=>by simp at e⟩
theorem Kk (t:ByteArray)(hs:t.size<=9223372036854775806):∃r,(∀w,Ci w->Calls Tryz.prog 6 #[.string t] w (Du w r))/\(∀x j,r=.ok (x,j)->t.size<=1000/\x.tx.length<=1000000000)/\(t.size<=1000->∃g,Ea (tkF t.data.toList) g=some r):=by
 have d:t.data.toList.length=t.size:=by simp
 by_cases h:t.size<=1000
 ·obtain⟨g,r,c,b,a⟩:=cN t.data.toList (by omega);exact⟨r,fun w hB=>Ve t w r (Lq t w r (Xl t w h hB.envF g c r b)) hB.tab (by have:=hB.env.1;omega) (fun x j e=>⟨by have:=(a x j e).1;omega,(a x j e).2⟩),fun x j e=>⟨h,(a x j e).1⟩,fun _=>⟨g,b⟩⟩
 ·exact⟨.error (6,0),fun w hB=>Ve t w _ (Lq t w _ (U3 t w (by omega) (by omega))) hB.tab (by have:=hB.env.1;omega) (fun x j e=>by simp at e),fun x j e=>by simp at e,fun q=>absurd q h⟩
theorem Qi (t:ByteArray)(hs:t.size<=9223372036854775806):∃r,(∀w,Ci w->Calls Tryz.prog 10 #[.string t] w (Cx w r))/\(∀x j,r=.ok (x,j)->t.size<=4000/\x.length<=1000000000)/\(t.size<=4000->∃g,Iw (tkF t.data.toList) (A3 (tkF t.data.toList) g) g 0=some r):=by
 have k:t.data.toList.length=t.size:=by simp
 by_cases h:t.size<=4000
 ·obtain⟨f,g,r,i,c,d,b,a⟩:=fW t.data.toList (by omega);exact⟨r,fun w hB=>Px t w r (J5 t w r (Vj t w h hB.envF g c r b)) hB.tab (by have:=hB.env.1;omega) (fun x j e=>⟨by have:=(a x j e).1;omega,(a x j e).2⟩),fun x j e=>⟨h,(a x j e).1⟩,fun _=>⟨g,b⟩⟩
 ·exact⟨.error (6,0),fun w hB=>Px t w _ (J5 t w _ (Tv t w (by omega) (by omega))) hB.tab (by have:=hB.env.1;omega) (fun x j e=>by simp at e),fun x j e=>by simp at e,fun q=>absurd q h⟩
theorem Yx {t:ByteArray}{g:Nat}{x:PX}{j:Nat}(h:Ea (tkF t.data.toList) g=some (.ok (x,j)))(hx:x.tx.length<=1000):∃k,∀w,Ci w->Calls Tryz.prog 6 #[.string ⟨x.tx.toArray⟩] w (Du w (.ok (x,k))):=by
 obtain⟨F,k,d⟩:=Vz h;have f:(⟨x.tx.toArray⟩:ByteArray).size<=1000:=by show x.tx.toArray.size<=1000;simp;exact hx
 obtain⟨r,a,-,b⟩:=Kk ⟨x.tx.toArray⟩ (by omega);obtain⟨i,c⟩:=b f;have e:r=.ok (x,k):=K9 (K:=tkF x.tx) (by simpa using c) d;subst e;exact⟨k,a⟩
theorem Wh {t s:ByteArray}{g:Nat}{x:PX}{j:Nat}(h:Ea (tkF t.data.toList) g=some (.ok (x,j)))(ht:t.size<=900)(hs:s.data.toList=t.data.toList++[10,32,9,35,32,114,101,109,97,114,107]):∀w,Ci w->Calls Tryz.prog 6 #[.string s] w (Du w (.ok (x,j))):=by
 have f:t.data.toList.length=t.size:=by simp
 have i:s.size<=1000:=by
  have:s.data.toList.length=s.size:=by simp
  rw[hs,List.length_append] at this;simp at this f;omega
 obtain⟨r,b,-,c⟩:=Kk s (by omega);obtain⟨k,a⟩:=c i;have d:=T8 (T:=t.data.toList) (R:=[32,9,35,32,114,101,109,97,114,107]) (by decide) h;rw[hs] at a;have e:r=.ok (x,j):=K9 a d;subst e;exact b
theorem cO {t:ByteArray}{g:Nat}{x:List UInt8}{j:Nat}(h:Iw (tkF t.data.toList) (A3 (tkF t.data.toList) g) g 0=some (.ok (x,j)))(hx:x.length<=4000):∃k,∀w,Ci w->Calls Tryz.prog 10 #[.string ⟨x.toArray⟩] w (Cx w (.ok (x,k))):=by
 obtain⟨F,k,d⟩:=cL h;have f:(⟨x.toArray⟩:ByteArray).size<=4000:=by show x.toArray.size<=4000;simp;exact hx
 obtain⟨r,a,-,b⟩:=Qi ⟨x.toArray⟩ (by omega);obtain⟨i,c⟩:=b f;have e:r=.ok (x,k):=Wg (K:=tkF x) (by simpa using c) d;subst e;exact⟨k,a⟩
theorem gP:Ea (tkF [110,111,116,40,97,61,49,41,97,110,100,32,98]) 12=some (.ok (⟨5,[110,111,116,32,97,32,61,32,49,32,97,110,100,32,98],none⟩,8)):=by kernel_rfl
theorem gQ:Iw (tkF [109,111,100,117,108,101,32,77,32,99,111,110,115,116,97,110,116,32,97,61,49]) (A3 (tkF [109,111,100,117,108,101,32,77,32,99,111,110,115,116,97,110,116,32,97,61,49]) 12) 12 0=some (.ok ([109,111,100,117,108,101,32,77,10,99,111,110,115,116,97,110,116,32,97,32,61,32,49,10],6)):=by kernel_rfl
theorem fD:∀w,Ci w->Calls Tryz.prog 6 #[.string ⟨#[110,111,116,40,97,61,49,41,97,110,100,32,98]⟩] w (Du w (.ok (⟨5,[110,111,116,32,97,32,61,32,49,32,97,110,100,32,98],none⟩,8))):=by
 obtain⟨r,a,-,b⟩:=Kk ⟨#[110,111,116,40,97,61,49,41,97,110,100,32,98]⟩ (by decide);obtain⟨d,c⟩:=b (by decide);have e:r=.ok (⟨5,[110,111,116,32,97,32,61,32,49,32,97,110,100,32,98],none⟩,8):=K9 c gP;subst e;exact a
theorem fE:∀w,Ci w->Calls Tryz.prog 10 #[.string ⟨#[109,111,100,117,108,101,32,77,32,99,111,110,115,116,97,110,116,32,97,61,49]⟩] w (Cx w (.ok ([109,111,100,117,108,101,32,77,10,99,111,110,115,116,97,110,116,32,97,32,61,32,49,10],6))):=by
 obtain⟨r,a,-,b⟩:=Qi ⟨#[109,111,100,117,108,101,32,77,32,99,111,110,115,116,97,110,116,32,97,61,49]⟩ (by decide);obtain⟨d,c⟩:=b (by decide);have e:r=.ok ([109,111,100,117,108,101,32,77,10,99,111,110,115,116,97,110,116,32,97,32,61,32,49,10],6):=Wg c gQ;subst e;exact a
theorem cP (w:World)(hB:Ci w):Tp 13 #[] w (.bool true):=by
 have h:Hid (∀w,Ci w->Calls Tryz.prog 6 #[.string ⟨#[110,111,116,40,97,61,49,41,97,110,100,32,98]⟩] w (Du w (.ok (⟨5,[110,111,116,32,97,32,61,32,49,32,97,110,100,32,98],none⟩,8)))):=fD;have i:Hid (∀w,Ci w->Calls Tryz.prog 10 #[.string ⟨#[109,111,100,117,108,101,32,77,32,99,111,110,115,116,97,110,116,32,97,61,49]⟩] w (Cx w (.ok ([109,111,100,117,108,101,32,77,10,99,111,110,115,116,97,110,116,32,97,32,61,32,49,10],6)))):=fE;have d:Hid (Ci w):=hB;clear hB;unfold Tp;go_enter Tryz.func13,Tryz.ntmps13
 go_wp2_with fail
 refine(h.out w d.out).mono ?_;rintro e f ⟨a,rfl⟩;have c:Hid (Below w.heap.size w f):=a.allF;have g:Hid (Ci f):=d.out.below c.out;clear a h d;go_wp2_with fail
 refine(i.out f g.out).mono ?_;rintro e k ⟨b,rfl⟩;have j:Hid (Below w.heap.size w k):=c.out.trans (b.allF.mono c.out.size);clear b i g c;go_wp2_with fail
 go_ret
 exact⟨by simp,j.out⟩
theorem agains_any (t:ByteArray)(w:World)(hB:Ci w)(hs:t.size<=9223372036854775806):Tp 5 #[.string t] w (.bool true):=by
 obtain⟨r,h1,h2,h3⟩:=Kk t hs;obtain⟨L,k1,k2,o⟩:=Qi t hs;have Z:Hid (∀w,Ci w->Calls Tryz.prog 6 #[.string t] w (Du w r)):=h1;have i:Hid (∀w,Ci w->Calls Tryz.prog 10 #[.string t] w (Cx w L)):=k1;have s:Hid (∀u j,L=.ok (u,j)->u.length<=1000000000/\(u.length<=4000->∃k,∀w,Ci w->Calls Tryz.prog 10 #[.string ⟨u.toArray⟩] w (Cx w (.ok (u,k))))):=fun u j e=>by
  have:=k2 u j e;refine⟨this.2,fun q=>?_⟩;obtain⟨g,V⟩:=o this.1;subst e;exact cO V q
 have HX:Hid (∀x j,r=.ok (x,j)->x.tx.length<=1000000000/\(x.tx.length<=1000->∃k,∀w,Ci w->Calls Tryz.prog 6 #[.string ⟨x.tx.toArray⟩] w (Du w (.ok (x,k)))) /\
   (t.size<=900->∀w,Ci w->Calls Tryz.prog 6 #[.string (t++⟨#[10,32,9,35,32]⟩++⟨#[114,101,109,97,114,107]⟩)] w (Du w (.ok (x,j))))):=fun x j e=>by
  have:=h2 x j e;obtain⟨g,V⟩:=h3 this.1;subst e;exact⟨this.2,fun q=>Yx V q,fun q=>Wh V q (by simp)⟩
 have HL:Hid (Calls _ _ _ _ _):=cP w hB;have HB:Hid (Ci w):=hB;clear hB h1 h2 h3 k1 k2 o hs;unfold Tp;go_enter Tryz.func5,Tryz.ntmps5
 go_wp2_with fail
 refine HL.out.mono ?_;rintro e w1 ⟨rfl,I⟩;have N:Hid (Below w.heap.size w w1):=I;have P:Hid (Ci w1):=HB.out.below I;clear I HL HB;go_wp2_with fail
 refine(Z.out w1 P.out).mono ?_;rcases r with⟨c,p⟩|⟨x,j⟩
 ·rintro e G ⟨l,rfl⟩;have n:Hid (Below w.heap.size w G):=N.out.trans (l.allF.mono N.out.size);have v:Hid (Ci G):=P.out.below l.allF;clear l Z N P HX;go_wp2_with fail
  refine(i.out G v.out).mono ?_;rcases L with⟨U,X⟩|⟨u,D⟩
  ·rintro e h ⟨a,rfl⟩;have b:Hid (Below w.heap.size w h):=n.out.trans (a.allF.mono n.out.size);clear a i;go_wp2_with fail
   go_ret
   exact⟨rfl,b.out⟩
  ·rintro e h ⟨a,rfl⟩;have b:Hid (Below w.heap.size w h):=n.out.trans (a.allF.mono n.out.size);have y:Hid (Ci h):=v.out.below a.allF;have C:=s.out u D rfl;have W:u.toArray.size=u.length:=by simp
   clear a i;by_cases E:u.length<=4000
   ·obtain⟨o,d⟩:=C.2 E;have d:Hid (∀w,Ci w->Calls Tryz.prog 10 #[.string ⟨u.toArray⟩] w (Cx w (.ok (u,o)))):=d;have F:((⟨u.toArray⟩:ByteArray).size:Int)<=4000:=by show((u.toArray.size:Nat):Int)<=4000;omega
    go_wp2_with fail
    refine(d.out h y.out).mono ?_;rintro e H ⟨f,rfl⟩;have A:Hid (Below w.heap.size w H):=b.out.trans (f.allF.mono b.out.size);clear f d;go_wp2_with fail
    go_ret
    exact⟨by simp,A.out⟩
   ·have F:¬((⟨u.toArray⟩:ByteArray).size:Int)<=4000:=by show ¬((u.toArray.size:Nat):Int)<=4000;omega
    go_wp2_with fail
    go_ret
    exact⟨rfl,b.out⟩
 ·rintro e G ⟨l,rfl⟩;have n:Hid (Below w.heap.size w G):=N.out.trans (l.allF.mono N.out.size);have v:Hid (Ci G):=P.out.below l.allF;obtain⟨a0,K,S⟩:=HX.out x j rfl;have R:Hid (t.size<=900->∀w,Ci w->Calls Tryz.prog 6 #[.string (t++⟨#[10,32,9,35,32]⟩++⟨#[114,101,109,97,114,107]⟩)] w (Du w (.ok (x,j)))):=S;have a1:x.tx.toArray.size=x.tx.length:=by simp
  clear l Z N P HX S;by_cases q1:x.tx.length<=1000
  ·obtain⟨k,d⟩:=K q1;have d:Hid (∀w,Ci w->Calls Tryz.prog 6 #[.string ⟨x.tx.toArray⟩] w (Du w (.ok (x,k)))):=d;have q0:((⟨x.tx.toArray⟩:ByteArray).size:Int)<=1000:=by show((x.tx.toArray.size:Nat):Int)<=1000;omega
   clear K;go_wp2_with fail
   refine(d.out G v.out).mono ?_;rintro e Y ⟨J,rfl⟩;have O:Hid (Below w.heap.size w Y):=n.out.trans (J.allF.mono n.out.size);have T:Hid (Ci Y):=v.out.below J.allF;clear J d n v;by_cases q2:t.size<=900
   ·have q3:((t.size:Nat):Int)<=900:=by omega
    have B:=R.out q2;have B:Hid (∀w,Ci w->Calls Tryz.prog 6 #[.string (t++⟨#[10,32,9,35,32]⟩++⟨#[114,101,109,97,114,107]⟩)] w (Du w (.ok (x,j)))):=B;go_wp2_with fail
    refine(B.out Y T.out).mono ?_;rintro e M ⟨m,rfl⟩;have z:Hid (Below w.heap.size w M):=O.out.trans (m.allF.mono O.out.size);have Q:Hid (Ci M):=T.out.below m.allF;clear m B;go_wp2_with fail
    refine(i.out M Q.out).mono ?_;rcases L with⟨U,X⟩|⟨u,D⟩
    ·rintro e h ⟨a,rfl⟩;have b:Hid (Below w.heap.size w h):=z.out.trans (a.allF.mono z.out.size);clear a i;go_wp2_with fail
     go_ret
     exact⟨rfl,b.out⟩
    ·rintro e h ⟨a,rfl⟩;have b:Hid (Below w.heap.size w h):=z.out.trans (a.allF.mono z.out.size);have y:Hid (Ci h):=Q.out.below a.allF;have C:=s.out u D rfl;have W:u.toArray.size=u.length:=by simp
     clear a i;by_cases E:u.length<=4000
     ·obtain⟨o,d⟩:=C.2 E;have d:Hid (∀w,Ci w->Calls Tryz.prog 10 #[.string ⟨u.toArray⟩] w (Cx w (.ok (u,o)))):=d;have F:((⟨u.toArray⟩:ByteArray).size:Int)<=4000:=by show((u.toArray.size:Nat):Int)<=4000;omega
      go_wp2_with fail
      refine(d.out h y.out).mono ?_;rintro e H ⟨f,rfl⟩;have A:Hid (Below w.heap.size w H):=b.out.trans (f.allF.mono b.out.size);clear f d;go_wp2_with fail
      go_ret
      exact⟨by simp,A.out⟩
     ·have F:¬((⟨u.toArray⟩:ByteArray).size:Int)<=4000:=by show ¬((u.toArray.size:Nat):Int)<=4000;omega
      go_wp2_with fail
      go_ret
      exact⟨rfl,b.out⟩
   ·have q3:¬((t.size:Nat):Int)<=900:=by omega
    go_wp2_with fail
    refine(i.out Y T.out).mono ?_;rcases L with⟨U,X⟩|⟨u,D⟩
    ·rintro e h ⟨a,rfl⟩;have b:Hid (Below w.heap.size w h):=O.out.trans (a.allF.mono O.out.size);clear a i;go_wp2_with fail
     go_ret
     exact⟨rfl,b.out⟩
    ·rintro e h ⟨a,rfl⟩;have b:Hid (Below w.heap.size w h):=O.out.trans (a.allF.mono O.out.size);have y:Hid (Ci h):=T.out.below a.allF;have C:=s.out u D rfl;have W:u.toArray.size=u.length:=by simp
     clear a i;by_cases E:u.length<=4000
     ·obtain⟨o,d⟩:=C.2 E;have d:Hid (∀w,Ci w->Calls Tryz.prog 10 #[.string ⟨u.toArray⟩] w (Cx w (.ok (u,o)))):=d;have F:((⟨u.toArray⟩:ByteArray).size:Int)<=4000:=by show((u.toArray.size:Nat):Int)<=4000;omega
      go_wp2_with fail
      refine(d.out h y.out).mono ?_;rintro e H ⟨f,rfl⟩;have A:Hid (Below w.heap.size w H):=b.out.trans (f.allF.mono b.out.size);clear f d;go_wp2_with fail
      go_ret
      exact⟨by simp,A.out⟩
     ·have F:¬((⟨u.toArray⟩:ByteArray).size:Int)<=4000:=by show ¬((u.toArray.size:Nat):Int)<=4000;omega
      go_wp2_with fail
      go_ret
      exact⟨rfl,b.out⟩
  ·have q0:¬((⟨x.tx.toArray⟩:ByteArray).size:Int)<=1000:=by show ¬((x.tx.toArray.size:Nat):Int)<=1000;omega
   clear K;by_cases q2:t.size<=900
   ·have q3:((t.size:Nat):Int)<=900:=by omega
    have B:=R.out q2;have B:Hid (∀w,Ci w->Calls Tryz.prog 6 #[.string (t++⟨#[10,32,9,35,32]⟩++⟨#[114,101,109,97,114,107]⟩)] w (Du w (.ok (x,j)))):=B;go_wp2_with fail
    refine(B.out G v.out).mono ?_;rintro e M ⟨m,rfl⟩;have z:Hid (Below w.heap.size w M):=n.out.trans (m.allF.mono n.out.size);have Q:Hid (Ci M):=v.out.below m.allF;clear m B;go_wp2_with fail
    refine(i.out M Q.out).mono ?_;rcases L with⟨U,X⟩|⟨u,D⟩
    ·rintro e h ⟨a,rfl⟩;have b:Hid (Below w.heap.size w h):=z.out.trans (a.allF.mono z.out.size);clear a i;go_wp2_with fail
     go_ret
     exact⟨rfl,b.out⟩
    ·rintro e h ⟨a,rfl⟩;have b:Hid (Below w.heap.size w h):=z.out.trans (a.allF.mono z.out.size);have y:Hid (Ci h):=Q.out.below a.allF;have C:=s.out u D rfl;have W:u.toArray.size=u.length:=by simp
     clear a i;by_cases E:u.length<=4000
     ·obtain⟨o,d⟩:=C.2 E;have d:Hid (∀w,Ci w->Calls Tryz.prog 10 #[.string ⟨u.toArray⟩] w (Cx w (.ok (u,o)))):=d;have F:((⟨u.toArray⟩:ByteArray).size:Int)<=4000:=by show((u.toArray.size:Nat):Int)<=4000;omega
      go_wp2_with fail
      refine(d.out h y.out).mono ?_;rintro e H ⟨f,rfl⟩;have A:Hid (Below w.heap.size w H):=b.out.trans (f.allF.mono b.out.size);clear f d;go_wp2_with fail
      go_ret
      exact⟨by simp,A.out⟩
     ·have F:¬((⟨u.toArray⟩:ByteArray).size:Int)<=4000:=by show ¬((u.toArray.size:Nat):Int)<=4000;omega
      go_wp2_with fail
      go_ret
      exact⟨rfl,b.out⟩
   ·have q3:¬((t.size:Nat):Int)<=900:=by omega
    go_wp2_with fail
    refine(i.out G v.out).mono ?_;rcases L with⟨U,X⟩|⟨u,D⟩
    ·rintro e h ⟨a,rfl⟩;have b:Hid (Below w.heap.size w h):=n.out.trans (a.allF.mono n.out.size);clear a i;go_wp2_with fail
     go_ret
     exact⟨rfl,b.out⟩
    ·rintro e h ⟨a,rfl⟩;have b:Hid (Below w.heap.size w h):=n.out.trans (a.allF.mono n.out.size);have y:Hid (Ci h):=v.out.below a.allF;have C:=s.out u D rfl;have W:u.toArray.size=u.length:=by simp
     clear a i;by_cases E:u.length<=4000
     ·obtain⟨o,d⟩:=C.2 E;have d:Hid (∀w,Ci w->Calls Tryz.prog 10 #[.string ⟨u.toArray⟩] w (Cx w (.ok (u,o)))):=d;have F:((⟨u.toArray⟩:ByteArray).size:Int)<=4000:=by show((u.toArray.size:Nat):Int)<=4000;omega
      go_wp2_with fail
      refine(d.out h y.out).mono ?_;rintro e H ⟨f,rfl⟩;have A:Hid (Below w.heap.size w H):=b.out.trans (f.allF.mono b.out.size);clear f d;go_wp2_with fail
      go_ret
      exact⟨by simp,A.out⟩
     ·have F:¬((⟨u.toArray⟩:ByteArray).size:Int)<=4000:=by show ¬((u.toArray.size:Nat):Int)<=4000;omega
      go_wp2_with fail
      go_ret
      exact⟨rfl,b.out⟩
end Go.Proofs.YtjbfcadeapphbaaGreatDoor.Sx
