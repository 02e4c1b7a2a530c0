/- Rows of pairs: two sorted neighbours are merged; a whole row is sorted. -/
import Derived.Test.YtdpeliifdlhhkaaGreatDoorM06
import Derived.Deep.Cut
import Derived.Deep.CutRange
import Derived.Test.YtdpeliifdlhhkaaGreatDoorM05
import Derived.Deep.LoopGhost
namespace Go.Proofs.YtdpeliifdlhhkaaGreatDoor.Sx
open Go.RowKit Go.Sort Tryz
set_option maxRecDepth 100000
set_option maxHeartbeats 8000000
section
variable {n g:Nat} {W0:World} [Inhabited (PH n g W0)]
def qU (n g:Nat)(W0:World)[Inhabited (PH n g W0)](len cap f:Nat):Prop:=∀(w:World)(a m b:Nat)(d:Array (PH n g W0)),b-a<=f->Fr (·≠g) W0 w->d.size=len->Cf w g d->a<m->m<b->b<=len->Srt cP d a m->Srt cP d m b ->
 Calls prog 341 #[.slice (some ⟨g,0,none⟩) len cap,.int .i64 a,.int .i64 m,.int .i64 b,.func (.func 303) #[] #[]] w fun e w'=>e=.returned (.tuple #[])/\∃d':Array (PH n g W0),Stb cP a b d d'/\Srt cP d' a b/\Cf w' g d'/\Fr (·≠g) w w'
theorem qV {α:Type}[Inhabited α]{c:α->α->Int}(O:Er c){d:Array α}{a m b mid s s0 r0:Nat}(hmid:mid=(a+b) / 2)(h1:a<m)(h2:m<b)(hs0:s0=if m > mid then mid+m-b else a)(hr0:r0=if m > mid then mid else m)(hs1:s0<=s)(hs2:s<=r0)
  (lo:s0<s->0<=c d[mid+m-1-(s-1)]! d[s-1]!) (hi:s<r0->c d[mid+m-1-s]! d[s]!<0):Yp c d a m b mid s (mid+m-s):=by
 by_cases q:m > mid
 ·rw[if_pos q] at hs0 hr0;refine⟨hmid,by omega,by omega,by omega,by omega,by omega,fun p1 p2=>?_,fun p1 p2=>?_⟩
  ·have:=hi (by omega)
   rwa [show mid+m-1-s=mid+m-s-1 from by omega] at this
  ·have:=lo (by omega);rw[show mid+m-1-(s-1)=mid+m-s from by omega,O.anti] at this;omega
 ·rw[if_neg q] at hs0 hr0;refine⟨hmid,by omega,by omega,by omega,by omega,by omega,fun p1 p2=>?_,fun p1 p2=>?_⟩
  ·have:=hi (by omega)
   rwa [show mid+m-1-s=mid+m-s-1 from by omega] at this
  ·have:=lo (by omega);rw[show mid+m-1-(s-1)=mid+m-s from by omega,O.anti] at this;omega
theorem vG (len cap f:Nat)(hl:len<=4294967296)(IH:qU n g W0 len cap f)(w:World)(a m b:Nat)(d:Array (PH n g W0))(hf:b-a<=f+1)(hW:Fr (·≠g) W0 w)(hd:d.size=len)(hrow:Cf w g d)(h1:a+1<m)(h2:m+1<b)(h3:b<=len)(hs1:Srt cP d a m)(hs2:Srt cP d m b) :
  Calls prog 341 #[.slice (some ⟨g,0,none⟩) len cap,.int .i64 a,.int .i64 m,.int .i64 b,.func (.func 303) #[] #[]] w fun e w'=>e=.returned (.tuple #[])/\∃d':Array (PH n g W0),Stb cP a b d d'/\Srt cP d' a b/\Cf w' g d'/\Fr (·≠g) w w':=by
 have H0:Hid (Cf w g d):=hrow;have HB:Hid (Fr (·≠g) W0 w):=hW;have R:Hid (Srt cP d a m):=hs1;have S:Hid (Srt cP d m b):=hs2;have Y:Hid (qU n g W0 len cap f):=IH;clear hrow hW hs1 hs2 IH;have mo:=follows;have b1:((m:Int)-(a:Int)==1)=false:=by simp;omega
 have b2:((b:Int)-(m:Int)==1)=false:=by simp;omega
 obtain⟨h,N⟩:∃q,q=(a+b) / 2:=⟨_,rfl⟩;have ez:((a:Int)+(b:Int)) / 2=(h:Int):=by omega
 obtain⟨E,D⟩:∃q,q=if m > h then h+m-b else a:=⟨_,rfl⟩;obtain⟨I,L⟩:∃q,q=if m > h then h else m:=⟨_,rfl⟩;have m1:a<h:=by omega
 have m2:h<b:=by omega
 have c8:a<=E:=by rw[D];split<;>omega
 have c7:I<=m:=by rw[L];split<;>omega
 have b7:E<=I:=by rw[D,L];split<;>omega
 have c9:h+m<=E+b:=by rw[D];split<;>omega
 have a1:Hid (h=(a+b) / 2):=N;have K:Hid _:=D;have J:Hid _:=L;clear N D L;have b6:Hid (∀s,E<=s->s<=I->_->_->Yp cP d a m b h s _):=fun s q1 q2 q3 q4 =>
  qV (N2 n g W0) a1.out (by omega) (by omega) K.out J.out q1 q2 q3 q4
 have a2:∀c,E<=c->c<I->m<=h+m-1-c/\h+m-1-c<b:=by
  intro c q1 q2;have C:=K.out;have e2:=J.out;split at C<;>rename_i q
  ·rw[if_pos q] at e2;omega
  ·rw[if_neg q] at e2;omega
 have BC:Hid _:=a2;clear a2;go_enter func341,ntmps341
 go_upto_if 140 with fail
 go_cut [20,21] from 141 (fun s20 s21 wx=>s20=.int .i64 (E:Int)/\s21=.int .i64 (I:Int)/\w=wx)
 case first =>
  by_cases hq:h<m
  ·have e0:(h:Int)+(m:Int)-(b:Int)=(E:Int):=by have:=K.out;rw[if_pos hq] at this;omega
   have C:(h:Int)=(I:Int):=by have:=J.out;rw[if_pos hq] at this;omega
   have U:Hid (_+_ - _=_/\_=_):=⟨e0,C⟩;have c4:decide ((h:Int)<(m:Int))=true:=by simp;omega
   clear e0 C;go_wp2_with fail
   go_meet
   exact⟨by rw[U.out.1],by rw[U.out.2],rfl⟩
  ·have e0:(a:Int)=(E:Int):=by have:=K.out;rw[if_neg hq] at this;omega
   have C:(m:Int)=(I:Int):=by have:=J.out;rw[if_neg hq] at this;omega
   have U:Hid (_=_/\_=_):=⟨e0,C⟩;have c4:decide ((h:Int)<(m:Int))=false:=by simp;omega
   clear e0 C;go_wp2_with fail
   go_meet
   exact⟨by rw[U.out.1],by rw[U.out.2],rfl⟩
 case rest =>
  obtain⟨rfl,rfl,rfl⟩:=hcut;go_wp2_with fail
  go_loopw [20,21] (fun x y wr=>∃(s r:Nat),x=.int .i64 s/\y=.int .i64 r/\E<=s/\s<=r/\r<=I/\Hid (E<s->0<=cP d[h+m-1-(s-1)]! d[s-1]!)/\Hid (r<I->cP d[h+m-1-r]! d[r]!<0)/\Hid (Ac w wr)) (fun x y _=>(intOf y).toNat-(intOf x).toNat)
  case atStart=>exact⟨E,I,rfl,rfl,Ad9 _,b7,Ad9 _,fun q=>by omega,fun q=>by omega,Ac.refl _⟩
  case round =>
   obtain⟨s,r,rfl,rfl,q1,q2,q3,Z,X,G⟩:=hrel;by_cases d7:s<r
   ·obtain⟨c,hc⟩:∃c,c=(s+r) / 2:=⟨_,rfl⟩;obtain⟨p,hp⟩:∃p,p=h+m-1-c:=⟨_,rfl⟩;have c0:=BC.out c (by omega) (by omega);rw[<- hp] at c0;obtain⟨x1,x2⟩:=(H0.out.fr (P:=fun _=>True) (Fr.grew G.out) trivial).grown p (by omega);obtain⟨y1,y2⟩:=(H0.out.fr (P:=fun _=>True) (Fr.grew G.out) trivial).grown c (by omega);have d0:((s:Int)+(r:Int)) / 2=(c:Int):=by omega
    have d4:(h:Int)+(m:Int)-1-(c:Int)=(p:Int):=by omega
    have bp:p<len:=by omega
    have rp:IntKind.i64.wrap (p:Int)=(p:Int):=by rw[IntKind.wrap_i64];omega
    have bc:c<len:=by omega
    have z:Hid (∀q os,Calls _ 303 #[_,_] _ fun e w'=>e=.returned (.int .i64 (cP d[p]! d[c]!))/\_):=fun q os=>O3 _ _ _ (HB.out.trans (Fr.grew (G.out.grown q os)));have a0:Hid (cP d[p]! d[c]!<0->cP d[h+m-1-c]! d[c]!<0):=by rw[hp];exact id
    have W:Hid (0<=cP d[p]! d[c]!->0<=cP d[h+m-1-(c+1-1)]! d[c+1-1]!):=by rw[hp,Nat.add_sub_cancel];exact id
    generalize cP d[p]! d[c]! = cv at z a0 W;generalize d[p]! = zp at x1 x2 z;generalize d[c]! = zc at y1 y2 z;have d5:s<=c:=by omega
    have d6:c<r:=by omega
    have HH:Hid (c=(s+r) / 2):=hc;clear hc hp;by_cases hv:cv<0
    ·have b8:decide (cv<0)=true:=by simp[hv]
     go_wp2_with fail
     go_quiet_grown (first|(go_at_call 303;refine Ae3 (z.out _ _)))
     have V:Hid (Ac w (grow (wr.drewN nq) osq)):=G.out.grown _ _;clear x1 x2 y1 y2 G z;generalize grow (wr.drewN nq) osq=W1 at V |-;clear nq osq;go_wp2_with fail
     go_roundw
     case rel=>exact⟨s,c,rfl,rfl,q1,by omega,by omega,Z,fun _=>a0.out hv,V⟩
     case measure=>have:=HH.out;simp[intOf];omega
    ·have b8:decide (cv<0)=false:=by simp[hv]
     go_wp2_with fail
     go_quiet_grown (first|(go_at_call 303;refine Ae3 (z.out _ _)))
     have V:Hid (Ac w (grow (wr.drewN nq) osq)):=G.out.grown _ _;clear x1 x2 y1 y2 G z;generalize grow (wr.drewN nq) osq=W1 at V |-;clear nq osq;go_wp2_with fail
     go_roundw
     case rel=>exact⟨c+1,r,by go_num,rfl,by omega,by omega,q3,fun _=>W.out (by omega),X,V⟩
     case measure=>have:=HH.out;simp[intOf];omega
   ·obtain rfl:s=r:=by omega
    obtain⟨t,ht⟩:∃t,t=h+m-s:=⟨_,rfl⟩;have F:Yp cP d a m b h s t:=by rw[ht];exact b6.out s q1 q3 Z.out X.out
    have f1:=F.sum;have f2:=F.s1;have f3:=F.s2;have f4:=F.t1;have f5:=F.t2;have Q:Hid (Yp cP d a m b h s t):=F;have c6:Hid (t=h+m-s):=ht;have c5:Hid (s+t=h+m):=f1;have C:(h:Int)+(m:Int)-(s:Int)=(t:Int):=by omega
    have A:Hid (Cf wr g d):=H0.out.fr (P:=fun _=>True) (Fr.grew G.out) trivial;have u:Hid (Fr (·≠g) w wr):=Fr.grew G.out;have d8:t<=h+m:=by omega
    have b5:(s<m->h<t)/\(m<t->s<h)/\(s<=h)/\(h<=t):=by omega
    have TS:Hid _:=b5;clear F ht f1 G b5;go_upto_region 39 with fail
    go_cut [24,185] from 178 (fun s24 sc wx=>s24=.int .i64 (t:Int)/\sc=.bool (decide (s<m/\m<t))/\wr=wx)
    case first =>
     rcases(show(s<m/\m<t)\/(s<m/\¬m<t)\/¬s<m from by omega) with⟨j,H⟩|⟨j,H⟩|j
     ·have o:decide ((s:Int)<(m:Int))=true:=by simp;omega
      have v:decide ((m:Int)<(t:Int))=true:=by simp;omega
      have l:Hid (decide (s<m/\m<t)=true):=decide_eq_true ⟨j,H⟩;go_wp2_with fail
      go_meet
      exact⟨rfl,by rw[l.out],rfl⟩
     ·have o:decide ((s:Int)<(m:Int))=true:=by simp;omega
      have v:decide ((m:Int)<(t:Int))=false:=by simp;omega
      have l:Hid (decide (s<m/\m<t)=false):=decide_eq_false (fun q=>H q.2);go_wp2_with fail
      go_meet
      exact⟨rfl,by rw[l.out],rfl⟩
     ·have o:decide ((s:Int)<(m:Int))=false:=by simp;omega
      have l:Hid (decide (s<m/\m<t)=false):=decide_eq_false (fun q=>j q.1);go_wp2_with fail
      go_meet
      exact⟨rfl,by rw[l.out],rfl⟩
    case rest =>
     obtain⟨rfl,rfl,rfl⟩:=hcut;go_upto_if 185 with fail
     go_cut [185] from 186 (fun _ wx=>∃o:Array (PH n g W0),Hid (Fp d o s m t)/\Hid (Cf wx g o)/\Hid (Fr (·≠g) w wx))
     case first =>
      by_cases j:s<m/\m<t
      ·have l:Hid _:=decide_eq_true j;have z:Hid (Calls _ 353 #[_,_,_,_,_] wr _):=gW wr g len cap s m t (.func (.func 303) #[] #[]) d hd A.out hl j.1 j.2 (by omega);rw[l.out];clear j;go_wp2_with fail
       refine z.out.mono ?_;rintro x w1 ⟨rfl,o,a9,a4,O⟩;have R1:Hid (Cf w1 g o):=a9;have F1:Hid _:=u.out.trans a4;have M:Hid (Fp d o s m t):=O;clear a9 a4 O;go_wp2_with fail
       go_meet
       exact⟨o,M,R1,F1⟩
      ·have l:Hid _:=decide_eq_false j;have M:Hid (Fp d d s m t):=by
        rcases(show s=m\/m=t from by omega) with q|q
        ·subst q;exact Ac3 d s t f4 (by omega)
        ·subst q;exact Ac5 d s m f3 (by omega)
       rw[l.out];clear j;go_wp2_with fail
       go_meet
       exact⟨d,M,A,u⟩
     case rest =>
      clear A u;obtain⟨o,M,A,u⟩:=hcut;generalize wc=W1 at A u |-;have T:Hid _:=mR R.out S.out Q.out M.out;have a3:o.size=len:=M.out.size.trans hd;go_upto_region 41 with fail
      go_cut [199] from 192 (fun sc wx=>sc=.bool (decide (a<s/\s<h))/\W1=wx)
      case first =>
       rcases(show(a<s/\s<h)\/(a<s/\¬s<h)\/¬a<s from by omega) with⟨j,H⟩|⟨j,H⟩|j
       ·have o:decide ((a:Int)<(s:Int))=true:=by simp;omega
        have v:decide ((s:Int)<(h:Int))=true:=by simp;omega
        have l:Hid (decide (a<s/\s<h)=true):=decide_eq_true ⟨j,H⟩;go_wp2_with fail
        go_meet
        exact⟨by rw[l.out],rfl⟩
       ·have o:decide ((a:Int)<(s:Int))=true:=by simp;omega
        have v:decide ((s:Int)<(h:Int))=false:=by simp;omega
        have l:Hid (decide (a<s/\s<h)=false):=decide_eq_false (fun q=>H q.2);go_wp2_with fail
        go_meet
        exact⟨by rw[l.out],rfl⟩
       ·have o:decide ((a:Int)<(s:Int))=false:=by simp;omega
        have l:Hid (decide (a<s/\s<h)=false):=decide_eq_false (fun q=>j q.1);go_wp2_with fail
        go_meet
        exact⟨by rw[l.out],rfl⟩
      case rest =>
       obtain⟨rfl,rfl⟩:=hcut;go_upto_if 199 with fail
       go_cut [199] from 200 (fun _ wx=>∃v:Array (PH n g W0),Hid (Stb cP a h o v/\Srt cP v a h)/\Hid (Cf wx g v)/\Hid (Fr (·≠g) w wx))
       case first =>
        by_cases j:a<s/\s<h
        ·have l:Hid _:=decide_eq_true j;have z:Hid (Calls _ 341 #[_,_,_,_,_] W1 _):=Y.out W1 a s h o (by omega) (HB.out.trans u.out) a3 A.out j.1 j.2 (by omega) T.out.1 T.out.2.1;rw[l.out];clear j;go_wp2_with fail
         refine z.out.mono ?_;rintro x w1 ⟨rfl,v,hs2,a7,b0,a5⟩;have R2:Hid (Cf w1 g v):=b0;have F2:Hid _:=u.out.trans a5;have B:Hid (_/\_):=⟨hs2,a7⟩;clear b0 a5 hs2 a7;go_wp2_with fail
         go_meet
         exact⟨v,B,R2,F2⟩
        ·have l:Hid _:=decide_eq_false j;have B:Hid (Stb cP a h o o/\_):=⟨Stb.refl _ _ _ _,Ad7 T.out.1 T.out.2.1 (by have:=TS.out.2.2.1;omega)⟩;rw[l.out];clear j;go_wp2_with fail
         go_meet
         exact⟨o,B,A,u⟩
       case rest =>
        clear A u;obtain⟨v,B,A,u⟩:=hcut;generalize wc=W2 at A u |-;have b9:=B.out.1.size.trans a3;have P2:Hid (_/\_):=⟨T.out.2.2.1.keep fun i q1 _=>B.out.1.out i (.inr q1),T.out.2.2.2.keep fun i q1 _=>B.out.1.out i (.inr (by have:=TS.out.2.2.2;omega))⟩;by_cases j:h<t/\t<b
        ·have C:decide ((h:Int)<(t:Int))=true:=by simp;omega
         have e2:decide ((t:Int)<(b:Int))=true:=by simp;omega
         have z:Hid (Calls _ 341 #[_,_,_,_,_] W2 _):=Y.out W2 h t b v (by omega) (HB.out.trans u.out) b9 A.out j.1 j.2 h3 P2.out.1 P2.out.2;obtain⟨H,c3⟩:=j;go_wp2_with fail
         refine z.out.mono ?_;rintro x w1 ⟨rfl,d3,b4,a8,b3,a6⟩;have R3:Hid (Cf w1 g d3):=b3;have F3:Hid _:=u.out.trans a6;have k:Hid _:=Qq (N2 n g W0) R.out S.out Q.out M.out B.out.1 B.out.2 b4 a8;clear b3 a6 b4 a8;go_wp2_with fail
         go_end0
         exact⟨rfl,d3,k.out.1,k.out.2,R3.out,F3.out⟩
        ·have k:Hid _:=Qq (N2 n g W0) R.out S.out Q.out M.out B.out.1 B.out.2 (Stb.refl _ _ _ _) (Ad7 P2.out.1 P2.out.2 (by have:=TS.out.2.2.2;omega));rcases(show(h<t/\¬t<b)\/¬h<t from by omega) with⟨H,c3⟩|H
         ·have C:decide ((h:Int)<(t:Int))=true:=by simp;omega
          have e2:decide ((t:Int)<(b:Int))=false:=by simp;omega
          clear j;go_wp2_with fail
          go_end0
          exact⟨rfl,v,k.out.1,k.out.2,A.out,u.out⟩
         ·have C:decide ((h:Int)<(t:Int))=false:=by simp;omega
          clear j;go_wp2_with fail
          go_end0
          exact⟨rfl,v,k.out.1,k.out.2,A.out,u.out⟩
theorem Qv (len cap:Nat)(hl:len<=4294967296):∀f,qU n g W0 len cap f
 | 0=>fun w a m b d hf _ _ _ h1 h2 _ _ _=>by omega
 | f+1=>fun w a m b d hf hW hd hrow h1 h2 h3 hs1 hs2=>by
  by_cases q1:a+1=m
  ·subst q1;exact mX w len cap a b d hW hd hrow hl h2 h3 hs2
  ·by_cases q2:m+1=b
   ·subst q2;exact qT w len cap a m d hW hd hrow hl (by omega) h3 hs1
   ·exact vG len cap f hl (Qv len cap hl f) w a m b d hf hW hd hrow (by omega) (by omega) h3 hs1 hs2
end
section
open Go.RowKit Go.Sort Go.Lib
section
variable {n g:Nat} {W0:World} [Inhabited (PH n g W0)]
theorem Cf.holds {w:World}{d:Array (PH n g W0)}(h:Cf w g d):HoldsK Np 2 w g 0 d:=by
 intro j f;rw[size_flatK] at f;rw[get_flatK _ _ _ _ f,Nat.zero_add];obtain⟨a,b,c,e⟩:=h.2 (j / 2) (by omega);rcases Nat.mod_two_eq_zero_or_one j with q|q
 ·rw[q,show j=j / 2*2 from by omega,show j / 2*2 / 2=j / 2 from by omega];exact⟨a,c⟩
 ·rw[q,show j=j / 2*2+1 from by omega,show(j / 2*2+1) / 2=j / 2 from by omega];exact⟨b,e⟩
theorem Cf.of {w:World}{d:Array (PH n g W0)}(h:HoldsK Np 2 w g 0 d)(hg:g<w.heap.size):Cf w g d:=by
 refine⟨hg,fun i hi=>?_⟩;have a:=h (i*2) (by rw[size_flatK];omega);have b:=h (i*2+1) (by rw[size_flatK];omega);rw[get_flatK _ _ _ _ (by omega),Nat.zero_add,show i*2 / 2=i from by omega,show i*2 % 2=0 from by omega] at a;rw[get_flatK _ _ _ _ (by omega),Nat.zero_add,show(i*2+1) / 2=i from by omega,show(i*2+1) % 2=1 from by omega] at b;exact⟨a.1,b.1,a.2,b.2⟩
theorem Mj (w:World)(m:Nat)(dk:Array (PH n g W0))(os:Array Obj):Fr (·≠g) w (sortWorldK Np 2 w g 0 m dk os):=by
 refine⟨rfl,rfl,rfl,?_,fun k hk hkg=>?_⟩
 ·show w.heap.size<=(grow (putRowK Np 2 (Sort.ahead w m) g 0 dk) os).heap.size;simp[putRowK,putRow,mapBlock,Sort.ahead]
 ·show(grow (putRowK Np 2 (Sort.ahead w m) g 0 dk) os).heap[k]?=_;rw[heap_grow_old _ _ (by simpa [putRowK,putRow,mapBlock,Sort.ahead] using hk)];simp only[putRowK,putRow,mapBlock,Sort.ahead,Array.getElem?_modify];rw[if_neg (fun e=>hkg e.symm)]
theorem vH (w:World)(len cap a b:Nat)(d:Array (PH n g W0))(hW:Fr (·≠g) W0 w)(hd:d.size=len)(hrow:Cf w g d)(hl:len<=4294967296)(h1:a<=b)(h2:b<=len) :
  Calls prog 340 #[.slice (some ⟨g,0,none⟩) len cap,.int .i64 a,.int .i64 b,.func (.func 303) #[] #[]] w fun e w'=>e=.returned (.tuple #[])/\∃d':Array (PH n g W0),Stb cP a b d d'/\Srt cP d' a b/\Cf w' g d'/\Fr (·≠g) w w':=by
 have p:∀args w,(callFunc 303 args).run _ w=_:=enters_of func303 (by kernel_rfl) rfl;have f:CmpLays prog 303 #[] Np 2 (cP (n:=n) (γ:=g) (W:=W0)) g 0 d.size w:=by
  intro m h o _ a b;exact O3 _ a b (hW.trans (Mj w m o h))
 have c:=AnyQ.insertionSortCmpFunc Tryz.insP 2 (fun w=>by kernel_rfl) (fun w=>by kernel_rfl) Np (fun _=>rfl) (fun x v hv=>by
   simp only[Np,List.mem_cons,List.not_mem_nil,or_false] at hv;rcases hv with rfl|rfl
   ·exact x.k.one
   ·exact x.u.one) cP 303 #[] g 0 cap a b d w p f hrow.holds hrow.1 h1 (by omega) (by omega)
 change Calls prog 340 _ _ _ at c;rw[hd] at c;refine c.mono ?_;rintro e w' ⟨rfl,q,h,rfl⟩;have l:=Yr (N2 n g W0) a b _ (a+1) d (Ad9 _) (by omega);have r:=(insertionSort_holds (lt:=ltOf (cP (n:=n) (γ:=g) (W:=W0))) (gT (N2 n g W0)) d a b h1 (by omega)).2;refine⟨rfl,insertionSort (ltOf cP) d a b,l,fun i j q1 q2 q3=>?_,?_,Mj _ _ _ _⟩
 ·have:=r i j q1 q2 q3;simp only[ltOf,decide_eq_false_iff_not] at this;have:=(N2 n g W0).anti (insertionSort (ltOf cP) d a b)[i]! (insertionSort (ltOf cP) d a b)[j]!;omega
 ·exact Cf.of (holdsK_sortWorldK_c Np 2 w g 0 d _ q h hrow.holds hrow.1 l.size) (Ad8 hrow.1 (Mj w q _ h).size)
theorem gX (w:World)(len cap:Nat)(d:Array (PH n g W0))(hW:Fr (·≠g) W0 w)(hd:d.size=len)(hrow:Cf w g d)(hl:len<=4294967296) :
  Calls prog 324 #[.slice (some ⟨g,0,none⟩) len cap,.int .i64 len,.func (.func 303) #[] #[]] w fun e w'=>e=.returned (.tuple #[])/\∃d':Array (PH n g W0),Stb cP 0 len d d'/\Srt cP d' 0 len/\Cf w' g d'/\Fr (·≠g) w w':=by
 have Z:Hid (Cf w g d):=hrow;have U:Hid (∀(W:World)(a b:Nat)(e:Array (PH n g W0)),_->e.size=len->_->a<=b->b<=len->_):=fun W a b e hf he hr q1 q2=>vH W len cap a b e (hW.trans hf) he hr hl q1 q2;have V:Hid (∀(W:World)(a m b:Nat)(e:Array (PH n g W0)),_->e.size=len->_->a<m->m<b->b<=len->_->_->_):=fun W a m b e hf he hr q1 q2 q3 q4 q5=>Qv len cap hl (b-a) W a m b e (Ad9 _) (hW.trans hf) he hr q1 q2 q3 q4 q5;clear hrow hW;go_enter func324,ntmps324
 go_wp2_with fail
 go_loopw [7,8] (fun s t wr=>∃(q:Nat)(e:Array (PH n g W0)),s=.int .i64 ((q*20:Nat):Int)/\t=.int .i64 ((q*20+20:Nat):Int)/\q*20<=len/\e.size=len/\Hid (Ki cP e 20 len (q*20))/\Hid (Stb cP 0 len d e)/\Hid (Cf wr g e)/\Hid (Fr (·≠g) w wr)) (fun s _ _=>len+20-(intOf s).toNat)
 case atStart=>exact⟨0,d,rfl,rfl,by omega,hd,Ac9 d 20 len,Stb.refl _ _ _ _,Z,Fr.refl _ _⟩
 case round =>
  obtain⟨q,e,rfl,rfl,T,he,H,f,y,p⟩:=hrel;by_cases D:q*20+20<=len
  ·have v:Hid (Calls _ 340 #[_,_,_,_] wr _):=U.out wr (q*20) _ e p.out he y.out (by omega) D;have R:=Nat.min_eq_left D;have z:Hid _:=R;clear R;obtain⟨A,C⟩:∃A,A=q*20:=⟨_,rfl⟩;rw[<- C] at v;have l:Hid (A=q*20):=C;rw[<- C] at D T |-;clear C;rw[show((A+20:Nat):Int)=(A:Int)+20 from by omega] at v |-;go_wp2_with fail
   refine v.out.mono ?_;rintro x M ⟨rfl,o,c,j,k,i⟩;have F:Hid (Ki cP o 20 len _):=H.out.step (by rw[z.out,<- l.out];exact c) (by rw[z.out,<- l.out];exact j);have K:Hid _:=f.out.trans (c.mono (by omega) (by omega));have J:Hid (Cf M g o):=k;have G:Hid _:=p.out.trans i;have r:o.size=len:=c.size.trans he;clear c j k i v H f y p;go_wp2_with fail
   go_roundw
   case rel=>exact⟨q+1,o,by rw[show((q+1)*20:Nat)=A+20 from by have:=l.out;omega];go_num,by rw[show((q+1)*20+20:Nat)=A+20+20 from by have:=l.out;omega];go_num,by have:=l.out;omega,r,by rw[show(q+1)*20=q*20+20 from by omega];exact F,K,J,G⟩
   case measure=>simp[intOf];omega
  ·have v:Hid (Calls _ 340 #[_,_,_,_] wr _):=U.out wr _ len e p.out he y.out T (Ad9 _);have R:min (q*20+20) len=len:=Nat.min_eq_right (by omega);have z:Hid _:=R;clear R;obtain⟨A,C⟩:∃A,A=q*20:=⟨_,rfl⟩;rw[<- C] at v;have l:Hid (A=q*20):=C;rw[<- C] at D T |-;clear C;rw[show((A+20:Nat):Int)=(A:Int)+20 from by omega];go_wp2_with fail
   refine v.out.mono ?_;rintro x M ⟨rfl,o,c,j,k,i⟩;have F:Hid (Ki cP o 20 len len):=(H.out.step (by rw[z.out,<- l.out];exact c) (by rw[z.out,<- l.out];exact j)).mono (by have:=l.out;omega);have K:Hid _:=f.out.trans (c.mono (by omega) (by omega));have J:Hid (Cf M g o):=k;have G:Hid _:=p.out.trans i;have r:o.size=len:=c.size.trans he;clear c j k i v H f y p z l;go_wp2_with fail
   go_loopw [6,7,8,9] (fun s _ _ _ wr=>∃(h:Nat)(e:Array (PH n g W0)),s=.int .i64 h/\0<h/\h<=2*len+20/\e.size=len/\Hid (Ki cP e h len len)/\Hid (Stb cP 0 len d e)/\Hid (Cf wr g e)/\Hid (Fr (·≠g) w wr)) (fun s _ _ _ _=>2*len+40-(intOf s).toNat)
   case atStart=>exact⟨20,o,rfl,by omega,by omega,r,F,K,J,G⟩
   case round =>
    clear F K J G r o;obtain⟨h,e,rfl,L,a0,he,H,f,y,p⟩:=hrel;by_cases Y:h<len
    ·have P:Hid _:=Ry.start H.out;have X:Hid (0=0*(2*h)):=by show 0=_;omega
     go_wp2_with fail
     go_loopw [7,8] (fun s t wr=>∃(q A:Nat)(e:Array (PH n g W0)),Hid (A=q*(2*h))/\s=.int .i64 (A:Int)/\t=.int .i64 ((A:Int)+2*(h:Int))/\A<=len/\e.size=len/\Hid (Ry cP e h len q)/\Hid (Stb cP 0 len d e)/\Hid (Cf wr g e)/\Hid (Fr (·≠g) w wr)) (fun s _ _=>len+1-(intOf s).toNat)
     case atStart=>exact⟨0,0,e,X,rfl,by simp,by omega,he,P,f,y,p⟩
     case round =>
      clear P X f y p H he e;obtain⟨q,A,e,B,rfl,rfl,C,he,I,f,y,p⟩:=hrel;have N:Hid ((q+1)*(2*h)=A+2*h):=by show _=_;rw[B.out,Nat.add_mul,Nat.one_mul]
      by_cases u:A+2*h<=len
      ·have E:=I.out.parts (by rw[<- B.out];omega);rw[<- B.out,Nat.min_eq_left u] at E;have v:Hid (Calls _ 341 #[_,_,_,_,_] wr _):=V.out wr A _ _ e p.out he y.out (by omega) (by omega) u E.1 E.2;rw[show((A+h:Nat):Int)=(A:Int)+(h:Int) from by omega,show((A+2*h:Nat):Int)=(A:Int)+2*(h:Int) from by omega] at v;clear E;have l3:(A:Int)+2*(h:Int)<=(len:Int):=by omega
       go_wp2_with fail
       refine v.out.mono ?_;rintro x M ⟨rfl,o,c,j,k,i⟩;have S:Hid _:=I.out.step L (by rw[<- B.out,Nat.min_eq_left u];exact c) (by rw[<- B.out,Nat.min_eq_left u];exact j);have K:Hid _:=f.out.trans (c.mono (by omega) (by omega));have J:Hid (Cf M g o):=k;have G:Hid _:=p.out.trans i;have r:o.size=len:=c.size.trans he;clear c j k i v I f y p;go_wp2_with fail
       go_roundw
       case rel=>exact⟨q+1,A+2*h,o,N.out.symm,by go_num,by go_num,u,r,S,K,J,G⟩
       case measure=>simp[intOf];omega
      ·have l3:¬(A:Int)+2*(h:Int)<=(len:Int):=by omega
       by_cases Q:A+h<len
       ·have E:=I.out.parts (by rw[<- B.out];omega);rw[<- B.out,Nat.min_eq_right (by omega)] at E;have v:Hid (Calls _ 341 #[_,_,_,_,_] wr _):=V.out wr A _ len e p.out he y.out (by omega) Q (Ad9 _) E.1 E.2;rw[show((A+h:Nat):Int)=(A:Int)+(h:Int) from by omega] at v;clear E;have l4:(A:Int)+(h:Int)<(len:Int):=by omega
        go_wp2_with fail
        refine v.out.mono ?_;rintro x M ⟨rfl,o,c,j,k,i⟩;have S:Hid _:=I.out.step L (by rw[<- B.out,Nat.min_eq_right (by omega)];exact c) (by rw[<- B.out,Nat.min_eq_right (by omega)];exact j);have F:Hid (Ki cP o _ len len):=S.out.all (by rw[N.out];omega);have K:Hid _:=f.out.trans (c.mono (by omega) (by omega));have J:Hid (Cf M g o):=k;have G:Hid _:=p.out.trans i;have r:o.size=len:=c.size.trans he;clear c j k i v I f y p S;go_wp2_with fail
        go_roundw
        case rel=>exact⟨2*h,o,by go_num,by omega,by omega,r,F,K,J,G⟩
        case measure=>simp[intOf];omega
       ·have F:Hid (Ki cP e _ len len):=I.out.finish L (by rw[<- B.out];omega);have l4:¬(A:Int)+(h:Int)<(len:Int):=by omega
        clear I;go_wp2_with fail
        go_roundw
        case rel=>exact⟨2*h,e,by go_num,by omega,by omega,he,F,f,y,p⟩
        case measure=>simp[intOf];omega
    ·have O:Hid (Srt cP e 0 len):=H.out.whole (by omega);go_wp2_with fail
     go_end0
     exact⟨rfl,e,f.out,O.out,y.out,p.out⟩
theorem Vv (w:World)(len cap:Nat)(d:Array (PH n g W0))(hW:Fr (·≠g) W0 w)(hd:d.size=len)(hrow:Cf w g d)(hl:len<=4294967296) :
  Calls prog 302 #[.slice (some ⟨g,0,none⟩) len cap,.func (.func 303) #[] #[]] w fun e w'=>e=.returned (.tuple #[])/\∃d':Array (PH n g W0),Stb cP 0 len d d'/\Srt cP d' 0 len/\Cf w' g d'/\Fr (·≠g) w w':=by
 have b:Hid (Calls _ _ _ _ _):=gX w len cap d hW hd hrow hl;clear hW hrow;go_enter func302,ntmps302
 go_wp2_with fail
 refine b.out.mono ?_;rintro x f ⟨rfl,a⟩;have c:Hid _:=a;clear a;go_wp2_with fail
 go_end0
 exact⟨rfl,c.out⟩
end
end
end Go.Proofs.YtdpeliifdlhhkaaGreatDoor.Sx
