/- The reference: its reader: numbers. -/
import Derived.Test.YtdpeliifdlhhkaaGreatDoorM15
import Derived.Test.YtdpeliifdlhhkaaGreatDoorM10
import Derived.Test.YtdpeliifdlhhkaaGreatDoorM05
namespace Go.Proofs.YtdpeliifdlhhkaaGreatDoor.Sx
open Go.RowKit Go.Sort Tryz
set_option maxRecDepth 100000
set_option maxHeartbeats 4000000
def Se (l:List UInt8)(mi:Bool):Bool:=!decide ((Ap l 0).toNat=48)||(decide (l.length=1)&&!mi)
def Km (l:List UInt8)(mi:Bool):Bool:=Se l mi&&l.all Ay
def nT (l:List UInt8)(mi:Bool):Value :=
 if Km l mi&&!(decide (9223372036854775808<E7 0 l)||(decide (E7 0 l=9223372036854775808)&&!mi)) then .agg #[.int .i64 2,.int .i64 (if mi then -(E7 0 l:Int) else E7 0 l),.string ⟨#[]⟩,.slice none 0 0,.slice none 0 0] else Bk
def nU (l:List UInt8)(mi:Bool)(s:RSt)(i en:Nat):RSt :=
 if Km l mi then(if decide (9223372036854775808<E7 0 l)||(decide (E7 0 l=9223372036854775808)&&!mi) then Hg s 5 i else { s with at':=en }) else Hg s 1 i
theorem D8 {w W:World}{br:Nat}{t:ByteArray}{s:RSt}{v0 v1 v2 v3 v4:Value}(x2:W.heap[w.heap.size]?=some (.cells #[v0,v1,v2,v3,v4] 30 (0,0)))(R:RR W br t s)(hb:br<w.heap.size)(F:Fr (·≠br) w W)(c0 c1 c2 c3 c4:Value) :
  (Ao W w.heap.size 0 c0 c1 c2 c3 c4).heap[w.heap.size]?=some (.cells #[c0,c1,c2,c3,c4] 30 (0,0))/\RR (Ao W w.heap.size 0 c0 c1 c2 c3 c4) br t s/\Fr (·≠br) w (Ao W w.heap.size 0 c0 c1 c2 c3 c4):=by
 refine⟨Bc x2 c0 c1 c2 c3 c4,R.fr ((Cz (P:=fun k=>k≠w.heap.size) (Fr.refl _ W) (by simp) _ _ _ _ _ _).block br (Aa R) (by omega)),?_⟩;have a:Fr (fun k=>k<w.heap.size/\k≠br) w (Ao W w.heap.size 0 c0 c1 c2 c3 c4):=Cz (F.mono (fun _ h=>h.2)) (by omega) _ _ _ _ _ _;exact⟨a.os,a.tape,a.output,a.size,fun i hi hp=>a.block i hi ⟨hi,hp⟩⟩
theorem dO (w:World)(br:Nat)(t x:ByteArray)(mi:Bool)(s:RSt)(i en:Nat)(h:RR w br t s)(hx:1<=x.size)(hx2:x.size<=4000) :
  Calls prog 125 #[.pointer (some ⟨br,0,none⟩),.string x,.bool mi,.int .i64 (i:Int),.int .i64 (en:Int)] w fun e w'=>e=.returned (nT x.data.toList mi)/\RR w' br t (nU x.data.toList mi s i en)/\Fr (·≠br) w w':=by
 have hl:x.data.toList.length=x.size:=by simp
 obtain⟨Z,hZ⟩:∃Z,Se x.data.toList mi=Z:=⟨_,rfl⟩;have a5:_=x[0]:=Ib x 0 _;have HZ:Hid ((!decide ((x[0].toNat)=48)||(decide (x.size=1)&&!mi))=Z):=by
  show _=_;rw[<- hZ];unfold Se;rw[a5,hl]
 obtain⟨A,hA⟩:∃A,x.data.toList.all Ay=A:=⟨_,rfl⟩;have X:Hid _:=hA;have a0:Km x.data.toList mi=(Z&&A):=by unfold Km;rw[hZ,hA]
 have z:Hid (nT x.data.toList mi=if (Z&&A)&&!(decide (9223372036854775808<E7 0 x.data.toList)||(decide (E7 0 x.data.toList=9223372036854775808)&&!mi)) then .agg #[.int .i64 2,.int .i64 (if mi then -(E7 0 x.data.toList:Int) else E7 0 x.data.toList),.string ⟨#[]⟩,.slice none 0 0,.slice none 0 0] else Bk):=by
  show _=_;unfold nT;rw[a0]
 have a:Hid (nU x.data.toList mi s i en=if Z&&A then(if decide (9223372036854775808<E7 0 x.data.toList)||(decide (E7 0 x.data.toList=9223372036854775808)&&!mi) then Hg s 5 i else { s with at':=en }) else Hg s 1 i):=by
  show _=_;unfold nU;rw[a0]
 generalize nT x.data.toList mi=rv at z |-;generalize nU _ mi s i en=rs at a |-;clear hZ a5 hA a0;have a2:Hid _:=Qd;have C:=Aa h;have B:Hid ((w.alloc _).heap[w.heap.size]?=some (.cells #[.int .i64 0,.int .i64 0,.string ⟨#[]⟩,.slice none 0 0,.slice none 0 0] 30 (0,0))):=Af rfl;have D:Hid (Ac w (w.alloc (.cells #[.int .i64 0,.int .i64 0,.string ⟨#[]⟩,.slice none 0 0,.slice none 0 0] 30))):=(Ac.refl w).alloc _;have q:Hid (RR _ br t s):=h.fr (D.out.below.block br C);clear h;have mo:=follows;go_enter func125,ntmps125
 go_upto_region 1 with fail
 generalize w.alloc _=W0 at B D q |-;go_cut [11] from 16 (fun s11 wx=>s11=.bool Z/\W0=wx)
 case first =>
  rcases(show((x[0].toNat:Int)=48/\x.size=1)\/((x[0].toNat:Int)=48/\x.size≠1)\/(x[0].toNat:Int)≠48 from by omega) with⟨K,c2⟩|⟨K,c2⟩|K
  ·have k1:((x[0].toNat:Int)==48)=true:=by simp[K]
   have k2:((x.size:Int)==1)=true:=by simp[c2]
   have HE:Hid ((!mi)=Z):=by show _=_;rw[<- HZ.out];simp[c2,show x[0].toNat=48 by omega]
   go_wp2_with fail
   all_goals go_meet
   all_goals exact⟨by rw[<- HE.out],rfl⟩
  ·have k1:((x[0].toNat:Int)==48)=true:=by simp[K]
   have k2:((x.size:Int)==1)=false:=by simp;omega
   have HE:Hid (false=Z):=by show _=_;rw[<- HZ.out];simp[c2,show x[0].toNat=48 by omega]
   go_wp2_with fail
   all_goals go_meet
   all_goals exact⟨by rw[<- HE.out],rfl⟩
  ·have k1:((x[0].toNat:Int)==48)=false:=by simp[K]
   have HE:Hid (true=Z):=by show _=_;rw[<- HZ.out];simp[show ¬x[0].toNat=48 by omega]
   go_wp2_with fail
   all_goals go_meet
   all_goals exact⟨by rw[<- HE.out],rfl⟩
 case rest =>
  obtain⟨rfl,rfl⟩:=hcut;go_wp2_with fail
  go_loopw [11,12] (fun o k' wr=>∃k:Nat,k<=x.size/\o=.bool (Z&&(x.data.toList.take k).all Ay)/\k'=.int .i64 k/\Hid (wr=W0)) (fun _ k' _=>x.size-(intOf k').toNat)
  case atStart=>exact⟨0,Ae1 _,by simp,rfl,rfl⟩
  case round =>
   obtain⟨k,hk,rfl,rfl,HQ⟩:=hrel;by_cases b6:k<x.size
   ·have a7:(x.data.toList.take (k+1)).all Ay=((x.data.toList.take k).all Ay&&Ay x[k]):=by
     rw[List.take_add_one,List.getElem?_eq_getElem (by omega)];simp;rfl
    have a3:Hid _:=a2.out x[k];have Y:Hid ((Z&&(x.data.toList.take (k+1)).all Ay)=((Z&&(x.data.toList.take k).all Ay)&&Ay x[k])):=by show _=_;rw[a7,Bool.and_assoc]
    clear a7;generalize Ay x[k]=dd at a3 Y;generalize (Z&&(x.data.toList.take k).all Ay)=bb at Y |-;cases bb<;>cases dd
    all_goals go_wp2_with (go_at_call 124;refine(a3.out _).mono ?_;rintro e w' ⟨rfl,rfl⟩)
    all_goals go_roundw
    all_goals first|exact⟨k+1,by omega,by rw[Y.out];rfl,by go_num,HQ⟩|(simp[intOf];omega)
   ·have b5:k=x.size:=by omega
    subst k;have ha:(Z&&(x.data.toList.take x.size).all Ay)=(Z&&A):=by rw[<- hl,List.take_length,X.out]
    rw[ha];clear ha;have a8:=HQ.out;subst a8;clear HQ HZ a2;cases a1:Z&&A with
    | false =>
     rw[a1] at z a;have f:Hid (rv=Bk):=z.out;have d:Hid (rs=Hg s 1 i):=a.out;clear z a;have u:Hid (Calls _ 29 #[_,.int .i64 (1:Int),_] wr _):=D7 wr br t s 1 i q.out;go_wp2_with fail
     refine u.out.mono ?_;rintro e' p ⟨rfl,U,L⟩;have c:Hid _:=(L.block w.heap.size (Aa B.out) (by omega)).trans B.out;have J:Hid (RR p br t (Hg s 1 i)):=U;have H:Hid _:=(Fr.grew D.out).trans L;clear U L u B q D;obtain⟨g,j,l,m,n⟩:=Ah c.out;obtain⟨O,P,Q,R,S⟩:=Ax c.out;have z2:=Aa c.out;go_wp2_with fail
     change bodyPost _ _ _ _ _ (Ao p _ 0 _ _ _ _ _);obtain⟨E,y,r⟩:=D8 c.out J.out C H.out (.int .i64 0) (.int .i64 0) (.string ⟨#[]⟩) (.slice none 0 0) (.slice none 0 0);clear g j l m n O P Q R S;generalize Ao p _ 0 _ _ _ _ _=WZ at E y r |-;obtain⟨g,j,l,m,n⟩:=Ah E;rw[f.out,d.out];exact Ae2 (by simp[results,results125,go_sem,g,j,l,m,n,Bk]) rfl ⟨rfl,y,r⟩
    | true =>
     rw[a1] at z a;have hA:A=true:=by revert a1;cases Z<;>cases A<;>simp
     have b:Hid (Calls _ 177 #[_] wr _):=rN x wr (by omega) (by
      have:=X.out;rw[hA,List.all_eq_true] at this;exact this)
     generalize E7 0 x.data.toList=N at z a b;clear hA X;rcases(show 9223372036854775808<N\/(N=9223372036854775808/\mi=false)\/(N=9223372036854775808/\mi=true)\/(N<9223372036854775808/\mi=true)\/(N<9223372036854775808/\mi=false) from by cases mi<;>simp<;>omega) with V|⟨V,rfl⟩|⟨V,rfl⟩|⟨V,rfl⟩|⟨V,rfl⟩
     ·rw[if_neg (by omega)] at b;have f:Hid (rv=Bk):=by show _=_;rw[z.out];simp[V]
      have d:Hid (rs=Hg s 5 i):=by show _=_;rw[a.out];simp[V]
      clear z a;go_wp2_with fail
      refine b.out.mono ?_;rintro e' w' ⟨rfl,rfl⟩;clear b;have u:Hid (Calls _ 29 #[_,.int .i64 (5:Int),_] w' _):=D7 w' br t s 5 i q.out;go_wp2_with fail
      refine u.out.mono ?_;rintro e' p ⟨rfl,U,L⟩;have c:Hid _:=(L.block w.heap.size (Aa B.out) (by omega)).trans B.out;have J:Hid (RR p br t (Hg s 5 i)):=U;have H:Hid _:=(Fr.grew D.out).trans L;clear U L u B q D;obtain⟨g,j,l,m,n⟩:=Ah c.out;obtain⟨O,P,Q,R,S⟩:=Ax c.out;have z2:=Aa c.out;go_wp2_with fail
      change bodyPost _ _ _ _ _ (Ao p _ 0 _ _ _ _ _);obtain⟨E,y,r⟩:=D8 c.out J.out C H.out (.int .i64 0) (.int .i64 0) (.string ⟨#[]⟩) (.slice none 0 0) (.slice none 0 0);clear g j l m n O P Q R S;generalize Ao p _ 0 _ _ _ _ _=WZ at E y r |-;obtain⟨g,j,l,m,n⟩:=Ah E;rw[f.out,d.out];exact Ae2 (by simp[results,results125,go_sem,g,j,l,m,n,Bk]) rfl ⟨rfl,y,r⟩
     ·subst V;rw[if_pos (by omega)] at b;have f:Hid (rv=Bk):=by show _=_;rw[z.out];simp
      have d:Hid (rs=Hg s 5 i):=by show _=_;rw[a.out];simp
      clear z a;go_wp2_with fail
      refine b.out.mono ?_;rintro e' w' ⟨rfl,rfl⟩;clear b;have u:Hid (Calls _ 29 #[_,.int .i64 (5:Int),_] w' _):=D7 w' br t s 5 i q.out;go_wp2_with fail
      refine u.out.mono ?_;rintro e' p ⟨rfl,U,L⟩;have c:Hid _:=(L.block w.heap.size (Aa B.out) (by omega)).trans B.out;have J:Hid (RR p br t (Hg s 5 i)):=U;have H:Hid _:=(Fr.grew D.out).trans L;clear U L u B q D;obtain⟨g,j,l,m,n⟩:=Ah c.out;obtain⟨O,P,Q,R,S⟩:=Ax c.out;have z2:=Aa c.out;go_wp2_with fail
      change bodyPost _ _ _ _ _ (Ao p _ 0 _ _ _ _ _);obtain⟨E,y,r⟩:=D8 c.out J.out C H.out (.int .i64 0) (.int .i64 0) (.string ⟨#[]⟩) (.slice none 0 0) (.slice none 0 0);clear g j l m n O P Q R S;generalize Ao p _ 0 _ _ _ _ _=WZ at E y r |-;obtain⟨g,j,l,m,n⟩:=Ah E;rw[f.out,d.out];exact Ae2 (by simp[results,results125,go_sem,g,j,l,m,n,Bk]) rfl ⟨rfl,y,r⟩
     ·subst V;have f:Hid (rv=.agg #[.int .i64 2,.int .i64 (-9223372036854775808),.string ⟨#[]⟩,.slice none 0 0,.slice none 0 0]):=by show _=_;rw[z.out];simp
      have d:Hid (rs={ s with at':=en }):=by show _=_;rw[a.out];simp
      clear z a;have e3:wrap64 (IntKind.u64.wrap (-9223372036854775808))=-9223372036854775808:=by decide +kernel
      have v:Hid _:=fun W=>Gq (-9223372036854775808) W;rw[if_pos (by omega)] at b;go_wp2_with fail
      refine b.out.mono ?_;rintro e' w' ⟨rfl,rfl⟩;clear b;have K:=Ab q.out 1;have f1:=Ad q.out 1;have a6:=Aa q.out;have F:Hid (RR (w'.setCell ⟨br,1,none⟩ (.int .i64 (en:Int))) br t { s with at':=en }):=by
       have:=Ai q.out 1 (.int .i64 (en:Int));simpa [RR,Hid] using this
      have I:Hid (Fr (·≠br) w (w'.setCell ⟨br,1,none⟩ (.int .i64 (en:Int)))):=(Fr.grew D.out).set (by simp) _;have T:Hid ((w'.setCell ⟨br,1,none⟩ (.int .i64 (en:Int))).heap[_]?=_):=(Below.heap_setCell _ _ _ _ (by simp;omega)).trans B.out;clear B q D;go_wp2_with fail
      generalize w'.setCell _ _=W3 at F I T |-;refine(v.out W3).mono ?_;rintro a4 p ⟨rfl,G⟩;have c:Hid _:=Ac1 G.below T.out;have J:Hid (RR p br t { s with at':=en }):=F.out.fr (G.below.block br (Aa F.out));have H:Hid _:=I.out.trans (Fr.grew G);clear G F I T v K f1;obtain⟨g,j,l,m,n⟩:=Ah c.out;obtain⟨O,P,Q,R,S⟩:=Ax c.out;have z2:=Aa c.out;go_wp2_with fail
      change bodyPost _ _ _ _ _ (Ao p _ 0 _ _ _ _ _);obtain⟨E,y,r⟩:=D8 c.out J.out C H.out (.int .i64 2) (.int .i64 (-9223372036854775808)) (.string ⟨#[]⟩) (.slice none 0 0) (.slice none 0 0);clear g j l m n O P Q R S;generalize Ao p _ 0 _ _ _ _ _=WZ at E y r |-;obtain⟨g,j,l,m,n⟩:=Ah E;rw[f.out,d.out];exact Ae2 (by simp[results,results125,go_sem,g,j,l,m,n]) rfl ⟨rfl,y,r⟩
     ·have f:Hid (rv=.agg #[.int .i64 2,.int .i64 (-(N:Int)),.string ⟨#[]⟩,.slice none 0 0,.slice none 0 0]):=by show _=_;rw[z.out];simp;omega
      have d:Hid (rs={ s with at':=en }):=by show _=_;rw[a.out];simp;omega
      clear z a;have a9:((N:Int)==9223372036854775808)=false:=by simp;omega
      obtain⟨M,hM⟩:∃M,M=(-(N:Int)) % 18446744073709551616:=⟨_,rfl⟩;have e1:IntKind.u64.wrap (-(N:Int))=M:=by rw[IntKind.wrap_u64,hM]
      have e2:IntKind.i64.wrap M=-(N:Int):=by rw[IntKind.wrap_i64,hM];omega
      have v:Hid _:=fun W=>Gq (-(N:Int)) W;clear hM;rw[if_pos (by omega)] at b;go_wp2_with fail
      refine b.out.mono ?_;rintro e' w' ⟨rfl,rfl⟩;clear b;have K:=Ab q.out 1;have f1:=Ad q.out 1;have a6:=Aa q.out;have F:Hid (RR (w'.setCell ⟨br,1,none⟩ (.int .i64 (en:Int))) br t { s with at':=en }):=by
       have:=Ai q.out 1 (.int .i64 (en:Int));simpa [RR,Hid] using this
      have I:Hid (Fr (·≠br) w (w'.setCell ⟨br,1,none⟩ (.int .i64 (en:Int)))):=(Fr.grew D.out).set (by simp) _;have T:Hid ((w'.setCell ⟨br,1,none⟩ (.int .i64 (en:Int))).heap[_]?=_):=(Below.heap_setCell _ _ _ _ (by simp;omega)).trans B.out;clear B q D;go_wp2_with fail
      generalize w'.setCell _ _=W3 at F I T |-;refine(v.out W3).mono ?_;rintro a4 p ⟨rfl,G⟩;have c:Hid _:=Ac1 G.below T.out;have J:Hid (RR p br t { s with at':=en }):=F.out.fr (G.below.block br (Aa F.out));have H:Hid _:=I.out.trans (Fr.grew G);clear G F I T v K f1;obtain⟨g,j,l,m,n⟩:=Ah c.out;obtain⟨O,P,Q,R,S⟩:=Ax c.out;have z2:=Aa c.out;go_wp2_with fail
      change bodyPost _ _ _ _ _ (Ao p _ 0 _ _ _ _ _);obtain⟨E,y,r⟩:=D8 c.out J.out C H.out (.int .i64 2) (.int .i64 (-(N:Int))) (.string ⟨#[]⟩) (.slice none 0 0) (.slice none 0 0);clear g j l m n O P Q R S;generalize Ao p _ 0 _ _ _ _ _=WZ at E y r |-;obtain⟨g,j,l,m,n⟩:=Ah E;rw[f.out,d.out];exact Ae2 (by simp[results,results125,go_sem,g,j,l,m,n]) rfl ⟨rfl,y,r⟩
     ·have f:Hid (rv=.agg #[.int .i64 2,.int .i64 (N:Int),.string ⟨#[]⟩,.slice none 0 0,.slice none 0 0]):=by show _=_;rw[z.out];simp;omega
      have d:Hid (rs={ s with at':=en }):=by show _=_;rw[a.out];simp;omega
      clear z a;have e2:IntKind.i64.wrap (N:Int)=(N:Int):=by rw[IntKind.wrap_i64];omega
      have v:Hid _:=fun W=>Gq (N:Int) W;rw[if_pos (by omega)] at b;go_wp2_with fail
      refine b.out.mono ?_;rintro e' w' ⟨rfl,rfl⟩;clear b;have K:=Ab q.out 1;have f1:=Ad q.out 1;have a6:=Aa q.out;have F:Hid (RR (w'.setCell ⟨br,1,none⟩ (.int .i64 (en:Int))) br t { s with at':=en }):=by
       have:=Ai q.out 1 (.int .i64 (en:Int));simpa [RR,Hid] using this
      have I:Hid (Fr (·≠br) w (w'.setCell ⟨br,1,none⟩ (.int .i64 (en:Int)))):=(Fr.grew D.out).set (by simp) _;have T:Hid ((w'.setCell ⟨br,1,none⟩ (.int .i64 (en:Int))).heap[_]?=_):=(Below.heap_setCell _ _ _ _ (by simp;omega)).trans B.out;clear B q D;go_wp2_with fail
      generalize w'.setCell _ _=W3 at F I T |-;refine(v.out W3).mono ?_;rintro a4 p ⟨rfl,G⟩;have c:Hid _:=Ac1 G.below T.out;have J:Hid (RR p br t { s with at':=en }):=F.out.fr (G.below.block br (Aa F.out));have H:Hid _:=I.out.trans (Fr.grew G);clear G F I T v K f1;obtain⟨g,j,l,m,n⟩:=Ah c.out;obtain⟨O,P,Q,R,S⟩:=Ax c.out;have z2:=Aa c.out;go_wp2_with fail
      change bodyPost _ _ _ _ _ (Ao p _ 0 _ _ _ _ _);obtain⟨E,y,r⟩:=D8 c.out J.out C H.out (.int .i64 2) (.int .i64 (N:Int)) (.string ⟨#[]⟩) (.slice none 0 0) (.slice none 0 0);clear g j l m n O P Q R S;generalize Ao p _ 0 _ _ _ _ _=WZ at E y r |-;obtain⟨g,j,l,m,n⟩:=Ah E;rw[f.out,d.out];exact Ae2 (by simp[results,results125,go_sem,g,j,l,m,n]) rfl ⟨rfl,y,r⟩
def K5 (x:Nat×Int×List UInt8×Nat×Nat):Value:=.agg #[.int .i64 x.1,.int .i64 x.2.1,.string ⟨x.2.2.1.toArray⟩,.slice none 0 0,.slice none 0 0]
def Wf (s:RSt)(x:Nat×Int×List UInt8×Nat×Nat)(q:Nat):RSt:=if x.2.2.2.1=0 then { s with at':=x.2.2.2.2 } else { s with at':=x.2.2.2.2,e:=x.2.2.2.1,bad:=q }
def Pv (l:List UInt8)(en:Nat):Nat×Int×List UInt8×Nat×Nat :=
 if l=Z6 then(0,0,[],0,en) else if l=Ta then(1,1,[],0,en) else if l=Nr then(1,0,[],0,en)
 else(4,0,l,if Bw l then 1 else if 16<l.length then 5 else 0,en)
def Fb (c q:Nat):Nat×Int×List UInt8×Nat×Nat:=(0,0,[],c,q)
def Ob (l:List UInt8)(mi:Bool)(q en:Nat):Nat×Int×List UInt8×Nat×Nat :=
 if Km l mi then(if decide (9223372036854775808<E7 0 l)||(decide (E7 0 l=9223372036854775808)&&!mi) then Fb 5 q else(2,(if mi then -(E7 0 l:Int) else E7 0 l),[],0,en)) else Fb 1 q
def Oc (T:List UInt8)(q f:Nat):Nat×Int×List UInt8×Nat×Nat :=
 if (T.take (f+A5 (T.drop f))).drop f=[] then Fb 1 q
 else if Ay (Ap ((T.take (f+A5 (T.drop f))).drop f) 0) then Ob ((T.take (f+A5 (T.drop f))).drop f) (decide (q<f)) q (f+A5 (T.drop f))
 else if q<f\/C8 (Ap ((T.take (f+A5 (T.drop f))).drop f) 0)=false then Fb 1 q
 else Pv ((T.take (f+A5 (T.drop f))).drop f) (f+A5 (T.drop f))
def Bf (T:List UInt8)(q:Nat):Nat×Int×List UInt8×Nat×Nat :=
 if T.length=q then Fb 1 q
 else if (Ap T q).toNat=34 then(if (Ci (T.drop (q+1)) (q+1)).1=3 then(3,0,(T.take ((Ci (T.drop (q+1)) (q+1)).2-1)).drop (q+1),0,(Ci (T.drop (q+1)) (q+1)).2) else Fb 1 q)
 else Oc T q (if (Ap T q).toNat=45 then q+1 else q)
theorem Aa9 (l:List UInt8)(mi:Bool)(q en:Nat):nT l mi=K5 (Ob l mi q en):=by
 unfold nT Ob K5 Fb Bk;cases Km l mi<;>cases(decide (9223372036854775808<E7 0 l)||(decide (E7 0 l=9223372036854775808)&&!mi))<;>simp
theorem Ab0 (l:List UInt8)(mi:Bool)(s:RSt)(q en:Nat)(he:s.e=0)(hq:s.at'=q):nU l mi s q en=Wf s (Ob l mi q en) q:=by
 unfold nU Ob Wf Fb Hg;obtain⟨a,d,e,b,c⟩:=s;simp only at he hq;subst he hq;cases Km l mi<;>cases(decide (9223372036854775808<E7 0 l)||(decide (E7 0 l=9223372036854775808)&&!mi))<;>simp
theorem vT {l:List UInt8}(h:Bw l=true):l.length<=16:=by
 have a:Ct.all (fun v=>decide (v.length<=16))=true:=by decide +kernel
 have:=List.all_eq_true.1 a l (by unfold Bw at h;exact List.contains_iff_mem.1 h);simpa using this
theorem Iu {s:ByteArray}{l:List UInt8}(h:s.data.toList=l):s=⟨l.toArray⟩:=by rw[<- h]
theorem dP (w:World)(br:Nat)(t:ByteArray)(s:RSt)(h:RR w br t s)(he:s.e=0)(ha:s.at'<=t.size)(ht:t.size<=4000) :
  Calls prog 68 #[.pointer (some ⟨br,0,none⟩)] w fun e w'=>e=.returned (K5 (Bf t.data.toList s.at'))/\RR w' br t (Wf s (Bf t.data.toList s.at') s.at')/\Fr (·≠br) w w':=by
 have hl:t.data.toList.length=t.size:=by simp
 obtain⟨q,r,e,b8,hv⟩:=s;simp only at he ha;subst he;show Calls prog 68 #[.pointer (some ⟨br,0,none⟩)] w fun e w'=>e=.returned (K5 (Bf t.data.toList q))/\RR w' br t (Wf ⟨q,r,0,b8,hv⟩ (Bf t.data.toList q) q)/\Fr (·≠br) w w';obtain⟨X,hX⟩:∃X,Bf t.data.toList q=X:=⟨_,rfl⟩;rw[hX];have HX:Hid (Bf t.data.toList q=X):=hX;clear hX;have B:=Aa h;have K:Hid ((w.alloc _).heap[w.heap.size]?=some (.cells #[.int .i64 0,.int .i64 0,.string ⟨#[]⟩,.slice none 0 0,.slice none 0 0] 30 (0,0))):=Af rfl;have O:Hid (Ac w (w.alloc (.cells #[.int .i64 0,.int .i64 0,.string ⟨#[]⟩,.slice none 0 0,.slice none 0 0] 30))):=(Ac.refl w).alloc _;have L:Hid (RR _ br t _):=h.fr (O.out.below.block br B);clear h;have mo:=follows;go_enter func68,ntmps68
 go_upto_region 1 with fail
 generalize w.alloc _=W0 at K O L |-;obtain⟨c0,c1⟩:=Lf L.out;have e9:=Aa L.out;by_cases hq:q=t.size
 ·have y:Hid (X=Fb 1 q):=by show _=_;rw[<- HX.out];unfold Bf;rw[if_pos (by omega)]
  subst hq;have k:Hid (Calls _ 29 #[_,.int .i64 (1:Int),_] W0 _):=D7 W0 br t _ 1 t.size L.out;go_wp2_with fail
  refine k.out.mono ?_;rintro e' m ⟨rfl,Q,J⟩;have b:Hid _:=(J.block w.heap.size (Aa K.out) (by omega)).trans K.out;have p:Hid (RR m br t ⟨t.size,r,1,t.size,hv⟩):=Q;have z:Hid _:=(Fr.grew O.out).trans J;clear Q J k K L O;obtain⟨c,d,g,i,j⟩:=Ah b.out;obtain⟨D,F,G,H,I⟩:=Ax b.out;have z2:=Aa b.out;go_wp2_with fail
  change bodyPost _ _ _ _ _ (Ao m _ 0 _ _ _ _ _);obtain⟨E,o,n⟩:=D8 b.out p.out B z.out (.int .i64 0) (.int .i64 0) (.string ⟨#[]⟩) (.slice none 0 0) (.slice none 0 0);clear c d g i j D F G H I;generalize Ao m _ 0 _ _ _ _ _=WZ at E o n |-;obtain⟨c,d,g,i,j⟩:=Ah E;rw[y.out];exact Ae2 (by simp[results,results68,go_sem,c,d,g,i,j,K5,Fb]) rfl ⟨rfl,o,n⟩
 have k1:((q:Int)==(t.size:Int))=false:=by simp;omega
 have d5:q<t.size:=by omega
 have d2:=Ib t q d5;have b5:Hid (X=if (t[q]).toNat=34 then(if (Ci (t.data.toList.drop (q+1)) (q+1)).1=3 then(3,0,(t.data.toList.take ((Ci (t.data.toList.drop (q+1)) (q+1)).2-1)).drop (q+1),0,(Ci (t.data.toList.drop (q+1)) (q+1)).2) else Fb 1 q) else Oc t.data.toList q (if (t[q]).toNat=45 then q+1 else q)):=by
  show _=_;rw[<- HX.out];unfold Bf;rw[if_neg (by omega),d2]
 clear HX d2;by_cases d0:(t[q].toNat:Int)=34
 ·have k2:((t[q].toNat:Int)==34)=true:=by simp[d0]
  have A:=b5.out;rw[if_pos (by omega)] at A;have V:Hid (Calls _ 105 #[_,_] W0 _):=iH t q W0 (by omega) d5;have a9:=J5 (t.data.toList.drop (q+1)) (q+1);have c5:=Qr (t.data.toList.drop (q+1)) (q+1);have a0:=Rz (t.data.toList.drop (q+1)) (q+1);obtain⟨r1,r2,hr⟩:∃r1 r2,Ci (t.data.toList.drop (q+1)) (q+1)=(r1,r2):=⟨_,_,rfl⟩;rw[hr] at A V a9 c5 a0;simp only at A a9 c5 a0;rw[List.length_drop,hl] at c5;clear hr b5;rcases a9 with rfl|rfl
  ·have f5:=a0 rfl;rw[rM] at V;rw[if_pos rfl] at A;have d4:t.extract (q+1) _=⟨((t.data.toList.take (r2-1)).drop (q+1)).toArray⟩:=Iu (Df _ _ _);obtain⟨E1,c2⟩:∃E1:ByteArray,E1=t.extract (q+1) (r2-1):=⟨_,rfl⟩;have y:Hid _:=A;have e0:Hid (E1=⟨((t.data.toList.take (r2-1)).drop (q+1)).toArray⟩):=by show _=_;rw[c2,d4]
   clear d4 A a0;obtain⟨r3,d6⟩:∃r3,r2=r3+1:=⟨r2-1,by omega⟩;have s1:(r2:Int)-1=(r3:Int):=by omega
   have s2:IntKind.i64.wrap (r3:Int)=(r3:Int):=by rw[IntKind.wrap_i64];omega
   have s3:(q:Int)+1<=(r3:Int):=by omega
   have s4:(r3:Int)<=(t.size:Int):=by omega
   have s5:t.extract (q+1) r3=E1:=by rw[c2,d6];rfl
   have s6:¬(r2:Int)<0:=by omega
   have s7:((q:Int)+1).toNat=q+1:=by omega
   clear c2 d6;have R3:Hid (RR (W0.setCell ⟨br,1,none⟩ (.int .i64 (r2:Int))) br t ⟨r2,r,0,b8,hv⟩):=by
    have:=Ai L.out 1 (.int .i64 (r2:Int));simpa [RR,Hid] using this
   have Y:Hid (Fr (·≠br) w (W0.setCell ⟨br,1,none⟩ (.int .i64 (r2:Int)))):=(Fr.grew O.out).set (by simp) _;have U:Hid ((W0.setCell ⟨br,1,none⟩ (.int .i64 (r2:Int))).heap[_]?=_):=(Below.heap_setCell _ _ _ _ (by simp;omega)).trans K.out;have f1:=Ad L.out 1;go_wp2_with fail
   refine V.out.mono ?_;rintro e' w' ⟨rfl,rfl⟩;clear V;go_upto_region 11 with fail
   generalize w'.setCell _ _=m at R3 Y U |-;have p:=R3;have z:Hid (Fr (·≠br) w m):=Y;have b:Hid (m.heap[w.heap.size]?=_):=U;clear R3 Y U c0 c1 f1 K L O;have c0:=Ab p.out 0;have f0:=Aa p.out;obtain⟨c,d,g,i,j⟩:=Ah b.out;obtain⟨D,F,G,H,I⟩:=Ax b.out;have z2:=Aa b.out;go_wp2_with fail
   change bodyPost _ _ _ _ _ (Ao m _ 0 _ _ _ _ _);obtain⟨E,o,n⟩:=D8 b.out p.out B z.out (.int .i64 3) (.int .i64 0) (.string E1) (.slice none 0 0) (.slice none 0 0);clear c d g i j D F G H I;generalize Ao m _ 0 _ _ _ _ _=WZ at E o n |-;obtain⟨c,d,g,i,j⟩:=Ah E;rw[y.out];exact Ae2 (v:=.agg #[.int .i64 3,.int .i64 0,.string E1,.slice none 0 0,.slice none 0 0]) (by simp[results,results68,go_sem,c,d,g,i,j]) rfl ⟨by rw[e0.out];rfl,o,n⟩
  ·rw[zC] at V;rw[if_neg (by omega)] at A;have y:Hid (X=Fb 1 q):=A;clear A;go_wp2_with fail
   refine V.out.mono ?_;rintro e' w' ⟨rfl,rfl⟩;clear V;have k:Hid (Calls _ 29 #[_,.int .i64 (1:Int),_] w' _):=D7 w' br t _ 1 q L.out;go_wp2_with fail
   refine k.out.mono ?_;rintro e' m ⟨rfl,Q,J⟩;have b:Hid _:=(J.block w.heap.size (Aa K.out) (by omega)).trans K.out;have p:Hid (RR m br t ⟨q,r,1,q,hv⟩):=Q;have z:Hid _:=(Fr.grew O.out).trans J;clear Q J k K L O;obtain⟨c,d,g,i,j⟩:=Ah b.out;obtain⟨D,F,G,H,I⟩:=Ax b.out;have z2:=Aa b.out;go_wp2_with fail
   change bodyPost _ _ _ _ _ (Ao m _ 0 _ _ _ _ _);obtain⟨E,o,n⟩:=D8 b.out p.out B z.out (.int .i64 0) (.int .i64 0) (.string ⟨#[]⟩) (.slice none 0 0) (.slice none 0 0);clear c d g i j D F G H I;generalize Ao m _ 0 _ _ _ _ _=WZ at E o n |-;obtain⟨c,d,g,i,j⟩:=Ah E;rw[y.out];exact Ae2 (by simp[results,results68,go_sem,c,d,g,i,j,K5,Fb]) rfl ⟨rfl,o,n⟩
 ·have k2:((t[q].toNat:Int)==34)=false:=by simp[d0]
  have A:=b5.out;rw[if_neg (by omega)] at A;obtain⟨f,hf⟩:∃f,(if (t[q]).toNat=45 then q+1 else q)=f:=⟨_,rfl⟩;rw[hf] at A;have c8:Hid _:=A;clear A b5;have c7:Hid _:=hf;have f3:q<=f/\f<=q+1:=by split at hf<;>omega
  clear hf;go_upto_if 66 with fail
  go_cut [5] from 11 (fun s5 wx=>s5=.int .i64 (f:Int)/\W0=wx)
  case first =>
   by_cases d1:(t[q].toNat:Int)=45
   ·have k3:((t[q].toNat:Int)==45)=true:=by simp[d1]
    have y:Hid ((f:Int)=(q:Int)+1):=by show _=_;rw[<- c7.out,if_pos (by omega)];omega
    go_wp2_with fail
    all_goals go_meet
    all_goals exact⟨by rw[y.out],rfl⟩
   ·have k3:((t[q].toNat:Int)==45)=false:=by simp[d1]
    have y:Hid ((f:Int)=(q:Int)):=by show _=_;rw[<- c7.out,if_neg (by omega)]
    go_wp2_with fail
    all_goals go_meet
    all_goals exact⟨by rw[y.out],rfl⟩
  case rest =>
   obtain⟨rfl,rfl⟩:=hcut;have e5:f<=t.size:=by omega
   have a6:Hid (Calls _ 103 #[_,_] W0 _):=rL t f W0 (by omega) e5;have d7:=Gz (t.data.toList.drop f);rw[List.length_drop,hl] at d7;obtain⟨u,c4⟩:∃u,f+A5 (t.data.toList.drop f)=u:=⟨_,rfl⟩;have a8:Hid (X=if (t.data.toList.take u).drop f=[] then Fb 1 q
    else if Ay (Ap ((t.data.toList.take u).drop f) 0) then Ob ((t.data.toList.take u).drop f) (decide (q<f)) q u
    else if q<f\/C8 (Ap ((t.data.toList.take u).drop f) 0)=false then Fb 1 q
    else Pv ((t.data.toList.take u).drop f) u):=by show _=_;rw[c8.out];unfold Oc;rw[c4]
   rw[c4] at a6;have s1:(f:Int)<=(u:Int):=by omega
   have s2:(u:Int)<=(t.size:Int):=by omega
   obtain⟨x,hx⟩:∃x:ByteArray,t.extract f u=x:=⟨_,rfl⟩;have d8:x.data.toList=(t.data.toList.take u).drop f:=by rw[<- hx];exact Df _ _ _
   rw[<- d8] at a8;have c6:x.data.toList.length=x.size:=by simp
   clear c4 d7 c8 d8;go_wp2_with fail
   refine a6.out.mono ?_;rintro e' w' ⟨rfl,rfl⟩;clear a6;by_cases f6:x.size=0
   ·have W:x.data.toList=[]:=List.eq_nil_of_length_eq_zero (by omega);have kx:(x.toList==[])=true:=by rw[ByteArray.toList_eq,W];rfl
    have y:Hid (X=Fb 1 q):=by show _=_;rw[a8.out,if_pos W]
    clear W a8;have k:Hid (Calls _ 29 #[_,.int .i64 (1:Int),_] w' _):=D7 w' br t _ 1 q L.out;go_wp2_with fail
    refine k.out.mono ?_;rintro e' m ⟨rfl,Q,J⟩;have b:Hid _:=(J.block w.heap.size (Aa K.out) (by omega)).trans K.out;have p:Hid (RR m br t ⟨q,r,1,q,hv⟩):=Q;have z:Hid _:=(Fr.grew O.out).trans J;clear Q J k K L O;obtain⟨c,d,g,i,j⟩:=Ah b.out;obtain⟨D,F,G,H,I⟩:=Ax b.out;have z2:=Aa b.out;go_wp2_with fail
    change bodyPost _ _ _ _ _ (Ao m _ 0 _ _ _ _ _);obtain⟨E,o,n⟩:=D8 b.out p.out B z.out (.int .i64 0) (.int .i64 0) (.string ⟨#[]⟩) (.slice none 0 0) (.slice none 0 0);clear c d g i j D F G H I;generalize Ao m _ 0 _ _ _ _ _=WZ at E o n |-;obtain⟨c,d,g,i,j⟩:=Ah E;rw[y.out];exact Ae2 (by simp[results,results68,go_sem,c,d,g,i,j,K5,Fb]) rfl ⟨rfl,o,n⟩
   have W:x.data.toList≠[]:=fun e=>by rw[e] at c6;simp at c6;omega
   have kx:(x.toList==[])=false:=by
    rw[ByteArray.toList_eq];cases e6:x.data.toList with
    | nil=>exact absurd e6 W
    | cons a l=>rfl
   have d9:0<x.size:=by omega
   have d3:=Ib x 0 d9;have C:=a8.out;rw[if_neg W,d3] at C;have a1:Hid _:=Qd x[0];have a2:Hid _:=Tl x[0];have e8:x.size<=4000:=by
    have:x.data.toList.length<=t.data.toList.length:=by
     rw[<- hx,Df];exact Ae0 (by rw[List.length_drop];exact Nat.sub_le _ _) (List.length_take_le' _ _)
    omega
   generalize Ay x[0]=dd at C a1;generalize C8 x[0]=ll at C a2;clear a8 W d3 c6;cases dd with
   | true =>
    have Z:Hid (Calls _ 125 #[_,_,_,_,_] w' _):=dO w' br t x (decide (q<f)) _ q u L.out d9 e8;rw[Aa9 _ _ q u,Ab0 _ _ _ q u rfl rfl] at Z;have y:Hid (X=Ob _ _ q u):=C;generalize Ob _ _ q u=N at Z y;obtain⟨n1,n2,n3,n4,n5⟩:=N;have b6:Hid (Calls _ 125 #[_,_,_,_,_] w' fun e w''=>e=.returned (.agg #[.int .i64 (n1:Int),.int .i64 n2,.string ⟨n3.toArray⟩,_,_])/\_/\_):=Z.out;have e7:decide ((q:Int)<(f:Int))=decide (q<f):=by simp
    clear Z C a2;go_wp2_with (go_at_call 124;refine(a1.out _).mono ?_;rintro e2 w9 ⟨rfl,rfl⟩)
    refine b6.out.mono ?_;rintro e2 m ⟨rfl,Q,J⟩;have b:Hid _:=(J.block w.heap.size (Aa K.out) (by omega)).trans K.out;have p:Hid (RR m br t _):=Q;have z:Hid _:=(Fr.grew O.out).trans J;clear Q J b6 K L O c0 c1;obtain⟨c,d,g,i,j⟩:=Ah b.out;obtain⟨D,F,G,H,I⟩:=Ax b.out;have z2:=Aa b.out;go_wp2_with fail
    change bodyPost _ _ _ _ _ (Ao m _ 0 _ _ _ _ _);obtain⟨E,o,n⟩:=D8 b.out p.out B z.out (.int .i64 (n1:Int)) (.int .i64 n2) (.string ⟨n3.toArray⟩) (.slice none 0 0) (.slice none 0 0);clear c d g i j D F G H I;generalize Ao m _ 0 _ _ _ _ _=WZ at E o n |-;obtain⟨c,d,g,i,j⟩:=Ah E;rw[y.out];exact Ae2 (v:=.agg #[_,_,_,_,_]) (by simp[results,results68,go_sem,c,d,g,i,j]) rfl ⟨rfl,o,n⟩
   | false =>
    by_cases c3:q<f
    ·have y:Hid (X=Fb 1 q):=by show _=_;rw[C,if_neg (by simp),if_pos (.inl c3)]
     have e7:(q:Int)<(f:Int):=by omega
     clear C;have k:Hid (Calls _ 29 #[_,.int .i64 (1:Int),_] w' _):=D7 w' br t _ 1 q L.out;go_wp2_with (first|(go_at_call 124;refine(a1.out _).mono ?_;rintro e2 w9 ⟨rfl,rfl⟩)|(go_at_call 126;refine(a2.out _).mono ?_;rintro e2 w9 ⟨rfl,rfl⟩))
     refine k.out.mono ?_;rintro e' m ⟨rfl,Q,J⟩;have b:Hid _:=(J.block w.heap.size (Aa K.out) (by omega)).trans K.out;have p:Hid (RR m br t ⟨q,r,1,q,hv⟩):=Q;have z:Hid _:=(Fr.grew O.out).trans J;clear Q J k K L O;obtain⟨c,d,g,i,j⟩:=Ah b.out;obtain⟨D,F,G,H,I⟩:=Ax b.out;have z2:=Aa b.out;go_wp2_with fail
     change bodyPost _ _ _ _ _ (Ao m _ 0 _ _ _ _ _);obtain⟨E,o,n⟩:=D8 b.out p.out B z.out (.int .i64 0) (.int .i64 0) (.string ⟨#[]⟩) (.slice none 0 0) (.slice none 0 0);clear c d g i j D F G H I;generalize Ao m _ 0 _ _ _ _ _=WZ at E o n |-;obtain⟨c,d,g,i,j⟩:=Ah E;rw[y.out];exact Ae2 (by simp[results,results68,go_sem,c,d,g,i,j,K5,Fb]) rfl ⟨rfl,o,n⟩
    ·have e1:f=q:=by omega
     subst e1;cases ll with
     | false =>
      have y:Hid (X=Fb 1 f):=by show _=_;rw[C,if_neg (by simp),if_pos (.inr rfl)]
      clear C;have k:Hid (Calls _ 29 #[_,.int .i64 (1:Int),_] w' _):=D7 w' br t _ 1 f L.out;go_wp2_with (first|(go_at_call 124;refine(a1.out _).mono ?_;rintro e2 w9 ⟨rfl,rfl⟩)|(go_at_call 126;refine(a2.out _).mono ?_;rintro e2 w9 ⟨rfl,rfl⟩))
      refine k.out.mono ?_;rintro e' m ⟨rfl,Q,J⟩;have b:Hid _:=(J.block w.heap.size (Aa K.out) (by omega)).trans K.out;have p:Hid (RR m br t ⟨f,r,1,f,hv⟩):=Q;have z:Hid _:=(Fr.grew O.out).trans J;clear Q J k K L O;obtain⟨c,d,g,i,j⟩:=Ah b.out;obtain⟨D,F,G,H,I⟩:=Ax b.out;have z2:=Aa b.out;go_wp2_with fail
      change bodyPost _ _ _ _ _ (Ao m _ 0 _ _ _ _ _);obtain⟨E,o,n⟩:=D8 b.out p.out B z.out (.int .i64 0) (.int .i64 0) (.string ⟨#[]⟩) (.slice none 0 0) (.slice none 0 0);clear c d g i j D F G H I;generalize Ao m _ 0 _ _ _ _ _=WZ at E o n |-;obtain⟨c,d,g,i,j⟩:=Ah E;rw[y.out];exact Ae2 (by simp[results,results68,go_sem,c,d,g,i,j,K5,Fb]) rfl ⟨rfl,o,n⟩
     | true =>
      rw[if_neg (by simp),if_neg (by simp)] at C;have P:Hid _:=C;clear C;have R3:Hid (RR (w'.setCell ⟨br,1,none⟩ (.int .i64 (u:Int))) br t ⟨u,r,0,b8,hv⟩):=by
       have:=Ai L.out 1 (.int .i64 (u:Int));simpa [RR,Hid] using this
      have Y:Hid (Fr (·≠br) w (w'.setCell ⟨br,1,none⟩ (.int .i64 (u:Int)))):=(Fr.grew O.out).set (by simp) _;have U:Hid ((w'.setCell ⟨br,1,none⟩ (.int .i64 (u:Int))).heap[_]?=_):=(Below.heap_setCell _ _ _ _ (by simp;omega)).trans K.out;have f1:=Ad L.out 1;go_upto_region 28 with(first|(go_at_call 124;refine(a1.out _).mono ?_;rintro e2 w9 ⟨rfl,rfl⟩)|(go_at_call 126;refine(a2.out _).mono ?_;rintro e2 w9 ⟨rfl,rfl⟩))
      generalize World.setCell _ _ _=m at R3 Y U |-;have p:=R3;have z:Hid (Fr (·≠br) w m):=Y;have b:Hid (m.heap[w.heap.size]?=_):=U;clear R3 Y U c0 c1 f1 K L O a1 a2;have M:∀v:_,(x.toList==v)=decide (x.data.toList=v):=by
       intro v;rw[ByteArray.toList_eq];rw[Bool.eq_iff_iff];simp
      by_cases w1:x.data.toList=Z6
      ·have y:Hid (X=(0,0,[],0,u)):=by show _=_;rw[P.out];unfold Pv;rw[if_pos w1]
       have k3:(x.toList==[110,105,108])=true:=by rw[M];exact decide_eq_true w1
       clear M w1 P;obtain⟨c,d,g,i,j⟩:=Ah b.out;obtain⟨D,F,G,H,I⟩:=Ax b.out;have z2:=Aa b.out;go_wp2_with fail
       change bodyPost _ _ _ _ _ (Ao m _ 0 _ _ _ _ _);obtain⟨E,o,n⟩:=D8 b.out p.out B z.out (.int .i64 0) (.int .i64 0) (.string ⟨#[]⟩) (.slice none 0 0) (.slice none 0 0);clear c d g i j D F G H I;generalize Ao m _ 0 _ _ _ _ _=WZ at E o n |-;obtain⟨c,d,g,i,j⟩:=Ah E;rw[y.out];exact Ae2 (v:=Bk) (by simp[results,results68,go_sem,c,d,g,i,j,Bk]) rfl ⟨rfl,o,n⟩
      have k3:(x.toList==[110,105,108])=false:=by rw[M];exact decide_eq_false w1
      by_cases S:x.data.toList=Ta
      ·have y:Hid (X=(1,1,[],0,u)):=by show _=_;rw[P.out];unfold Pv;rw[if_neg w1,if_pos S]
       have k4:(x.toList==[116,114,117,101])=true:=by rw[M];exact decide_eq_true S
       have a7:Hid (Calls _ 88 #[_] m _):=Ls true m;clear M w1 S P;go_wp2_with fail
       refine a7.out.mono ?_;rintro e3 T ⟨rfl,hg⟩;have b:Hid _:=Ac1 hg.below b.out;have p:Hid (RR T br t _):=p.out.fr (hg.below.block br (Aa p.out));have z:Hid _:=z.out.trans (Fr.grew hg);clear hg a7;obtain⟨c,d,g,i,j⟩:=Ah b.out;obtain⟨D,F,G,H,I⟩:=Ax b.out;have z2:=Aa b.out;go_wp2_with fail
       change bodyPost _ _ _ _ _ (Ao T _ 0 _ _ _ _ _);obtain⟨E,o,n⟩:=D8 b.out p.out B z.out (.int .i64 1) (.int .i64 1) (.string ⟨#[]⟩) (.slice none 0 0) (.slice none 0 0);clear c d g i j D F G H I;generalize Ao T _ 0 _ _ _ _ _=WZ at E o n |-;obtain⟨c,d,g,i,j⟩:=Ah E;rw[y.out];exact Ae2 (v:=.agg #[_,_,_,_,_]) (by simp[results,results68,go_sem,c,d,g,i,j]) rfl ⟨rfl,o,n⟩
      have k4:(x.toList==[116,114,117,101])=false:=by rw[M];exact decide_eq_false S
      by_cases a5:x.data.toList=Nr
      ·have y:Hid (X=(1,0,[],0,u)):=by show _=_;rw[P.out];unfold Pv;rw[if_neg w1,if_neg S,if_pos a5]
       have k5:(x.toList==[102,97,108,115,101])=true:=by rw[M];exact decide_eq_true a5
       have a7:Hid (Calls _ 88 #[_] m _):=Ls false m;clear M w1 S a5 P;go_wp2_with fail
       refine a7.out.mono ?_;rintro e3 T ⟨rfl,hg⟩;have b:Hid _:=Ac1 hg.below b.out;have p:Hid (RR T br t _):=p.out.fr (hg.below.block br (Aa p.out));have z:Hid _:=z.out.trans (Fr.grew hg);clear hg a7;obtain⟨c,d,g,i,j⟩:=Ah b.out;obtain⟨D,F,G,H,I⟩:=Ax b.out;have z2:=Aa b.out;go_wp2_with fail
       change bodyPost _ _ _ _ _ (Ao T _ 0 _ _ _ _ _);obtain⟨E,o,n⟩:=D8 b.out p.out B z.out (.int .i64 1) (.int .i64 0) (.string ⟨#[]⟩) (.slice none 0 0) (.slice none 0 0);clear c d g i j D F G H I;generalize Ao T _ 0 _ _ _ _ _=WZ at E o n |-;obtain⟨c,d,g,i,j⟩:=Ah E;rw[y.out];exact Ae2 (v:=.agg #[_,_,_,_,_]) (by simp[results,results68,go_sem,c,d,g,i,j]) rfl ⟨rfl,o,n⟩
      have k5:(x.toList==[102,97,108,115,101])=false:=by rw[M];exact decide_eq_false a5
      have a3:=P.out;unfold Pv at a3;rw[if_neg w1,if_neg S,if_neg a5] at a3;have b7:Hid (Calls _ 127 #[_] m _):=Xt x m;have R:Bw _=true->x.size<=16:=fun q=>by have:=vT q;rw[show x.data.toList.length=x.size from by simp] at this;exact this
      rw[show x.data.toList.length=x.size from by simp] at a3;generalize Bw _=rr at a3 b7 R;have a4:Hid _:=a3;clear M w1 S a5 P a3;go_wp2_with fail
      refine b7.out.mono ?_;rintro e3 T ⟨rfl,hg⟩;have U:Hid _:=Ac1 hg.below b.out;have R3:Hid (RR T br t _):=p.out.fr (hg.below.block br (Aa p.out));have Y:Hid _:=z.out.trans (Fr.grew hg);clear hg b7 b p z;cases rr with
      | true =>
       have b9:¬(16:Int)<(x.size:Int):=by have:=R rfl;omega
       have y:Hid (X=(4,0,_,1,u)):=a4.out;clear a4 R;have k:Hid (Calls _ 29 #[_,.int .i64 (1:Int),_] T _):=D7 T br t _ 1 f R3.out;go_wp2_with fail
       refine k.out.mono ?_;rintro e4 w4 ⟨rfl,h4,f4⟩;have b:Hid _:=(f4.block w.heap.size (Aa U.out) (by omega)).trans U.out;have p:Hid (RR w4 br t ⟨u,r,1,f,hv⟩):=h4;have z:Hid _:=Y.out.trans f4;clear h4 f4 k U R3 Y;obtain⟨c,d,g,i,j⟩:=Ah b.out;obtain⟨D,F,G,H,I⟩:=Ax b.out;have z2:=Aa b.out;go_wp2_with fail
       change bodyPost _ _ _ _ _ (Ao w4 _ 0 _ _ _ _ _);obtain⟨E,o,n⟩:=D8 b.out p.out B z.out (.int .i64 4) (.int .i64 0) (.string x) (.slice none 0 0) (.slice none 0 0);clear c d g i j D F G H I;generalize Ao w4 _ 0 _ _ _ _ _=WZ at E o n |-;obtain⟨c,d,g,i,j⟩:=Ah E;rw[y.out];exact Ae2 (v:=.agg #[.int .i64 4,.int .i64 0,.string x,.slice none 0 0,.slice none 0 0]) (by simp[results,results68,go_sem,c,d,g,i,j]) rfl ⟨by simp[K5],o,n⟩
      | false =>
       by_cases b9:16<x.size
       ·have c9:(16:Int)<(x.size:Int):=by omega
        have y:Hid (X=(4,0,x.data.toList,5,u)):=by show _=_;rw[a4.out,if_neg (by simp),if_pos b9]
        clear a4 R;have k:Hid (Calls _ 29 #[_,.int .i64 (5:Int),_] T _):=D7 T br t _ 5 f R3.out;go_wp2_with fail
        refine k.out.mono ?_;rintro e4 w4 ⟨rfl,h4,f4⟩;have b:Hid _:=(f4.block w.heap.size (Aa U.out) (by omega)).trans U.out;have p:Hid (RR w4 br t ⟨u,r,5,f,hv⟩):=h4;have z:Hid _:=Y.out.trans f4;clear h4 f4 k U R3 Y;obtain⟨c,d,g,i,j⟩:=Ah b.out;obtain⟨D,F,G,H,I⟩:=Ax b.out;have z2:=Aa b.out;go_wp2_with fail
        change bodyPost _ _ _ _ _ (Ao w4 _ 0 _ _ _ _ _);obtain⟨E,o,n⟩:=D8 b.out p.out B z.out (.int .i64 4) (.int .i64 0) (.string x) (.slice none 0 0) (.slice none 0 0);clear c d g i j D F G H I;generalize Ao w4 _ 0 _ _ _ _ _=WZ at E o n |-;obtain⟨c,d,g,i,j⟩:=Ah E;rw[y.out];exact Ae2 (v:=.agg #[.int .i64 4,.int .i64 0,.string x,.slice none 0 0,.slice none 0 0]) (by simp[results,results68,go_sem,c,d,g,i,j]) rfl ⟨by simp[K5],o,n⟩
       ·have c9:¬(16:Int)<(x.size:Int):=by omega
        have y:Hid (X=(4,0,x.data.toList,0,u)):=by show _=_;rw[a4.out,if_neg (by simp),if_neg b9]
        have b:Hid (T.heap[w.heap.size]?=_):=U;have p:=R3;have z:Hid (Fr (·≠br) w T):=Y;clear a4 R U R3 Y;obtain⟨c,d,g,i,j⟩:=Ah b.out;obtain⟨D,F,G,H,I⟩:=Ax b.out;have z2:=Aa b.out;go_wp2_with fail
        change bodyPost _ _ _ _ _ (Ao T _ 0 _ _ _ _ _);obtain⟨E,o,n⟩:=D8 b.out p.out B z.out (.int .i64 4) (.int .i64 0) (.string x) (.slice none 0 0) (.slice none 0 0);clear c d g i j D F G H I;generalize Ao T _ 0 _ _ _ _ _=WZ at E o n |-;obtain⟨c,d,g,i,j⟩:=Ah E;rw[y.out];exact Ae2 (v:=.agg #[.int .i64 4,.int .i64 0,.string x,.slice none 0 0,.slice none 0 0]) (by simp[results,results68,go_sem,c,d,g,i,j]) rfl ⟨by simp[K5],o,n⟩
theorem Gi (T:List UInt8)(p:Nat)(hv:Bool):pos T p hv=⟨Av T p,Av T p+(Fa (T.drop (Av T p))).2,(Fa (T.drop (Av T p))).1,hv⟩:=rfl
theorem Jb (T:List UInt8)(p:Nat)(hv:Bool):Bh T (pos T p hv)=(T.drop (Av T p)).take (Fa (T.drop (Av T p))).2:=by
 rw[Gi];simp only[Bh];rw[List.drop_take]
 congr 1;omega
theorem dQ (T:List UInt8)(p:Nat)(hv:Bool)(m:List UInt8)(hm:Sgn m):isP T (pos T p hv) m=Lib.hasPrefix (T.drop (Av T p)) m/\(Lib.hasPrefix (T.drop (Av T p)) m=true->Cb T (pos T p hv)=pos T (Av T p+m.length) hv):=by
 cases c:Lib.hasPrefix (T.drop (Av T p)) m with
 | true =>
  obtain⟨r,d⟩:=List.isPrefixOf_iff_prefix.1 c;have b:=rJ m r hm;rw[d] at b;constructor
  ·unfold isP;rw[Jb,Gi,b,<- d];simp
  ·intro _;have e:(pos T p hv).en=Av T p+m.length:=by rw[Gi,b]
   rw[Q4,e];rfl
 | false =>
  refine⟨?_,fun h=>by simp at h⟩;cases a:isP T (pos T p hv) m with
  | false=>rfl
  | true =>
   unfold isP at a;rw[Bool.and_eq_true,beq_iff_eq,Jb] at a;have:Lib.hasPrefix _ m=true:=List.isPrefixOf_iff_prefix.2 (by rw[<- a.2];exact List.take_prefix _ _);rw[c] at this;simp at this
theorem Tp:∀(l:List UInt8)(i j:Nat),Ci l (i+j)=((Ci l j).1,i+(Ci l j).2)
 | [],i,j=>rfl
 | c::l,i,j=>by
  simp only[Ci];split
  ·simp;omega
  ·split
   ·rw[Nat.add_assoc,Tp l i (j+1)]
   ·rfl
theorem aX (M:Nat)(hM:M<=18446744073709551615):∀(l:List UInt8)(a:Nat),(∀c∈l,Ay c=true)->a<=M->Lib.parseUintM M a l=if E7 a l<=M then .ok (E7 a l) else .range
 | [],a,_,ha=>by
  show Lib.NumEnd.ok a=if a<=M then .ok a else .range;rw[if_pos ha]
 | c::l,a,hd,ha=>by
  have hc:=hd c (by simp);simp[Ay,UInt8.le_iff_toNat_le] at hc;have e:E7 a (c::l)=E7 _ l:=rfl;rw[e];have hmono:=aT l (a*10+(c.toNat-48));have ih:=fun h=>aX M hM l (a*10+(c.toNat-48)) (fun d hd'=>hd d (by simp[hd'])) h;clear e;rw[Lib.parseUintM,if_pos hc];obtain⟨z,hz⟩:∃z,a*10+(c.toNat-48)=z:=⟨_,rfl⟩;rw[hz] at hmono ih |-;by_cases h1:1844674407370955162<=a
  ·rw[if_pos h1,if_neg (by omega)]
  ·rw[if_neg h1];by_cases h2:M<z
   ·rw[if_pos h2,if_neg (by omega)]
   ·rw[if_neg h2];exact ih (by omega)
theorem nV (l:List UInt8)(hn:l≠[])(hd:∀c∈l,Ay c=true):Lib.parseIntB 64 l=if E7 0 l<9223372036854775808 then .ok (E7 0 l:Int) else .range:=by
 cases l with
 | nil=>exact absurd rfl hn
 | cons c r =>
  have f:=hd c (by simp);simp[Ay,UInt8.le_iff_toNat_le] at f;have e:¬(c.toNat=43\/c.toNat=45):=by omega
  have a:¬c.toNat=45:=by omega
  have g:=aX (2 ^ 64-1) (by decide) _ 0 hd (by omega);simp only[Lib.parseIntB];rw[if_neg e];unfold Lib.parseUintB;rw[if_neg (by simp),g];generalize E7 0 (c::r)=N;by_cases b:N<=2 ^ 64-1
  ·rw[if_pos b];simp only;by_cases d:N<9223372036854775808
   ·rw[if_neg (by simp[a];omega),if_neg (by simp[a]),if_neg a,if_pos d]
   ·rw[if_pos (by simp[a];omega),if_neg d]
  ·rw[if_neg b,if_neg (by omega)]
theorem nW (l:List UInt8)(hn:l≠[])(hd:∀c∈l,Ay c=true):Lib.parseIntB 64 (45::l)=if E7 0 l<=9223372036854775808 then .ok (-(E7 0 l:Int)) else .range:=by
 have d:=aX (2 ^ 64-1) (by decide) l 0 hd (by omega);simp only[Lib.parseIntB];rw[if_pos (by decide)];unfold Lib.parseUintB;rw[if_neg hn,d];generalize E7 0 l=N;by_cases a:N<=2 ^ 64-1
 ·rw[if_pos a];simp only;by_cases b:N<=9223372036854775808
  ·rw[if_neg (by simp),if_neg (by simp;omega),if_pos (by decide),if_pos b]
  ·rw[if_neg (by simp),if_pos (by simp;omega),if_neg b]
 ·rw[if_neg a,if_neg (by omega)]
theorem nX (l:List UInt8):Km l false=(!(decide (l.headD 0=48)&&decide (1<l.length))&&l.all Ay)\/l=[]:=by
 cases l with
 | nil=>exact .inr rfl
 | cons c r =>
  left;unfold Km Se;have e:Ap (c::r) 0=c:=rfl;rw[e];have b:(c.toNat=48)↔c=48:=⟨fun h=>UInt8.toNat_inj.1 h,fun h=>by rw[h];rfl⟩
  congr 1
  cases r with
  | nil=>by_cases a:c=48<;>simp[a]
  | cons d r=>by_cases a:c=48<;>simp[b,a]
theorem J9 {m:Nat}{T:List UInt8}{br:St->Except (Nat×Nat) (AV (m+1)×St)}{p:Nat}{hv:Bool}(h:(Fa (T.drop (Av T p))).1=0\/(Fa (T.drop (Av T p))).1=5):Dl T br (pos T p hv)=.error (1,Av T p):=by
 unfold Dl;rw[Gi];simp only;rw[if_neg (by omega),if_neg (by omega),if_neg (by omega),if_neg (by omega)]
def I4 {m:Nat}(T:List UInt8)(q:Nat)(hv:Bool)(x:Nat×Int×List UInt8×Nat×Nat):Except (Nat×Nat) (AV (m+1)×St) :=
 if x.2.2.2.1=0 then .ok ((⟨x.1,x.2.1,x.2.2.1,[],[]⟩:Ag (AV m)),pos T x.2.2.2.2 hv) else .error (x.2.2.2.1,q)
theorem Uu (T:List UInt8)(f:Nat):(T.take (f+A5 (T.drop f))).drop f=(T.drop f).take (A5 (T.drop f)):=by
 rw[List.drop_take];congr 1;omega
theorem Od (T:List UInt8)(q:Nat):Ap (T.drop q) 0=Ap T q:=by
 unfold Ap List.getD;rw[List.getElem?_drop,Nat.add_zero]
theorem J2 {l:List UInt8}(h:C9 (Ap l 0)=true)(hl:0<l.length):∃c r,l.take (A5 l)=c::r/\c=Ap l 0/\1<=A5 l:=by
 cases l with
 | nil=>simp at hl
 | cons c r =>
  have e:Ap (c::r) 0=c:=rfl;rw[e] at h |-;refine⟨c,r.takeWhile C9,?_,rfl,?_⟩
  ·rw[Vz,List.takeWhile_cons,if_pos h]
  ·unfold A5;rw[List.takeWhile_cons,if_pos h];simp
theorem Zl {l:List UInt8}(h:C9 (Ap l 0)=false):l.take (A5 l)=[]:=by
 rw[Vz];cases l with
 | nil=>rfl
 | cons c r =>
  have e:Ap (c::r) 0=c:=rfl;rw[e] at h;rw[List.takeWhile_cons,if_neg (by simp[h])]
theorem dR {m:Nat}{T:List UInt8}{br:St->Except (Nat×Nat) (AV (m+1)×St)}{p:Nat}{hv:Bool}(hlen:Av T p<T.length)(hc:C8 (Ap T (Av T p))=true) :
  Dl T br (pos T p hv)=I4 T (Av T p) hv (Bf T (Av T p)):=by
 obtain⟨q,v⟩:∃q,Av T p=q:=⟨_,rfl⟩;rw[v] at hlen hc;have o:=Od T q;have t:0<(T.drop q).length:=by rw[List.length_drop];omega
 have a:C9 (Ap (T.drop q) 0)=true:=by rw[o];simp[C9,hc]
 obtain⟨c,r,x,y,z⟩:=J2 a t;have d:Fa (T.drop q)=(1,A5 (T.drop q)):=by
  unfold Fa;rw[if_neg (by omega),o,if_pos hc]
 have u:Ay (Ap T q)=false:=by
  cases h:Ay (Ap T q) with
  | false=>rfl
  | true=>have:=(cB _ h).2;rw[hc] at this;simp at this
 have k:¬_=34:=fun h=>by
  have:Ap T q=34:=UInt8.toNat_inj.1 h;rw[this] at hc;exact absurd hc (by decide)
 have n:¬_=45:=fun h=>by
  have:Ap T q=45:=UInt8.toNat_inj.1 h;rw[this] at hc;exact absurd hc (by decide)
 have b:=Uu T q;have w:Bf T q=Pv ((T.drop q).take (A5 (T.drop q))) (q+A5 (T.drop q)):=by
  unfold Bf;rw[if_neg (by omega),if_neg k,if_neg n];unfold Oc;rw[b,x];have s:Ap (c::r) 0=Ap T q:=by show c=_;rw[y,o]
  rw[if_neg (by simp),s,u,if_neg (by simp),if_neg (by simp[hc])]
 rw[v,w];unfold Dl;rw[Jb,Q4,Gi,v,d];simp only;rw[if_pos trivial];generalize (T.drop q).take _=l;unfold Pv I4;by_cases f:l=Z6
 ·rw[if_pos f,if_pos f];rfl
 ·rw[if_neg f,if_neg f];by_cases g:l=Ta
  ·rw[if_pos g,if_pos g];rfl
  ·rw[if_neg g,if_neg g];by_cases i:l=Nr
   ·rw[if_pos i,if_pos i];rfl
   ·rw[if_neg i,if_neg i];by_cases e:Bw l=true
    ·rw[if_pos e];simp[e]
    ·rw[if_neg e];by_cases j:16<l.length
     ·rw[if_pos j];simp[e,j]
     ·rw[if_neg j];simp[e,j];rfl
/-- a number without a sign -/
theorem Xw {m:Nat}{T:List UInt8}{br:St->Except (Nat×Nat) (AV (m+1)×St)}{p:Nat}{hv:Bool}(hlen:Av T p<T.length)(hc:Ay (Ap T (Av T p))=true) :
  Dl T br (pos T p hv)=I4 T (Av T p) hv (Bf T (Av T p)):=by
 obtain⟨q,t⟩:∃q,Av T p=q:=⟨_,rfl⟩;rw[t] at hlen hc;have A:=Od T q;have g:0<(T.drop q).length:=by rw[List.length_drop];omega
 have k:C9 (Ap (T.drop q) 0)=true:=by rw[A];simp[C9,hc]
 obtain⟨c,r,u,v,K⟩:=J2 k g;have D:=(cB _ hc).2;have y:¬_=34:=fun h=>by
  have:Ap T q=34:=UInt8.toNat_inj.1 h;rw[this] at hc;exact absurd hc (by decide)
 have z:¬_=45:=fun h=>by
  have:Ap T q=45:=UInt8.toNat_inj.1 h;rw[this] at hc;exact absurd hc (by decide)
 have e:Fa (T.drop q)=De (T.drop q):=by
  unfold Fa;rw[if_neg (by omega),A,if_neg (by simp[D]),if_pos hc]
 have o:=Uu T q;have B:Ap (c::r) 0=Ap T q:=by show c=_;rw[v,A]
 have E:Bf T q=Ob ((T.drop q).take (A5 (T.drop q))) false q (q+A5 (T.drop q)):=by
  unfold Bf;rw[if_neg (by omega),if_neg y,if_neg z];unfold Oc;rw[o,u,if_neg (by simp),B,hc,if_pos rfl];simp
 have f:(T.drop q).headD 0=c:=by
  cases H:T.drop q with
  | nil=>rw[H] at g;simp at g
  | cons a b=>rw[H] at v;exact v.symm
 have i:((T.drop q).take (A5 (T.drop q))).length=A5 (T.drop q):=by rw[List.length_take];have:=Gz (T.drop q);omega
 have j:=(nX ((T.drop q).take (A5 (T.drop q)))).resolve_right (by rw[u];simp);have C:((T.drop q).take (A5 (T.drop q))).headD 0=c:=by rw[u];rfl
 rw[C,i] at j;rw[t,E];have s:De (T.drop q)=(if Km ((T.drop q).take (A5 (T.drop q))) false then 2 else 5,A5 (T.drop q)):=by
  unfold De;rw[f,j];by_cases n:c=48/\1<A5 (T.drop q)
  ·rw[if_pos n];simp[n.1,n.2]
  ·rw[if_neg n];have I:(decide (c=48)&&decide (1<A5 (T.drop q)))=false:=by
    rw[Bool.and_eq_false_iff];by_cases F:c=48
    ·right;simp only[decide_eq_false_iff_not];exact fun h=>n ⟨F,h⟩
    ·left;simp[F]
   rw[I];cases d:((T.drop q).take (A5 (T.drop q))).all Ay<;>simp
 cases l:Km ((T.drop q).take (A5 (T.drop q))) false with
 | false =>
  rw[J9 (by rw[t,e,s,l];simp),t];unfold Ob I4 Fb;rw[l];rfl
 | true =>
  have d:=by
   rw[j,Bool.and_eq_true] at l;exact List.all_eq_true.1 l.2
  have J:=nV _ (by rw[u];simp) d;unfold Dl;rw[Jb,Q4,Gi,t,e,s,l];simp only;rw[if_neg (by simp),if_pos (by simp),J];unfold Ob I4 Fb;rw[l];generalize E7 0 _=N;by_cases G:N<9223372036854775808
  ·have w:¬9223372036854775808<N:=by omega
   have x:¬N=9223372036854775808:=by omega
   rw[if_pos G];simp[w,x];rfl
  ·rw[if_neg G];by_cases x:N=9223372036854775808
   ·simp[x]
   ·have w:9223372036854775808<N:=by omega
    simp[w]
theorem Sf (c:UInt8):Ay c=true↔48<=c.toNat/\c.toNat<=57:=by
 simp[Ay,UInt8.le_iff_toNat_le]
theorem lK {T:List UInt8}{q:Nat}(h:q<T.length):T.drop q=Ap T q::T.drop (q+1):=by
 rw[List.drop_eq_getElem_cons h]
 congr 1
 simp[Ap,List.getD,List.getElem?_eq_getElem h]
theorem aY {m:Nat}{T:List UInt8}{br:St->Except (Nat×Nat) (AV (m+1)×St)}{p:Nat}{hv:Bool}(hlen:Av T p<T.length)(hc:Ap T (Av T p)=45) :
  Dl T br (pos T p hv)=I4 T (Av T p) hv (Bf T (Av T p)):=by
 obtain⟨q,o⟩:∃q,Av T p=q:=⟨_,rfl⟩;rw[o] at hlen hc;have k:=lK hlen;rw[hc] at k;have G:Ap (T.drop q) 0=45:=by rw[k];rfl
 have v:Ap (T.drop q) 1=Ap (T.drop (q+1)) 0:=by rw[k];rfl
 have w:(T.drop q).drop 1=T.drop (q+1):=by rw[k];rfl
 have B:(T.drop q).length=(T.drop (q+1)).length+1:=by rw[k];rfl
 have f:Fa (T.drop q)=Po (T.drop q):=by
  unfold Fa;rw[if_neg (by omega),G,if_neg (by decide),if_neg (by decide),if_pos (by decide)]
 have s:=Uu T (q+1);have D:Bf T q=Oc T q (q+1):=by
  unfold Bf;rw[if_neg (by omega),hc,if_neg (by decide),if_pos (by decide)]
 rw[o,D];unfold Oc;rw[s];have a:Po (T.drop q)=if (T.drop (q+1)).length<1\/(Ap (T.drop (q+1)) 0).toNat<49\/57<(Ap (T.drop (q+1)) 0).toNat then(5,1) else((De (T.drop (q+1))).1,(De (T.drop (q+1))).2+1):=by
  unfold Po;rw[v,w,B];simp only[Nat.add_lt_add_iff_right,show(2:Nat)=1+1 from rfl]
 obtain⟨l,I⟩:∃l,T.drop (q+1)=l:=⟨_,rfl⟩;rw[I] at a k |-;have e:_->Dl T br (pos T p hv)=_:=fun h=>by
  rw[J9 (by rw[o,f,a,if_pos h];exact .inr rfl),o]
 cases b:C9 (Ap l 0) with
 | false =>
  rw[Zl b,if_pos rfl];refine e ?_;have:¬Ay (Ap l 0)=true:=fun h=>by simp[C9,h] at b
  rw[Sf] at this;omega
 | true =>
  by_cases A:0<l.length
  ·obtain⟨c,r,t,F,L⟩:=J2 b A;have z:Ap (l.take (A5 l)) 0=Ap l 0:=by rw[t,<- F];rfl
   rw[if_neg (by rw[t];simp),z];cases j:Ay (Ap l 0) with
   | false =>
    rw[if_neg (by simp),if_pos (.inl (by omega))];refine e ?_;have:¬Ay (Ap l 0)=true:=by simp[j]
    rw[Sf] at this;omega
   | true =>
    rw[if_pos rfl];have K:decide (q<q+1)=true:=by simp
    rw[K];have H:=(Sf _).1 j;by_cases g:(Ap l 0).toNat=48
    ·rw[e (by omega)];have:Km (l.take (A5 l)) true=false:=by
      unfold Km Se;rw[z];simp[g]
     unfold Ob I4 Fb;rw[this];rfl
    ·have C:¬(l.length<1\/(Ap l 0).toNat<49\/57<(Ap l 0).toNat):=by omega
     rw[if_neg C] at a;have i:Km (l.take (A5 l)) true=(l.take (A5 l)).all Ay:=by
      unfold Km Se;rw[z];simp[g]
     have n:¬l.headD 0=48:=by
      have:l.headD 0=Ap l 0:=by cases l<;>rfl
      rw[this];intro h;rw[h] at g;exact g rfl
     have x:De l=(if (l.take (A5 l)).all Ay then 2 else 5,A5 l):=by
      unfold De;rw[if_neg (fun h=>n h.1)];cases(l.take (A5 l)).all Ay<;>simp
     rw[x] at a;cases d:(l.take (A5 l)).all Ay with
     | false =>
      rw[d] at a i;rw[J9 (by rw[o,f,a];simp),o];unfold Ob I4 Fb;rw[i];rfl
     | true =>
      rw[d] at a i;have J:=nW _ (by rw[t];simp) (List.all_eq_true.1 d);unfold Dl;rw[Jb,Q4,Gi,o,f,a,k];simp only;rw[if_neg (by simp),if_pos (by simp),List.take_succ_cons,J];unfold Ob I4 Fb;rw[i];generalize E7 0 (l.take (A5 l))=N;have y:q+(A5 l+1)=q+1+A5 l:=by omega
      rw[y];by_cases E:N<=9223372036854775808
      ·have u:¬9223372036854775808<N:=by omega
       rw[if_pos E];simp[u];rfl
      ·rw[if_neg E];have u:9223372036854775808<N:=by omega
       simp[u]
  ·rw[show l=[] from List.length_eq_zero_iff.1 (by omega)] at b;exact absurd b (by decide)
theorem aZ {m:Nat}{T:List UInt8}{br:St->Except (Nat×Nat) (AV (m+1)×St)}{p:Nat}{hv:Bool}(hlen:Av T p<T.length)(hc:Ap T (Av T p)=34) :
  Dl T br (pos T p hv)=I4 T (Av T p) hv (Bf T (Av T p)):=by
 obtain⟨q,d⟩:∃q,Av T p=q:=⟨_,rfl⟩;rw[d] at hlen hc;have g:=lK hlen;rw[hc] at g;have o:Ap (T.drop q) 0=34:=by rw[g];rfl
 have i:(T.drop q).drop 1=T.drop (q+1):=by rw[g];rfl
 have r:(T.drop q).length=(T.drop (q+1)).length+1:=by rw[g];rfl
 have a:Fa (T.drop q)=Ci (T.drop (q+1)) 1:=by
  unfold Fa;rw[if_neg (by omega),o,if_neg (by decide),if_neg (by decide),if_neg (by decide),if_pos (by decide),i]
 have k:=Tp (T.drop (q+1)) q 1;have b:=J5 (T.drop (q+1)) 1;have l:Bf T q=if (Ci (T.drop (q+1)) 1).1=3 then(3,0,(T.take (q+(Ci (T.drop (q+1)) 1).2-1)).drop (q+1),0,q+(Ci (T.drop (q+1)) 1).2) else Fb 1 q:=by
  unfold Bf;rw[if_neg (by omega),hc,if_pos (by decide),k]
 rw[d,l];obtain⟨n,c,f⟩:∃n c,Ci (T.drop (q+1)) 1=(n,c):=⟨_,_,rfl⟩;have j:c<=(T.drop q).length:=by
  have:=(lB (T.drop q));rw[a,f] at this;exact this
 rw[f] at a b |-;simp only at b |-;rcases b with h|h
 ·subst h;rw[if_pos rfl];unfold Dl;rw[Jb,Q4,Gi,d,a];simp only;rw[if_neg (by decide),if_neg (by decide),if_pos trivial];unfold I4;rw[if_pos rfl];have e:((((T.drop q).take c).take (((T.drop q).take c).length-1)).drop 1)=(T.take (q+c-1)).drop (q+1):=by
   rw[List.length_take,Nat.min_eq_left j,List.take_take,Nat.min_eq_left (by omega),List.drop_take,List.drop_take,List.drop_drop]
   congr 1;omega
  rw[e];rfl
 ·subst h;rw[if_neg (by decide),J9 (by rw[d,a];exact .inr rfl),d];rfl
theorem iJ {m:Nat}{T:List UInt8}{br:St->Except (Nat×Nat) (AV (m+1)×St)}{p:Nat}{hv:Bool}(hlen:Av T p=T.length) :
  Dl T br (pos T p hv)=I4 T (Av T p) hv (Bf T (Av T p)):=by
 rw[J9 (by rw[hlen,List.drop_length];exact .inl rfl)];unfold Bf;rw[if_pos hlen.symm];rfl
theorem bA {m:Nat}{T:List UInt8}{br:St->Except (Nat×Nat) (AV (m+1)×St)}{p:Nat}{hv:Bool}(hbr:br (pos T p hv)=.error (1,Av T p))(hlen:Av T p<T.length)(h1:C8 (Ap T (Av T p))=false)(h2:Ay (Ap T (Av T p))=false)(h3:¬Ap T (Av T p)=45)(h4:¬Ap T (Av T p)=34) :
  Dl T br (pos T p hv)=I4 T (Av T p) hv (Bf T (Av T p)):=by
 obtain⟨q,d⟩:∃q,Av T p=q:=⟨_,rfl⟩;rw[d] at hlen h1 h2 h3 h4;have l:=Od T q;have i:0<(T.drop q).length:=by rw[List.length_drop];omega
 have e:¬_=34:=fun h=>h4 (UInt8.toNat_inj.1 h);have f:¬_=45:=fun h=>h3 (UInt8.toNat_inj.1 h);have b:Fa (T.drop q)=Kz (T.drop q):=by
  unfold Fa;rw[if_neg (by omega),l,if_neg (by simp[h1]),if_neg (by simp[h2]),if_neg f,if_neg e]
 have g:(Kz (T.drop q)).1=4\/(Kz (T.drop q)).1=5:=by
  unfold Kz;repeat' split
  all_goals simp
 have j:Bf T q=Fb 1 q:=by
  unfold Bf;rw[if_neg (by omega),if_neg e,if_neg f];unfold Oc;rw[Uu];cases a:C9 (Ap (T.drop q) 0) with
  | false=>rw[Zl a,if_pos rfl]
  | true =>
   obtain⟨c,r,k,n,t⟩:=J2 a i;have s:Ap ((T.drop q).take (A5 (T.drop q))) 0=Ap T q:=by rw[k,<- l,<- n];rfl
   rw[if_neg (by rw[k];simp),s,h2,if_neg (by simp),if_pos (.inr h1)]
 have o:Dl T br (pos T p hv)=.error (1,q):=by
  rcases g with h|h
  ·rw[d] at hbr;rw[<- hbr];unfold Dl;rw[show(pos T p hv).cl=4 from by rw[Gi,d,b,h]];simp
  ·rw[J9 (by rw[d,b];exact .inr h),d]
 rw[o,d,j];rfl
theorem Oe {m:Nat}{T:List UInt8}{br:St->Except (Nat×Nat) (AV (m+1)×St)}{p:Nat}{hv:Bool}(hle:Av T p<=T.length)(hbr:br (pos T p hv)=.error (1,Av T p)) :
  Dl T br (pos T p hv)=I4 T (Av T p) hv (Bf T (Av T p)):=by
 by_cases f:Av T p=T.length
 ·exact iJ f
 ·have a:Av T p<T.length:=by omega
  cases b:C8 (Ap T (Av T p)) with
  | true=>exact dR a b
  | false =>
   cases c:Ay (Ap T (Av T p)) with
   | true=>exact Xw a c
   | false =>
    by_cases d:Ap T (Av T p)=45
    ·exact aY a d
    ·by_cases e:Ap T (Av T p)=34
     ·exact aZ a e
     ·exact bA hbr a b c d e
/-- what the reference holds Bb a reading that came to R -/
def Ck {β:Type}(T:List UInt8)(R:Except (Nat×Nat) (β×St))(s:RSt)(x:β)(s':RSt):Prop :=
 s'.deep=s.deep/\s'.at'<=T.length/\s.at'<=s'.at'/\(s.e≠0->s'.e=s.e/\s'.bad=s.bad)/\(s.e=0->(s'.e=0/\R=.ok (x,pos T s'.at' s'.hv))\/(s'.e≠0/\R=.error (s'.e,s'.bad)))
def rS (w:World)(br:Nat)(t:ByteArray)(s:RSt)(d:Nat)(e:Ending)(w':World):Prop :=
 ∃(v:Value)(x:AV (d+1))(s':RSt),e=.returned v/\Fr (·≠br) w w'/\Ref (fun k=>w.heap.size<=k) w' (d+1) x v/\(wtR (d+1) x=wt (d+1) x/\wt (d+1) x<=1024)/\RR w' br t s'/\Ck t.data.toList (A8 t.data.toList d (pos t.data.toList s.at' s.hv)) s x s'
def dS (d:Nat):Prop:=∀(w:World)(br:Nat)(t:ByteArray)(s:RSt),RR w br t s->s.deep=24-d->s.at'<=t.size->t.size<=4000 ->
 Calls prog 27 #[.pointer (some ⟨br,0,none⟩)] w (rS w br t s d)
structure Ho (base:Nat)(wr:World)(n:Nat)(s1 s2:Value)(h1 h2:List H5)(k1 k2:List (AV n)):Prop where
 o1:wr.ownsRow base 30 5 s1 h1.length (Bi h1)
 o2:wr.ownsRow base 30 5 s2 h2.length (Bi h2)
 dis:∀g,s1.ownBlock=some g->s2.ownBlock≠some g
 a1:Are (fun k=>base<=k/\s1.ownBlock≠some k/\s2.ownBlock≠some k) wr n k1 h1
 a2:Are (fun k=>base<=k/\s1.ownBlock≠some k/\s2.ownBlock≠some k) wr n k2 h2
 m1:∀x∈k1,wtR n x=wt n x/\wt n x<=1024
 m2:∀x∈k2,wtR n x=wt n x/\wt n x<=1024
theorem Are.fr {P Q:Nat->Prop}{w w':World}{n:Nat}{es:List (AV n)}{hs:List H5}(h:Are P w n es hs)(hf:Fr P w w')(hQ:∀k,k<w.heap.size->P k->Q k):Are Q w' n es hs :=
 ⟨h.1,fun i x g hx hg=>(h.2 i x g hx hg).fr hf hQ _ _ _⟩
theorem Ho.keep {base n:Nat}{w w':World}{s1 s2:Value}{h1 h2:List H5}{k1 k2:List (AV n)}(h:Ho base w n s1 s2 h1 h2 k1 k2)(hf:Fr (fun k=>base<=k) w w'):Ho base w' n s1 s2 h1 h2 k1 k2 :=
 ⟨Bo h.o1 (fun g hg hl=>hf.block g hl hg),Bo h.o2 (fun g hg hl=>hf.block g hl hg),h.dis,h.a1.fr (hf.mono (fun _ q=>q.1)) (fun _ _ q=>q),h.a2.fr (hf.mono (fun _ q=>q.1)) (fun _ _ q=>q),h.m1,h.m2⟩
theorem Ho.nil (base:Nat)(w:World)(n:Nat):Ho base w n (.slice none 0 0) (.slice none 0 0) [] [] [] [] :=
 ⟨Ca _ _,Ca _ _,fun g e=>by simp[Value.ownBlock] at e,⟨rfl,fun i x h hx=>by simp at hx⟩,⟨rfl,fun i x h hx=>by simp at hx⟩,fun x hx=>by simp at hx,fun x hx=>by simp at hx⟩
theorem Mq (T:List UInt8)(p:Nat):Av T (Av T p)=Av T p:=by
 unfold Av;rw[<- List.drop_drop];have:∀l:List UInt8,Dg (l.drop (Dg l))=0:=by
  intro l
  induction l with
  | nil=>rfl
  | cons c r ih =>
   unfold Dg at ih |-;rw[List.takeWhile_cons];split
   ·simpa using ih
   ·rename_i h;simp[h]
 rw[this];rfl
theorem dT (T:List UInt8)(p:Nat)(hv:Bool):pos T (Av T p) hv=pos T p hv:=by
 rw[Gi,Gi,Mq]
def Pw {β:Type}(T cl:List UInt8)(item:St->Except (Nat×Nat) (β×St))(R:Except (Nat×Nat) (List β×St))(f:Nat)(ks:List β)(en:Bool)(s1:RSt):Prop :=
 s1.at'<=T.length/\ks.length<=s1.at'+1 /\
 ((
  s1.e≠0/\R=.error (s1.e,s1.bad))\/(s1.e=0/\en=true/\R=.ok (ks,pos T s1.at' s1.hv)) \/
  (s1.e=0/\en=false/\R=Nn ks (Cl T cl item f (pos T s1.at' s1.hv))/\T.length+1<=f+s1.at'/\ks.length<=s1.at'))
theorem nY {β:Type}(a b:List β)(r:Except (Nat×Nat) (List β×St)):Nn a (Nn b r)=Nn (a++b) r:=by
 cases r with
 | error e=>rfl
 | ok q=>obtain⟨l,s⟩:=q;simp[Nn]
theorem nZ {β:Type}{T cl:List UInt8}{item:St->Except (Nat×Nat) (β×St)}{f:Nat}{S:St}{x:β}{S1:St}(h:item S=.ok (x,S1)) :
  Cl T cl item (f+1) S=if isP T S1 cl then .ok ([x],Cb T S1) else if isP T S1 [44] then Nn [x] (Cl T cl item f (Cb T S1)) else .error (1,S1.at'):=by
 simp only[Cl,h];split
 ·rfl
 ·split
  ·unfold Nn;cases Cl T cl item f (Cb T S1)<;>rfl
  ·rfl
theorem Wg (T m:List UInt8)(s:RSt)(h:s.e≠0):Ep T m s=false/\(Cq T m s).e=s.e/\(Cq T m s).bad=s.bad:=by
 have:Ep T m s=false:=by unfold Ep;simp[h]
 exact⟨this,rfl,rfl⟩
theorem Mr (T m:List UInt8)(s:RSt)(ha:s.at'<=T.length):s.at'<=(Cq T m s).at'/\(Cq T m s).at'<=T.length:=by
 have h:=Ir ha;unfold Cq;simp only;split
 ·rename_i hb
  unfold Ep at hb;rw[Bool.and_eq_true] at hb;have:=List.IsPrefix.length_le (List.isPrefixOf_iff_prefix.1 hb.2);rw[List.length_drop] at this;omega
 ·exact h
theorem Q8 (T m:List UInt8)(s:RSt)(ha:s.at'<=T.length):s.at'<=(Hn T m s).at'/\(Hn T m s).at'<=T.length/\(Hn T m s).deep=s.deep:=by
 have h:=Mr T m s ha;unfold Hn;split
 ·exact⟨h.1,h.2,rfl⟩
 ·unfold Hg;split
  ·exact⟨h.1,h.2,rfl⟩
  ·exact⟨h.1,h.2,rfl⟩
theorem Wh (T m:List UInt8)(s:RSt)(h:s.e≠0):(Hn T m s).e=s.e/\(Hn T m s).bad=s.bad:=by
 have q:=Wg T m s h;unfold Hn;rw[q.1,if_neg (by simp)];unfold Hg;rw[if_neg (by rw[q.2.1];exact h)];exact⟨rfl,rfl⟩
theorem lL (T m:List UInt8)(s:RSt)(hm:Sgn m)(h:s.e=0) :
  (isP T (pos T s.at' s.hv) m=true/\(Hn T m s).e=0/\Cb T (pos T s.at' s.hv)=pos T (Hn T m s).at' s.hv/\(Hn T m s).hv=s.hv)\/(isP T (pos T s.at' s.hv) m=false/\(Hn T m s).e=1/\(Hn T m s).bad=Av T s.at'):=by
 have c:=dQ T s.at' s.hv m hm;have a:Ep T m s=Lib.hasPrefix (T.drop (Av T s.at')) m:=by unfold Ep;simp[h]
 rw[c.1];unfold Hn;rw[a];cases b:Lib.hasPrefix (T.drop (Av T s.at')) m with
 | true =>
  left;refine⟨rfl,?_,?_,?_⟩
  ·simp[Cq,h]
  ·rw[c.2 b];simp[Cq,a,b]
  ·simp[Cq]
 | false =>
  right;refine⟨rfl,?_,?_⟩
  ·simp[Hg,Cq,h]
  ·simp[Hg,Cq,h,a,b]
theorem Uv (T m:List UInt8)(s:RSt)(hm:Sgn m)(h:s.e=0) :
  Ep T m s=isP T (pos T s.at' s.hv) m/\(Ep T m s=true->Cb T (pos T s.at' s.hv)=pos T (Cq T m s).at' s.hv/\(Cq T m s).at'=Av T s.at'+m.length)/\(Ep T m s=false->pos T (Cq T m s).at' s.hv=pos T s.at' s.hv):=by
 have b:=dQ T s.at' s.hv m hm;have a:Ep T m s=Lib.hasPrefix (T.drop (Av T s.at')) m:=by unfold Ep;simp[h]
 refine⟨by rw[a,b.1],fun q=>?_,fun q=>?_⟩
 ·rw[b.2 (by rw[<- a];exact q)];simp[Cq,q]
 ·simp only[Cq,q];exact dT T s.at' s.hv
theorem zD:Sgn [44]:=by unfold Sgn;simp
theorem rT {T:List UInt8}{S:St}{c m:List UInt8}(h1:isP T S m=true)(h2:isP T S c=true):m=c:=by
 unfold isP at h1 h2;rw[Bool.and_eq_true,beq_iff_eq] at h1 h2;rw[<- h1.2,h2.2]
theorem Pw.round {β:Type}{T cl:List UInt8}{item:St->Except (Nat×Nat) (β×St)}{R:Except (Nat×Nat) (List β×St)}{f:Nat}{ks:List β}{s1 s2:RSt}{x:β}(hcl:Sgn cl)(h44:[44]≠cl)(h:Pw T cl item R f ks false s1)(he:s1.e=0)(ha:Ck T (item (pos T s1.at' s1.hv)) s1 x s2) :
  (Ep T [44] s2=true->Pw T cl item R (f-1) (ks++[x]) false (Cq T [44] s2)/\1<=f)/\(Ep T [44] s2=false->∀f',Pw T cl item R f' (ks++[x]) true (Hn T cl (Cq T [44] s2))):=by
 obtain⟨J,K,B⟩:=h;obtain⟨E,r,F,G,w⟩:=ha;obtain⟨a,H,I⟩:R=Nn ks (Cl T cl item f (pos T s1.at' s1.hv))/\T.length+1<=f+s1.at'/\ks.length<=s1.at':=by
  rcases B with q|q|q
  ·exact absurd he q.1
  ·exact absurd q.2.1 (by simp)
  ·exact q.2.2
 obtain⟨g,rfl⟩:∃g,f=g+1:=⟨f-1,by omega⟩;have t:=Mr T [44] s2 r;have u:=Q8 T cl (Cq T [44] s2) t.2;have s:(ks++[x]).length=ks.length+1:=by simp
 rcases w he with⟨c,k⟩|⟨c,k⟩
 ·rw[nZ k] at a;have d:=Uv T [44] s2 zD c;constructor
  ·intro b;obtain⟨y,z⟩:=d.2.1 b;rw[b] at d;have m:isP T (pos T s2.at' s2.hv) cl=false:=by
    cases C:isP T (pos T s2.at' s2.hv) cl with
    | false=>rfl
    | true=>exact absurd (rT d.1.symm C) h44
   rw[m,if_neg (by simp),<- d.1,if_pos rfl,nY,y] at a;have L:=(Ir r).1;simp only[List.length_singleton] at z;refine⟨⟨t.2,by omega,.inr (.inr ⟨c,rfl,a,by simp only[Nat.add_sub_cancel];omega,by omega⟩)⟩,by omega⟩
  ·intro b f';have A:=d.2.2 b;rw[b] at d;rw[<- d.1] at a;have v:=lL T cl (Cq T [44] s2) hcl c;have l:(Cq T [44] s2).hv=s2.hv:=rfl;rw[l,A] at v;refine⟨u.2.1,by omega,?_⟩;rcases v with⟨n,j,o,D⟩|⟨n,j,o⟩
   ·rw[n,if_pos rfl,o] at a;exact .inr (.inl ⟨j,rfl,by rw[a,D];rfl⟩)
   ·rw[n,if_neg (by simp),if_neg (by simp)] at a;refine .inl ⟨by rw[j];decide,?_⟩;rw[a,j,o];have:(Cq T [44] s2).at'=Av T s2.at':=by simp[Cq,b]
    rw[this,Mq];rfl
 ·have i:=Wg T [44] s2 c;constructor
  ·intro b;rw[i.1] at b;simp at b
  ·intro _ f';have p:=Wh T cl _ (by rw[i.2.1];exact c);refine⟨u.2.1,by omega,.inl ⟨by rw[p.1,i.2.1];exact c,?_⟩⟩;rw[a,p.1,p.2,i.2.1,i.2.2];simp only[Cl,k];rfl
theorem Pw.agree {β:Type}{T cl:List UInt8}{item:St->Except (Nat×Nat) (β×St)}{R:Except (Nat×Nat) (List β×St)}{f:Nat}{ks:List β}{en:Bool}{s s1:RSt}{dp:Nat}(h:Pw T cl item R f ks en s1)(hd:s1.e≠0\/en=true)(he:s.e=0)(hdp:dp=s.deep)(ha:s.at'<=s1.at'):Ck T R s ks { s1 with deep:=dp }:=by
 refine⟨hdp,h.1,ha,fun q=>absurd he q,fun _=>?_⟩;rcases h.2.2 with q|q|q
 ·exact .inr ⟨q.1,q.2⟩
 ·exact .inl ⟨q.1,q.2.2⟩
 ·rcases hd with r|r
  ·exact absurd q.1 r
  ·rw[q.2.1] at r;simp at r
theorem Zm {w w':World}{base:Nat}{sl:Value}{n:Nat}{vs:List Value}(h:w.ownsRow base 30 5 sl n vs)(hb:∀g,g<w.heap.size->sl.ownBlock=some g->w'.heap[g]?=w.heap[g]?):w'.ownsRow base 30 5 sl n vs:=by
 refine⟨h.1,?_⟩;rcases h.2 with q|⟨b,d,a,e,f,c,i⟩
 ·exact .inl q
 ·exact .inr ⟨b,d,a,e,f,(hb b (Aa c) (by rw[e];rfl)).trans c,i⟩
theorem Ho.put1 {base n:Nat}{W w':World}{s1 s2:Value}{h1 h2:List H5}{k1 k2:List (AV n)}{g cap L:Nat}{u:H5}{x:AV n}(h:Ho base W n s1 s2 h1 h2 k1 k2)(ow:Gh w' base g cap (h1++[u]))(hL:L=(h1++[u]).length)(fw:Fr (fun k=>k<W.heap.size/\s1.ownBlock≠some k) W w')(hg:s1.ownBlock=some g\/W.heap.size<=g)
  (hx:Ref (fun k=>base<=k/\s1.ownBlock≠some k/\s2.ownBlock≠some k) W n x u.v) (hm:wtR n x=wt n x/\wt n x<=1024):Ho base w' n (.slice (some ⟨g,0,none⟩) L cap) s2 (h1++[u]) h2 (k1++[x]) k2:=by
 have a:Fr (fun k=>base<=k/\_≠some k/\s2.ownBlock≠some k) W w':=⟨fw.os,fw.tape,fw.output,fw.size,fun i hi hp=>fw.block i hi ⟨hi,hp.2.1⟩⟩;have b:∀k,k<W.heap.size->(base<=k/\s1.ownBlock≠some k/\s2.ownBlock≠some k)->(base<=k/\(Value.slice (some ⟨g,0,none⟩) L cap).ownBlock≠some k/\s2.ownBlock≠some k):=by
  intro k hk q;refine⟨q.1,?_,q.2.2⟩;intro e;simp only[Value.ownBlock,Option.some.injEq] at e;subst e;rcases hg with r|r
  ·exact q.2.1 r
  ·omega
 subst hL;refine⟨ow.owns,Zm h.o2 (fun k hk e=>fw.block k hk ⟨hk,fun q=>h.dis k q e⟩),?_,(h.a1.snoc hx).fr a b,h.a2.fr a b,?_,h.m2⟩
 ·intro k hk;simp only[Value.ownBlock,Option.some.injEq] at hk;subst hk;rcases hg with q|q
  ·exact h.dis g q
  ·intro e;have:=(Cp h.o2 e).2;omega
 ·intro y c;rcases List.mem_append.1 c with q|q
  ·exact h.m1 y q
  ·rw[List.mem_singleton.1 q];exact hm
theorem Ho.put2 {base n:Nat}{W w':World}{s1 s2:Value}{h1 h2:List H5}{k1 k2:List (AV n)}{g cap L:Nat}{u:H5}{x:AV n}(h:Ho base W n s1 s2 h1 h2 k1 k2)(ow:Gh w' base g cap (h2++[u]))(hL:L=(h2++[u]).length)(fw:Fr (fun k=>k<W.heap.size/\s2.ownBlock≠some k) W w')(hg:s2.ownBlock=some g\/W.heap.size<=g)
  (hx:Ref (fun k=>base<=k/\s1.ownBlock≠some k/\s2.ownBlock≠some k) W n x u.v) (hm:wtR n x=wt n x/\wt n x<=1024):Ho base w' n s1 (.slice (some ⟨g,0,none⟩) L cap) h1 (h2++[u]) k1 (k2++[x]):=by
 have a:Fr (fun k=>base<=k/\s1.ownBlock≠some k/\_≠some k) W w':=⟨fw.os,fw.tape,fw.output,fw.size,fun i hi hp=>fw.block i hi ⟨hi,hp.2.2⟩⟩;have b:∀k,k<W.heap.size->(base<=k/\s1.ownBlock≠some k/\s2.ownBlock≠some k)->(base<=k/\s1.ownBlock≠some k/\(Value.slice (some ⟨g,0,none⟩) L cap).ownBlock≠some k):=by
  intro k hk q;refine⟨q.1,q.2.1,?_⟩;intro e;simp only[Value.ownBlock,Option.some.injEq] at e;subst e;rcases hg with r|r
  ·exact q.2.2 r
  ·omega
 subst hL;refine⟨Zm h.o1 (fun k hk e=>fw.block k hk ⟨hk,fun q=>h.dis k e q⟩),ow.owns,?_,h.a1.fr a b,(h.a2.snoc hx).fr a b,h.m1,?_⟩
 ·intro k hk e;simp only[Value.ownBlock,Option.some.injEq] at e;subst e;rcases hg with q|q
  ·exact h.dis g hk q
  ·have:=(Cp h.o1 hk).2;omega
 ·intro y c;rcases List.mem_append.1 c with q|q
  ·exact h.m2 y q
  ·rw[List.mem_singleton.1 q];exact hm
theorem Ho.apart {base n:Nat}{w W:World}{s1 s2:Value}{h1 h2:List H5}{k1 k2:List (AV n)}(h:Ho base w n s1 s2 h1 h2 k1 k2)(hb:base<=w.heap.size){x:AV n}{v:Value}(hx:Ref (fun k=>w.heap.size<=k) W n x v):Ref (fun k=>base<=k/\s1.ownBlock≠some k/\s2.ownBlock≠some k) W n x v :=
 hx.fr (Fr.refl _ W) (fun k _ hk=>⟨Ae0 hb hk,fun e=>by have:=(Cp h.o1 e).2;omega,fun e=>by have:=(Cp h.o2 e).2;omega⟩) _ _ _
def Ab1 (w:World)(br:Nat)(t:ByteArray)(s:RSt)(k:Nat)(R:Except (Nat×Nat) (List (AV (k+1))×St))(e:Ending)(w':World):Prop :=
 ∃(a:Option Addr)(len cap:Nat)(ks:List (AV (k+1)))(s':RSt),e=.returned (.tuple #[.slice a len cap,.slice none 0 0])/\Fr (·≠br) w w'/\Bm (fun j=>w.heap.size<=j) w' (Ref (fun j=>w.heap.size<=j) w' (k+1)) a len ks/\len<=4001/\(∀x∈ks,wtR (k+1) x=wt (k+1) x/\wt (k+1) x<=1024)/\RR w' br t s'/\Ck t.data.toList R s ks s'
theorem bB (k:Nat)(hV:dS k)(hk:k<=23)(w:World)(br:Nat)(t m:ByteArray)(s:RSt)(h:RR w br t s)(he:s.e=0)(hd:s.deep=23-k)(ha:s.at'<=t.size)(ht:t.size<=4000)(hm:Sgn m.data.toList)(h44:[44]≠m.data.toList)(hms:m.size<=2) :
  Calls prog 65 #[.pointer (some ⟨br,0,none⟩),.string m,.int .i64 0,.bool false] w (Ab1 w br t s k (Cy t.data.toList m.data.toList (A8 t.data.toList k) (pos t.data.toList s.at' s.hv))):=by
 have y:t.data.toList.length=t.size:=by simp
 obtain⟨R,N⟩:∃R,Cy t.data.toList m.data.toList (A8 t.data.toList k) (pos t.data.toList s.at' s.hv)=R:=⟨_,rfl⟩;rw[N];have HR:Hid (_=R):=N;clear N;have HV:Hid (dS k):=hV;have HM:Hid (_/\[44]≠m.data.toList):=⟨hm,h44⟩;clear hV hm h44;obtain⟨at',deep,e,D,hv⟩:=s;simp only at he hd ha HR;subst he;have c2:=Ab h 2;have f2:=Ad h 2;have hl:=Aa h;have g1:deep<=23:=by omega
 have HD:Hid (deep=23-k):=hd;clear hd;obtain⟨z,hz⟩:∃z,z=deep+1:=⟨_,rfl⟩;have g6:(deep:Int)+1=(z:Int):=by omega
 have g7:wrap64 (z:Int)=(z:Int):=by unfold wrap64;omega
 have hn:¬(24:Int)<(z:Int):=by omega
 have HZ:Hid (z=deep+1):=hz;clear hz;have HX:Hid (RR (w.setCell ⟨br,2,none⟩ (.int .i64 (z:Int))) br t ⟨at',z,0,D,hv⟩):=by
  have:=Ai h 2 (.int .i64 (z:Int));exact this
 have HF:Hid (Fr (·≠br) w (w.setCell ⟨br,2,none⟩ (.int .i64 (z:Int)))):=(Fr.refl _ w).set (by simp) _;clear h;have b5:Hid _:=fun W s mm q1 q2 q3=>Ly W br t mm s q1 q2 ht q3;have e4:Hid _:=fun W s q1 q2=>Zk W br t m s q1 q2 ht (by omega);generalize hP:Ab1 w br t _ k R=PP;have HP:Hid (_=PP):=hP;clear hP;go_enter func65,ntmps65
 go_wp2_with fail
 generalize w.setCell _ _=w0 at HX HF |-;refine(b5.out w0 _ m HX.out ha (by omega)).mono ?_;rintro e' w1 ⟨rfl,a7,c9⟩;have K:=Mr _ m.data.toList ⟨at',z,0,D,hv⟩ (by rw[y];exact ha);have U:=Uv t.data.toList _ ⟨at',z,0,D,hv⟩ HM.out.1 rfl;obtain⟨L,a8⟩:∃L,Cq t.data.toList m.data.toList ⟨at',z,0,D,hv⟩=L:=⟨_,rfl⟩;obtain⟨b,hb⟩:∃b,Ep t.data.toList m.data.toList ⟨at',z,0,D,hv⟩=b:=⟨_,rfl⟩;have E:L.e=0/\L.deep=z/\L.hv=hv:=by rw[<- a8];exact⟨rfl,rfl,rfl⟩
 rw[a8] at a7 K U;rw[hb] at U |-;have p:Hid (Pw t.data.toList m.data.toList (A8 t.data.toList k) R (t.size+1) [] b L/\L.deep=z/\at'<=L.at'):=by
  refine⟨⟨K.2,by simp,?_⟩,E.2.1,K.1⟩;have N:=HR.out;unfold Cy at N;simp only at U;cases b with
  | true =>
   rw[<- U.1,if_pos rfl,(U.2.1 rfl).1] at N;exact .inr (.inl ⟨E.1,rfl,by rw[E.2.2];exact N.symm⟩)
  | false =>
   rw[<- U.1,if_neg (by simp),y] at N;refine .inr (.inr ⟨E.1,rfl,?_,by rw[y];omega,by simp⟩);rw[E.2.2,U.2.2 rfl,<- N];unfold Nn;cases Cl t.data.toList m.data.toList (A8 t.data.toList k) (t.size+1) (pos t.data.toList at' hv)<;>rfl
 have c:Hid (RR w1 br t L):=a7;have o:Hid _:=HF.out.trans c9;clear a7 c9 a8 hb U K E HF HX HR w0 c2 f2;go_wp2_with fail
 go_loopg [10,11,12] (t.size+1) (fun f sk sl en wr=>∃(s2:RSt)(T:List (AV (k+1)))(S:List H5)(b2:Bool),sl=.slice none 0 0/\en=.bool b2/\Hid (Pw t.data.toList m.data.toList (A8 t.data.toList k) R f T b2 s2/\s2.deep=z/\at'<=s2.at')/\Hid (Ho w.heap.size wr (k+1) sk (.slice none 0 0) S [] T [])/\Hid (RR wr br t s2)/\Hid (Fr (·≠br) w wr))
 case atStart=>exact⟨L,[],[],b,rfl,rfl,p,Ho.nil _ _ _,c,o⟩
 case round =>
  clear p c o;obtain⟨s2,T,S,b2,rfl,rfl,p,HW,c,o⟩:=hrel;have J:=p.out.1.1;obtain⟨f9,G,e2,f7,g5⟩:=s2;have g2:G=z:=p.out.2.1;subst G;obtain⟨-,-,c2,c3⟩:=Ns c.out;have f2:=Ad c.out 2;have e5:=Aa c.out;have g8:wrap64 ((z:Int)-1)=(z:Int)-1:=by have:=HZ.out;unfold wrap64;omega
  have b6:Hid ((z:Int)-1=(deep:Int)):=by show _=_;have:=HZ.out;omega
  have d:Hid ((e2≠0\/b2=true)->PP (.returned (.tuple #[u10,.slice none 0 0])) (wr.setCell ⟨br,2,none⟩ (.int .i64 (deep:Int)))):=by
   intro hd;have hA:=p.out.1.agree (s:=⟨at',deep,0,D,hv⟩) (dp:=deep) hd rfl rfl p.out.2.2;have e7:S.length=T.length:=HW.out.a1.1;have d0:=p.out.1.2.1;have a:Fr (fun k=>w.heap.size<=k) wr (wr.setCell ⟨br,2,none⟩ (.int .i64 (deep:Int))):=(Fr.refl _ wr).set (by simp;omega) _;have C:=HW.out.keep a;obtain⟨K,sn,sc,rfl,P⟩:=Bu (Q:=fun k=>_<=k) C.o1 C.a1 (by simp only at d0 J;omega) (Fr.refl _ _) (fun g hg=>hg) (fun k hk hp=>hp.1);rw[<- HP.out];refine⟨K,sn,sc,T,_,rfl,o.out.set (by simp) _,P,?_,C.m1,?_,hA⟩
   ·have:=P.1;simp only at d0 J;omega
   ·exact Ai c.out 2 _
  by_cases c8:e2=0
  ·subst c8;cases b2 with
   | true =>
    have HE:=d.out (.inr rfl);clear d;go_wp2_with fail
    rw[b6.out];exact HE
   | false =>
    clear d;have f8:1<=gk:=by
     rcases p.out.1.2.2 with q|q|q
     ·exact absurd rfl q.1
     ·exact absurd q.2.1 (by simp)
     ·have:=q.2.2.2.1;simp only at J this;omega
    go_wp2_with fail
    refine(HV.out wr br t _ c.out (by have:=HZ.out;have:=HD.out;show z=24-k;omega) (by rw[<- y];exact J) ht).mono ?_;rintro e' M ⟨v,x,F,rfl,a4,hx,d2,d3,H⟩;have HX:Hid (Ref _ M (k+1) x v):=HW.out.apart o.out.size hx;have C:Hid _:=HW.out.keep (a4.mono (fun j hj=>by omega));have d5:=p.out.1.round HM.out.1 HM.out.2 rfl H;have B:Hid (_/\_):=d5;have a2:Hid (F.deep=z/\at'<=F.at'):=⟨H.1,Ae0 p.out.2.2 H.2.2.1⟩;have d6:F.at'<=t.size:=by rw[<- y];exact H.2.1
    have Y:Hid (RR M br t F):=d3;have V:Hid _:=o.out.trans a4;have e0:Hid (_/\_):=d2;have e7:S.length<=4001:=by
     have q1:S.length=T.length:=HW.out.a1.1;have q2:=p.out.1.2.1;simp only at q2 J;omega
    obtain⟨u,rfl⟩:=hx.ones;obtain⟨i0,e6,e8,e9,f0⟩:=info_parts Zi;have g0:=V.out.size;clear d5 H d2 hx a4 d3 HW p c o c3 c2 f2 e5;have mo:=follows;unfold H5.v;have f1:=Ae u.o0;have f3:=Ae u.o1;have f4:=Ae u.o2;have f5:=Ae u.o3;have f6:=Ae u.o4;have G2:Ac M ((M.alloc (.cells #[u.c0,u.c1,u.c2,u.c3,u.c4] 30)).alloc (.cells #[u.c0,u.c1,u.c2,u.c3,u.c4] 30)):=((Ac.refl M).alloc _).alloc _;have b9:Hid (((M.alloc (.cells #[u.c0,u.c1,u.c2,u.c3,u.c4] 30)).alloc _).heap[M.heap.size+1]?=some (.cells #[u.c0,u.c1,u.c2,u.c3,u.c4] 30 (0,0))):=Af (by simp);have n:Hid _:=C.out.keep (Fr.grew G2);have b8:Hid (Ref _ _ (k+1) x u.v):=HX.out.grew G2;have l:Hid _:=V.out.trans (Fr.grew G2);have Z:Hid (RR _ br t F):=Y.out.fr (G2.below.block br (Aa Y.out));clear G2 C HX V Y;have I:∀q∈[u.c0,u.c1,u.c2,u.c3,u.c4],Value.oneCell' q=true:=by
     intro q hq;simp only[List.mem_cons,List.not_mem_nil,or_false] at hq;rcases hq with rfl|rfl|rfl|rfl|rfl
     ·exact u.o0
     ·exact u.o1
     ·exact u.o2
     ·exact u.o3
     ·exact u.o4
    have b1:Hid _:=I;clear I;go_wp2_with (at_builtin;refine wpList_append_lies _ rfl _ _ 28 rfl _ 30 i0 Bk 5 80 underlying28 e6 e8 e9 f0 rfl (by decide) u10 _ _ rfl n.out.o1 _ 1 1 [u.c0,u.c1,u.c2,u.c3,u.c4] rfl rfl (World.news_of_block b9.out) b1.out (by decide) ?q3 ?q4 ?q5 (M.heap.size+2) ?q6 ?_)
    case q3=>unfold maxLen;omega
    case q4=>omega
    case q5=>simp;omega
    case q6=>simp
    intro g c5 w4 ho hg c7 d1;have a:Fr (fun j=>j<((M.alloc (.cells #[u.c0,u.c1,u.c2,u.c3,u.c4] 30)).alloc (.cells #[u.c0,u.c1,u.c2,u.c3,u.c4] 30)).heap.size/\_≠some j) ((M.alloc (.cells #[u.c0,u.c1,u.c2,u.c3,u.c4] 30)).alloc (.cells #[u.c0,u.c1,u.c2,u.c3,u.c4] 30)) w4:=(Fr.refl _ _).grownBy hg (fun k' _ e hp=>hp.2 e);have b7:Hid (Ho _ w4 (k+1) (.slice _ (S.length+1) c5) _ _ [] _ []):=n.out.put1 (Gh.of (by rw[<- Lx];exact ho)).1 (by simp) a (c7.imp id (fun e=>by simp;omega)) b8.out e0.out;have a9:=Aa Z.out;have b3:Hid (RR w4 br t F):=Z.out.fr (a.block br a9 ⟨a9,fun e=>by have:=(Cp n.out.o1 e).1;omega⟩);have b0:Hid (Fr _ w w4):=⟨a.os.trans l.out.os,a.tape.trans l.out.tape,a.output.trans l.out.output,Ae0 l.out.size a.size,fun i hi hp=>(a.block i (Ad8 hi l.out.size) ⟨Ad8 hi l.out.size,fun e=>by have:=(Cp n.out.o1 e).1;omega⟩).trans (l.out.block i hi hp)⟩;clear ho hg c7 d1 a a9 n b8 l Z b9 b1 f1 f3 f4 f5 f6;go_wp2_with fail
    refine(b5.out w4 F ⟨#[44]⟩ b3.out d6 (by decide)).mono ?_;rintro e' w5 ⟨rfl,O,a5⟩;have c6:(⟨#[44]⟩:ByteArray).data.toList=[44]:=rfl;rw[c6] at O |-;clear c6;have K:=Mr _ [44] F (by rw[y];exact d6);have sd:(Cq t.data.toList [44] F).deep=z:=a2.out.1;have sw:=Q8 _ m.data.toList _ K.2;have a3:Hid _:=b7.out.keep (a5.mono (fun j hj=>by omega));have X:Hid _:=b0.out.trans a5;have d7:(Cq t.data.toList [44] F).at'<=t.size:=by rw[<- y];exact K.2
    have r:Hid (at'<=_/\_=z/\_<=_/\_=_):=⟨Ae0 a2.out.2 K.1,sd,sw.1,sw.2.2⟩;clear K sd sw b7 b0 a5 b3 a2;generalize Cq _ [44] F=s4 at O B r d7;generalize Ep _ [44] F=b4 at B |-;have a0:Hid (RR w5 br t s4):=O;clear O;cases b4 with
    | true =>
     have A:=B.out.1 rfl;have p:Hid (_/\s4.deep=z/\at'<=s4.at'):=⟨A.1,r.out.2.1,r.out.1⟩;have g3:=A.2;clear A B;go_wp2_with fail
     go_roundg (gk-1)
     case measure=>omega
     case rel=>exact⟨s4,T++[x],S++[u],false,rfl,rfl,p,a3,a0,X⟩
    | false =>
     have A:=B.out.2 rfl;have d9:Hid (∀f',_):=A;clear A B;go_wp2_with fail
     refine(e4.out w5 s4 a0.out d7).mono ?_;rintro e' w6 ⟨rfl,d4,a6⟩;have e1:Hid (RR w6 br t _):=d4;have d8:Hid _:=X.out.trans a6;have e3:Hid _:=a3.out.keep (a6.mono (fun j hj=>by omega));clear d4 a6 a0 X a3;go_wp2_with fail
     go_roundg (gk-1)
     case measure=>omega
     case rel=>exact⟨_,T++[x],S++[u],true,rfl,rfl,⟨d9.out _,r.out.2.2.2.trans r.out.2.1,Ae0 r.out.1 r.out.2.2.1⟩,e3,e1,d8⟩
  ·have HE:=d.out (.inl c8);have g4:((e2:Int)==0)=false:=by simp;omega
   clear d;go_wp2_with fail
   rw[b6.out];exact HE
theorem iK {β:Type}{T:List UInt8}{item:St->Except (Nat×Nat) (β×St)}{s1 s3 s5:RSt}{x y:β}(h1:Ck T (item (pos T s1.at' s1.hv)) s1 x s3)
  (h2:Ck T (item (pos T (Hn T [58] s3).at' (Hn T [58] s3).hv)) (Hn T [58] s3) y s5):Ck T (Gg T item (pos T s1.at' s1.hv)) s1 (x,y) s5:=by
 obtain⟨n,o,p,r,s⟩:=h1;obtain⟨t,u,v,f,l⟩:=h2;have m:=Q8 T [58] s3 o;refine⟨t.trans (m.2.2.trans n),u,Ae0 p (Ae0 m.1 v),fun q=>?_,fun q=>?_⟩
 ·have c:=r q;have a:=Wh T [58] s3 (by rw[c.1];exact q);have d:=f (by rw[a.1,c.1];exact q);exact⟨d.1.trans (a.1.trans c.1),d.2.trans (a.2.trans c.2)⟩
 ·unfold Gg;rcases s q with⟨b,g⟩|⟨b,g⟩
  ·rw[g];simp only;rcases lL T [58] s3 (by unfold Sgn;simp) b with⟨j,e,k,w⟩|⟨j,e,k⟩
   ·rw[j,if_pos rfl,k];rw[w] at l;rcases l e with⟨h,i⟩|⟨h,i⟩
    ·exact .inl ⟨h,by rw[i]⟩
    ·exact .inr ⟨h,by rw[i]⟩
   ·rw[j,if_neg (by simp)];have d:=f (by rw[e];decide);exact .inr ⟨by rw[d.1,e];decide,by rw[d.1,d.2,e,k];rfl⟩
  ·rw[g];have a:=Wh T [58] s3 b;have d:=f (by rw[a.1];exact b);exact .inr ⟨by rw[d.1,a.1];exact b,by rw[d.1,d.2,a.1,a.2]⟩
theorem Zn {α:Type}:∀ps:List (α×α),(ps.map Prod.fst).zip (ps.map Prod.snd)=ps
 | []=>rfl
 | p::ps=>by simp[Zn ps]
theorem yB (u:H5):∀q∈[u.c0,u.c1,u.c2,u.c3,u.c4],Value.oneCell' q=true:=by
 intro q a;simp only[List.mem_cons,List.not_mem_nil,or_false] at a;rcases a with rfl|rfl|rfl|rfl|rfl
 ·exact u.o0
 ·exact u.o1
 ·exact u.o2
 ·exact u.o3
 ·exact u.o4
def yC (w:World)(br:Nat)(t:ByteArray)(s:RSt)(k:Nat)(R:Except (Nat×Nat) (List (AV (k+1)×AV (k+1))×St))(e:Ending)(w':World):Prop :=
 ∃(a a':Option Addr)(len cap cap':Nat)(ps:List (AV (k+1)×AV (k+1)))(s':RSt),e=.returned (.tuple #[.slice a len cap,.slice a' len cap'])/\Fr (·≠br) w w'/\Bm (fun j=>w.heap.size<=j) w' (Ref (fun j=>w.heap.size<=j) w' (k+1)) a len (ps.map Prod.fst)/\Bm (fun j=>w.heap.size<=j) w' (Ref (fun j=>w.heap.size<=j) w' (k+1)) a' len (ps.map Prod.snd)/\len<=4001/\(∀x,x∈ps.map Prod.fst\/x∈ps.map Prod.snd->wtR (k+1) x=wt (k+1) x/\wt (k+1) x<=1024)/\RR w' br t s'/\Ck t.data.toList R s ps s'
theorem Xx (k:Nat)(hV:dS k)(hk:k<=23)(w:World)(br:Nat)(t m:ByteArray)(s:RSt)(h:RR w br t s)(he:s.e=0)(hd:s.deep=23-k)(ha:s.at'<=t.size)(ht:t.size<=4000)(hm:Sgn m.data.toList)(h44:[44]≠m.data.toList)(hms:m.size<=2) :
  Calls prog 65 #[.pointer (some ⟨br,0,none⟩),.string m,.int .i64 1,.bool true] w (yC w br t s k (Cl t.data.toList m.data.toList (Gg t.data.toList (A8 t.data.toList k)) (t.data.toList.length+1) (pos t.data.toList s.at' s.hv))):=by
 have l:t.data.toList.length=t.size:=by simp
 obtain⟨R,hR⟩:∃R,Cl t.data.toList m.data.toList (Gg t.data.toList (A8 t.data.toList k)) (t.data.toList.length+1) (pos t.data.toList s.at' s.hv)=R:=⟨_,rfl⟩;rw[hR];have HR:Hid (_=R):=hR;clear hR;have HV:Hid (dS k):=hV;have HM:Hid (_/\[44]≠m.data.toList):=⟨hm,h44⟩;clear hV hm h44;obtain⟨at',deep,e,c6,hv⟩:=s;simp only at he hd ha HR;subst he;have c2:=Ab h 2;have f2:=Ad h 2;have hl:=Aa h;have g6:deep<=23:=by omega
 have HD:Hid (deep=23-k):=hd;clear hd;obtain⟨z,hz⟩:∃z,z=deep+1:=⟨_,rfl⟩;have g9:(deep:Int)+1=(z:Int):=by omega
 have h0:wrap64 (z:Int)=(z:Int):=by unfold wrap64;omega
 have hn:¬(24:Int)<(z:Int):=by omega
 have HZ:Hid (z=deep+1):=hz;clear hz;have HX:Hid (RR (w.setCell ⟨br,2,none⟩ (.int .i64 (z:Int))) br t ⟨at',z,0,c6,hv⟩):=by
  have:=Ai h 2 (.int .i64 (z:Int));exact this
 have HF:Hid (Fr (·≠br) w (w.setCell ⟨br,2,none⟩ (.int .i64 (z:Int)))):=(Fr.refl _ w).set (by simp) _;clear h;have f5:Hid _:=fun W s mm q1 q2 q3=>Ly W br t mm s q1 q2 ht q3;have d5:Hid _:=fun W s mm q1 q2 q3=>Zk W br t mm s q1 q2 ht q3;generalize hP:yC w br t _ k R=PP;have HP:Hid (_=PP):=hP;clear hP;go_enter func65,ntmps65
 go_wp2_with fail
 generalize w.setCell _ _=w0 at HX HF |-;have C:Hid (Pw t.data.toList m.data.toList (Gg t.data.toList (A8 t.data.toList k)) R (t.size+1) [] false ⟨at',z,0,c6,hv⟩/\z=z/\at'<=at'):=by
  refine⟨⟨by rw[l];exact ha,by simp,.inr (.inr ⟨rfl,rfl,?_,by rw[l];omega,by simp⟩)⟩,rfl,Ad9 _⟩;rw[<- HR.out,l];unfold Nn;cases Cl t.data.toList m.data.toList (Gg t.data.toList (A8 t.data.toList k)) (t.size+1) (pos t.data.toList at' hv)<;>rfl
 have n:Hid (RR w0 br t _):=HX.out;have A:Hid (Fr (·≠br) w w0):=HF.out;clear HF HX HR c2 f2;go_loopg [10,11,12] (t.size+1) (fun f sk sl en wr=>∃(s2:RSt)(ks:List (AV (k+1)×AV (k+1)))(hs us:List H5)(b2:Bool),en=.bool b2/\Hid (Pw t.data.toList m.data.toList (Gg t.data.toList (A8 t.data.toList k)) R f ks b2 s2/\s2.deep=z/\at'<=s2.at')/\Hid (Ho w.heap.size wr (k+1) sk sl hs us (ks.map Prod.fst) (ks.map Prod.snd))/\Hid (RR wr br t s2)/\Hid (Fr (·≠br) w wr))
 case atStart=>exact⟨_,[],[],[],false,rfl,C,Ho.nil _ _ _,n,A⟩
 case round =>
  clear C n A;obtain⟨s2,ks,hs,us,b2,rfl,C,HW,n,A⟩:=hrel;have N:=C.out.1.1;obtain⟨f6,a4,e2,g2,g1⟩:=s2;have g7:a4=z:=C.out.2.1;subst a4;obtain⟨-,-,c2,c3⟩:=Ns n.out;have f2:=Ad n.out 2;have f7:=Aa n.out;have h1:wrap64 ((z:Int)-1)=(z:Int)-1:=by have:=HZ.out;unfold wrap64;omega
  have d4:Hid ((z:Int)-1=(deep:Int)):=by show _=_;have:=HZ.out;omega
  have p:Hid ((e2≠0\/b2=true)->PP (.returned (.tuple #[u10,u11])) (wr.setCell ⟨br,2,none⟩ (.int .i64 (deep:Int)))):=by
   intro hd;have hA:=C.out.1.agree (s:=⟨at',deep,0,c6,hv⟩) (dp:=deep) hd rfl rfl C.out.2.2;have e0:=HW.out.a1.1;have f8:=HW.out.a2.1;rw[List.length_map] at e0 f8;have c8:=C.out.1.2.1;have b:Fr (fun k=>w.heap.size<=k) wr (wr.setCell ⟨br,2,none⟩ (.int .i64 (deep:Int))):=(Fr.refl _ wr).set (by simp;omega) _;have o:=HW.out.keep b;obtain⟨sa,sn,sc,rfl,b6⟩:=Bu (Q:=fun k=>_<=k) o.o1 o.a1 (by simp only at c8 N;omega) (Fr.refl _ _) (fun g hg=>hg) (fun k hk hp=>hp.1);obtain⟨ta,tn,tc,rfl,a8⟩:=Bu (Q:=fun k=>_<=k) o.o2 o.a2 (by simp only at c8 N;omega) (Fr.refl _ _) (fun g hg=>hg) (fun k hk hp=>hp.1);have f9:=by have:=b6.1;rw[List.length_map] at this;exact this
   have g0:=by have:=a8.1;rw[List.length_map] at this;exact this
   subst f9 g0;rw[<- HP.out];refine⟨sa,ta,_,sc,tc,ks,_,rfl,A.out.set (by simp) _,b6,a8,by simp only at c8 N;omega,fun x hx=>hx.elim (o.m1 x) (o.m2 x),?_,hA⟩;exact Ai n.out 2 _
  by_cases d8:e2=0
  ·subst d8;cases b2 with
   | true =>
    have HE:=p.out (.inr rfl);clear p;go_wp2_with fail
    rw[d4.out];exact HE
   | false =>
    clear p;have g4:1<=gk:=by
     rcases C.out.1.2.2 with q|q|q
     ·exact absurd rfl q.1
     ·exact absurd q.2.1 (by simp)
     ·have:=q.2.2.2.1;simp only at N this;omega
    go_wp2_with fail
    refine(HV.out wr br t _ n.out (by have:=HZ.out;have:=HD.out;show z=24-k;omega) (by rw[<- l];exact N) ht).mono ?_;rintro e' w2 ⟨v,x,s3,rfl,c7,hx,e1,e4,H⟩;have HX:Hid (Ref _ w2 (k+1) x v):=HW.out.apart A.out.size hx;have o:Hid _:=HW.out.keep (c7.mono (fun j hj=>by omega));have b7:Hid (Ck _ _ _ x s3):=H;have e6:s3.at'<=t.size:=by rw[<- l];exact H.2.1
    have b9:Hid (RR w2 br t s3):=e4;have b8:Hid _:=A.out.trans c7;have V:Hid (_/\_):=e1;have e0:hs.length<=4001/\us.length<=4001:=by
     have q1:=HW.out.a1.1;have q3:=HW.out.a2.1;have q2:=C.out.1.2.1;rw[List.length_map] at q1 q3;simp only at q2 N;omega
    obtain⟨u,rfl⟩:=hx.ones;obtain⟨i0,d9,e9,f0,f1⟩:=info_parts Zi;have g5:=b8.out.size;clear H e1 hx c7 e4 HW n A c3 c2 f2 f7;have mo:=follows;unfold H5.v;have c9:=Ae u.o0;have d0:=Ae u.o1;have d1:=Ae u.o2;have d2:=Ae u.o3;have d3:=Ae u.o4;have P:Ac w2 ((w2.alloc (.cells #[u.c0,u.c1,u.c2,u.c3,u.c4] 30)).alloc (.cells #[u.c0,u.c1,u.c2,u.c3,u.c4] 30)):=((Ac.refl w2).alloc _).alloc _;have a3:Hid (((w2.alloc (.cells #[u.c0,u.c1,u.c2,u.c3,u.c4] 30)).alloc _).heap[w2.heap.size+1]?=some (.cells #[u.c0,u.c1,u.c2,u.c3,u.c4] 30 (0,0))):=Af (by simp);have d:Hid _:=o.out.keep (Fr.grew P);have a0:Hid (Ref _ _ (k+1) x u.v):=HX.out.grew P;have c:Hid _:=b8.out.trans (Fr.grew P);have D:Hid (RR _ br t s3):=b9.out.fr (P.below.block br (Aa b9.out));clear P o HX b8 b9;have X:Hid _:=yB u;go_wp2_with (at_builtin;refine wpList_append_lies _ rfl _ _ 28 rfl _ 30 i0 Bk 5 80 underlying28 d9 e9 f0 f1 rfl (by decide) u10 _ _ rfl d.out.o1 _ 1 1 [u.c0,u.c1,u.c2,u.c3,u.c4] rfl rfl (World.news_of_block a3.out) X.out (by decide) ?q3 ?q4 ?q5 (w2.heap.size+2) ?q6 ?_)
    case q3=>unfold maxLen;omega
    case q4=>omega
    case q5=>simp;omega
    case q6=>simp
    intro g b3 w4 ho hg a5 a6;have b:Fr (fun j=>j<((w2.alloc (.cells #[u.c0,u.c1,u.c2,u.c3,u.c4] 30)).alloc (.cells #[u.c0,u.c1,u.c2,u.c3,u.c4] 30)).heap.size/\_≠some j) ((w2.alloc (.cells #[u.c0,u.c1,u.c2,u.c3,u.c4] 30)).alloc (.cells #[u.c0,u.c1,u.c2,u.c3,u.c4] 30)) w4:=(Fr.refl _ _).grownBy hg (fun k' _ e hp=>hp.2 e);have F:Hid (Ho _ w4 (k+1) (.slice _ (hs.length+1) b3) u11 _ us _ _):=d.out.put1 (Gh.of (by rw[<- Lx];exact ho)).1 (by simp) b (a5.imp id (fun e=>by simp;omega)) a0.out V.out;have K:=Aa D.out;have Y:Hid (RR w4 br t s3):=D.out.fr (b.block br K ⟨K,fun e=>by have:=(Cp d.out.o1 e).1;omega⟩);have S:Hid (Fr _ w w4):=⟨b.os.trans c.out.os,b.tape.trans c.out.tape,b.output.trans c.out.output,Ae0 c.out.size b.size,fun i hi hp=>(b.block i (Ad8 hi c.out.size) ⟨Ad8 hi c.out.size,fun e=>by have:=(Cp d.out.o1 e).1;omega⟩).trans (c.out.block i hi hp)⟩;clear ho hg a5 a6 b K d a0 c D a3 X c9 d0 d1 d2 d3 V;go_wp2_with fail
    refine(d5.out w4 s3 ⟨#[58]⟩ Y.out e6 (by decide)).mono ?_;rintro e' w5 ⟨rfl,r,I⟩;have d7:(⟨#[58]⟩:ByteArray).data.toList=[58]:=rfl;rw[d7] at r;clear d7;have sw:=Q8 _ [58] s3 (by rw[l];exact e6);have G:Hid _:=F.out.keep (I.mono (fun j hj=>by omega));have B:Hid _:=S.out.trans I;have L:Hid (RR w5 br t _):=r;have e8:_=z:=sw.2.2.trans b7.out.1;have a9:(Hn t.data.toList [58] s3).at'<=t.size:=by rw[<- l];exact sw.2.1
    clear r I sw F S Y;go_wp2_with fail
    refine(HV.out w5 br t _ L.out (by have:=HZ.out;have:=HD.out;rw[e8];omega) a9 ht).mono ?_;rintro e' w6 ⟨v,y,O,rfl,J,hy,e3,a7,H⟩;have b0:Hid (Ck _ (Gg _ _ (pos _ f6 g1)) _ (x,y) O):=iK b7.out H;have HX:Hid (Ref _ w6 (k+1) y v):=G.out.apart B.out.size hy;have b1:Hid _:=G.out.keep (J.mono (fun j hj=>by omega));have e7:O.at'<=t.size:=by rw[<- l];exact H.2.1
    have Z:Hid (RR w6 br t O):=a7;have T:Hid _:=B.out.trans J;have V:Hid (_/\_):=e3;obtain⟨a,rfl⟩:=hy.ones;have g3:=T.out.size;have e5:=C.out.1.round HM.out.1 HM.out.2 rfl b0.out;have M:Hid (_/\_):=e5;have c5:Hid (O.deep=z/\at'<=O.at'):=⟨b0.out.1,Ae0 C.out.2.2 b0.out.2.2.1⟩;clear H e3 hy J a7 G L B a9 e8 e5 b0 b7 C;unfold H5.v;have c9:=Ae a.o0;have d0:=Ae a.o1;have d1:=Ae a.o2;have d2:=Ae a.o3;have d3:=Ae a.o4;have P:Ac w6 ((w6.alloc (.cells #[a.c0,a.c1,a.c2,a.c3,a.c4] 30)).alloc (.cells #[a.c0,a.c1,a.c2,a.c3,a.c4] 30)):=((Ac.refl w6).alloc _).alloc _;have a3:Hid (((w6.alloc (.cells #[a.c0,a.c1,a.c2,a.c3,a.c4] 30)).alloc _).heap[w6.heap.size+1]?=some (.cells #[a.c0,a.c1,a.c2,a.c3,a.c4] 30 (0,0))):=Af (by simp);have d:Hid _:=b1.out.keep (Fr.grew P);have a0:Hid (Ref _ _ (k+1) y a.v):=HX.out.grew P;have c:Hid _:=T.out.trans (Fr.grew P);have D:Hid (RR _ br t O):=Z.out.fr (P.below.block br (Aa Z.out));clear P b1 HX T Z;have X:Hid _:=yB a;go_wp2_with (at_builtin;refine wpList_append_lies _ rfl _ _ 28 rfl _ 30 i0 Bk 5 80 underlying28 d9 e9 f0 f1 rfl (by decide) u11 _ _ rfl d.out.o2 _ 1 1 [a.c0,a.c1,a.c2,a.c3,a.c4] rfl rfl (World.news_of_block a3.out) X.out (by decide) ?q3 ?q4 ?q5 (w6.heap.size+2) ?q6 ?_)
    case q3=>unfold maxLen;omega
    case q4=>omega
    case q5=>simp;omega
    case q6=>simp
    intro g' b5 w8 ho hg a5 a6;have b:Fr (fun j=>j<((w6.alloc (.cells #[a.c0,a.c1,a.c2,a.c3,a.c4] 30)).alloc (.cells #[a.c0,a.c1,a.c2,a.c3,a.c4] 30)).heap.size/\_≠some j) ((w6.alloc (.cells #[a.c0,a.c1,a.c2,a.c3,a.c4] 30)).alloc (.cells #[a.c0,a.c1,a.c2,a.c3,a.c4] 30)) w8:=(Fr.refl _ _).grownBy hg (fun k' _ e hp=>hp.2 e);have F:Hid (Ho _ w8 (k+1) _ (.slice _ (us.length+1) b5) _ _ _ _):=d.out.put2 (Gh.of (by rw[<- Lx];exact ho)).1 (by simp) b (a5.imp id (fun e=>by simp;omega)) a0.out V.out;have K:=Aa D.out;have Y:Hid (RR w8 br t O):=D.out.fr (b.block br K ⟨K,fun e=>by have:=(Cp d.out.o2 e).1;omega⟩);have S:Hid (Fr _ w w8):=⟨b.os.trans c.out.os,b.tape.trans c.out.tape,b.output.trans c.out.output,Ae0 c.out.size b.size,fun i hi hp=>(b.block i (Ad8 hi c.out.size) ⟨Ad8 hi c.out.size,fun e=>by have:=(Cp d.out.o2 e).1;omega⟩).trans (c.out.block i hi hp)⟩;have F:Hid (Ho w.heap.size w8 (k+1) (.slice (some ⟨g,0,none⟩) (hs.length+1) b3) (.slice (some ⟨g',0,none⟩) (us.length+1) b5) (hs++[u]) (us++[a]) ((ks++[(x,y)]).map Prod.fst) ((ks++[(x,y)]).map Prod.snd)):=by
     have:=F.out;rw[List.map_append,List.map_append];exact this
    clear ho hg a5 a6 b K d a0 c D a3 X c9 d0 d1 d2 d3 V;go_wp2_with fail
    refine(f5.out w8 O ⟨#[44]⟩ Y.out e7 (by decide)).mono ?_;rintro e' f3 ⟨rfl,r,I⟩;have d6:(⟨#[44]⟩:ByteArray).data.toList=[44]:=rfl;rw[d6] at r |-;clear d6;have sa:=Mr _ [44] O (by rw[l];exact e7);have sd:(Cq t.data.toList [44] O).deep=z:=c5.out.1;have sw:=Q8 _ m.data.toList _ sa.2;have G:Hid _:=F.out.keep (I.mono (fun j hj=>by omega));have B:Hid _:=S.out.trans I;have a9:(Cq t.data.toList [44] O).at'<=t.size:=by rw[<- l];exact sa.2
    have E:Hid (at'<=_/\_=z/\_<=_/\_=_):=⟨Ae0 c5.out.2 sa.1,sd,sw.1,sw.2.2⟩;clear sa sd sw F S I Y c5;generalize Cq _ [44] O=s6 at r M E a9;generalize Ep _ [44] O=b4 at M |-;have L:Hid (RR f3 br t s6):=r;clear r;cases b4 with
    | true =>
     have U:=M.out.1 rfl;have C:Hid (_/\s6.deep=z/\at'<=s6.at'):=⟨U.1,E.out.2.1,E.out.1⟩;clear U M;go_wp2_with fail
     go_roundg (gk-1)
     case measure=>omega
     case rel=>exact⟨s6,ks++[(x,y)],hs++[u],us++[a],false,rfl,C,G,L,B⟩
    | false =>
     have U:=M.out.2 rfl;have f4:Hid (∀f',_):=U;clear U M;go_wp2_with fail
     refine(d5.out f3 s6 m L.out a9 (by omega)).mono ?_;rintro e' w7 ⟨rfl,a7,J⟩;have Z:Hid (RR w7 br t _):=a7;have T:Hid _:=B.out.trans J;have b1:Hid _:=G.out.keep (J.mono (fun j hj=>by omega));clear a7 J L B G;go_wp2_with fail
     go_roundg (gk-1)
     case measure=>omega
     case rel=>exact⟨_,ks++[(x,y)],hs++[u],us++[a],true,rfl,⟨f4.out _,E.out.2.2.2.trans E.out.2.1,Ae0 E.out.1 E.out.2.2.1⟩,b1,Z,T⟩
  ·have HE:=p.out (.inl d8);have g8:((e2:Int)==0)=false:=by simp;omega
   clear p;go_wp2_with fail
   rw[d4.out];exact HE
end Go.Proofs.YtdpeliifdlhhkaaGreatDoor.Sx
