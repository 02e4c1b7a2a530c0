/- The reference: a text is read as an expression. -/
import Derived.Test.YtjbfcadeapphbaaGreatDoorE35
import Derived.Test.YtjbfcadeapphbaaGreatDoorE37
namespace Go.Proofs.YtjbfcadeapphbaaGreatDoor.Sx
set_option maxRecDepth 100000
set_option maxHeartbeats 4000000
open Go.RowKit Go.Sort
theorem cT (T:List UInt8)(i:Nat):Ss (tkF T i):=by
 intro h;have f:(Dp (T.drop (atF T i))).1=2:=h;show(∀c∈(T.drop (atF T i)).take (Dp (T.drop (atF T i))).2,Av c=true)/\Lib.parseIntB 64 ((T.drop (atF T i)).take (Dp (T.drop (atF T i))).2)=_;have j:∀l:List UInt8,(Dp l).1=2->(∀c∈l.take (Dp l).2,Av c=true)/\l.take (Dp l).2≠[]:=by
  intro l h;cases l with
  | nil=>simp[Dp] at h
  | cons c l =>
   rw[Ge] at h |-;have o:=Ez l 1;cases k:A2 c with
   | true=>rw[k] at h;simp at h
   | false =>
    rw[k,if_neg (by simp)] at h;rw[if_neg (by simp)];cases f:Bf c with
    | true =>
     rw[f,if_pos rfl] at h;rw[if_pos rfl];have n:=Jt (l:=l) f;refine⟨?_,?_⟩
     ·have g:J0 (c::l)=true:=by
       cases g:J0 (c::l) with
       | true=>rfl
       | false=>rw[g] at h;simp at h
      unfold J0 at g;rw[Bool.and_eq_true] at g;intro d m;exact List.all_eq_true.1 g.1 d m
     ·intro e;have:((c::l).take (Bw (c::l))).length=0:=by rw[e];rfl
      rw[List.length_take] at this;simp at this;omega
    | false =>
     rw[f,if_neg (by simp)] at h;exfalso
     revert h
     split
     ·intro h;omega
     ·split<;>simp
 obtain⟨a,b⟩:=j _ f;exact⟨a,Yw _ b a⟩
theorem O0 (T:List UInt8)(hT:T.length<=4000)(i:Nat):(tkF T i).tx.length<=4000:=by
 show(txF T i).length<=4000;rw[E0];have:=(Hm T i).2.2;omega
theorem Fr.newerT {P:Nat->Prop}{w w0 w':World}(h:Fr (fun _=>True) w w0)(f:Fr P w0 w')(hp:∀k,k<w.heap.size->P k):Fr (fun _=>True) w w' :=
 ⟨f.os.trans h.os,f.tape.trans h.tape,f.output.trans h.output,Nat.le_trans h.size f.size,fun k hk _=>(f.block k (Nat.lt_of_lt_of_le hk h.size) (hp k hk)).trans (h.block k hk trivial)⟩
theorem RSd.faults {K:Nat->Tk}{N br bl d c p:Nat}{w:World}(h:RSd K N w br bl (.error (c,p)) d):w.cell? ⟨br,3,none⟩=some (.int .i64 (c:Int))/\w.cell? ⟨br,4,none⟩=some (.int .i64 (p:Int)):=by
 obtain⟨g,⟨e,I,b,a,-,-,-,f⟩,-⟩:=h;obtain⟨-,rfl⟩:=f;exact⟨Aa a 3,Aa a 4⟩
theorem RSd.start {K:Nat->Tk}{N bl cap:Nat}{w:World}(h:Et K N bl w):RSd K N (w.alloc (.cells #[.slice (some ⟨bl,0,none⟩) (N+1) cap,.int .i64 0,.int .i64 0,.int .i64 0,.int .i64 0] 52)) w.heap.size bl (.ok 0) 0 :=
 ⟨0,⟨cap,0,0,Al rfl,Nat.zero_le _,by have:=h.1;omega,h.of (P:=fun _=>True) ((Fr.refl _ w).alloc _) trivial,rfl⟩,fun _=>rfl⟩
def eB (K:Nat->Tk)(f:Nat):RX PX:=bX (Lp K f 0 0 0) fun x j=>if (K j).cl=0 then okX x j else Cz 1 (K j).at'
def Eo (w:World)(r:Except (Nat×Nat) (PX×Nat))(e:Ending)(w':World):Prop :=
 Fr (fun _=>True) w w'/\match r with
  | .ok (x,_)=>∃b,e=.returned (.tuple #[.pointer (some ⟨b,0,none⟩),.int .i64 0,.int .i64 0])/\Ag (fun k=>w.heap.size<=k) w' x (.pointer (some ⟨b,0,none⟩))
  | .error (c,p)=>c≠0/\e=.returned (.tuple #[.pointer none,.int .i64 (p:Int),.int .i64 (c:Int)])
theorem S6 (s:ByteArray)(w:World)(hs:1000<s.size)(hm:s.size<=9223372036854775807):Calls Tryz.prog 7 #[.string s] w (Eo w (.error (6,0))):=by
 have a:Hid (Eo w (.error (6,0)) (.returned (.tuple #[.pointer none,.int .i64 0,.int .i64 6])) w):=⟨Fr.refl _ _,by decide,rfl⟩;have b:(1000:Int)<(s.size:Int):=by omega
 go_enter Tryz.func7,Tryz.ntmps7
 go_wp2_with fail
 refine bodyPost_ret (v:=.tuple #[.pointer none,.int .i64 0,.int .i64 6]) (by simp[results,Tryz.results7,go_sem]) rfl a.out
theorem Vm (s:ByteArray)(w:World)(hs:s.size<=1000)(f:Nat)(hf:f<=1000000)(r:Except (Nat×Nat) (PX×Nat))(hr:eB (tkF s.data.toList) f=some r):Calls Tryz.prog 7 #[.string s] w (Eo w r):=by
 have hl:s.data.toList.length=s.size:=by simp
 obtain⟨q,hq,hk⟩:=Bx (s:=.ok 0) (f:=Lp (tkF s.data.toList) f 0 0) noX hr;have h1:¬(1000:Int)<(s.size:Int):=by omega
 have Q:Hid (Calls _ _ _ _ _):=S5 s w (by omega);have b2:s.data.toList.length<=1000:=by omega
 clear hr hl;go_enter Tryz.func7,Tryz.ntmps7
 go_wp2_with fail
 refine Q.out.mono ?_;rintro e H ⟨N,t,B,rfl,a6,z,c4,i,E⟩;have hN:N<=1000000:=by omega
 have hz:=O0 s.data.toList (by omega);have hn:=cT s.data.toList;have hK:=Kq s.data.toList;have hL:=Wn z;generalize tkF s.data.toList=K at hq hk i hz hn hK hL;have R2:Hid (RSd K N (H.alloc (.cells #[.slice (some ⟨t,0,none⟩) (N+1) B,.int .i64 0,.int .i64 0,.int .i64 0,.int .i64 0] 52)) H.heap.size t (.ok 0) 0):=RSd.start i;have F2:Hid (Fr (fun _=>True) w (H.alloc (.cells #[.slice (some ⟨t,0,none⟩) (N+1) B,.int .i64 0,.int .i64 0,.int .i64 0,.int .i64 0] 52))):=E.alloc _;have HQ:Hid (Ay (.ok 0) (Lp K f 0 0)=some q):=hq;have b:Hid (Ay (stX q) (fun j=>if (K j).cl=0 then okX (Au noX q) j else Cz 1 (K j).at')=some r):=hk;have HS:Hid (Cv K N H.heap.size t (Lp K f)):=Oy hK hL hN hz hn f hf;have a7:=E.size;clear hz hn hK i E hq hk Q a6 z;go_wp2_with fail
 generalize (H.alloc (.cells #[.slice (some ⟨t,0,none⟩) (N+1) B,.int .i64 0,.int .i64 0,.int .i64 0,.int .i64 0] 52))=W2 at R2 F2 |-;obtain⟨y,X⟩:∃y,H.heap.size=y:=⟨_,rfl⟩;rw[X] at R2 HS a7 |-;clear X;refine(HS.out W2 0 0 (.ok 0) q (by omega) (fun _=>by omega) R2.out HQ.out).mono ?_;rintro e d ⟨Z,a1,S,rfl,a4⟩;have m:Hid (RSd K N d y t (stX q) 0):=a1;have O:Hid (Fr (fun _=>True) w d):=F2.out.newerT Z fun k hk=>by omega
 have c6:=F2.out.size;have R:Hid (OkS (stX q)->Ag (fun k=>w.heap.size<=k) d (Au noX q) (.pointer (some ⟨S,0,none⟩))):=fun o=>by
  obtain⟨j,e⟩:=Cp noX o;exact(a4 _ _ e).fr (Fr.refl _ _) fun _ _ q=>by omega
 clear Z a1 a4 R2 F2 HS HQ;have mo:=follows;rcases hst:stX q with⟨c,p⟩|j
 ·rw[hst] at m b;have A:Hid (r=.error (c,p)):=by have:=b.out;simp only[Ay,Option.some.injEq] at this;exact this.symm
  have T:d.cell? ⟨y,3,none⟩=some (.int .i64 (c:Int)):=m.out.err.1;have D:((c:Int)==0)=false:=m.out.err.2 c p rfl;have b9:((c:Int) != 0)=true:=by have:=D;rw[beq_eq_false_iff_ne] at this;rw[bne_iff_ne];exact this
  have Y:c≠0:=by have:=D;rw[beq_eq_false_iff_ne] at this;omega
  have a5:Hid (c≠0):=Y;clear b R hst Y;go_wp2_with fail
  go_quiet (fail)
  have n:Hid (RSd K N (d.drewN nq) y t (.error (c,p)) 0):=m.out.grew ((Ad.refl d).drewN nq);have u:Hid (Fr (fun _=>True) w (d.drewN nq)):=O.out.trans (Fr.grew ((Ad.refl d).drewN nq));clear T D m O;generalize d.drewN nq=W4 at n u |-;have x:Hid (Eo w r (.returned (.tuple #[.pointer none,.int .i64 (p:Int),.int .i64 (c:Int)])) W4.drew):=by
   rw[A.out];exact⟨u.out.drew,a5.out,rfl⟩
  obtain⟨T,e4⟩:=n.out.faults;obtain⟨L,k4⟩:=(n.out.grew (Ad.refl W4).drew).faults;clear n u;go_wp2_with fail
  go_big_region_o
  clear T e4 L k4;generalize W4.drew=WX at x |-;go_wp2_with fail
  refine bodyPost_ret (v:=.tuple #[.pointer none,.int .i64 (p:Int),.int .i64 (c:Int)]) (by simp[results,Tryz.results7,go_sem]) rfl x.out
 ·rw[hst] at m b R;obtain⟨a9,b5,dd,h,hI,c5,U,F,M,G⟩:=m.out.open;obtain⟨a,u0,u1,u2⟩:=RS.cells h U F M G;have c0:=Aa h 0;have c1:=Aa h 1;have c3:=Aa h 3;have k0:=Aa a 0;have k1:=Aa a 1;have L:=Aa a 3;have b7:(j:Int)<((N+1:Nat):Int):=by omega
  have c2:=Ab h;have n:Hid (RSd K N d.drew y t (.ok j) 0):=m.out.grew (Ad.refl _).drew;have u:Hid (Fr (fun _=>True) w d.drew):=O.out.drew;have X4:Hid (Ag (fun k=>w.heap.size<=k) d.drew (Au noX q) (.pointer (some ⟨S,0,none⟩))):=(R.out ⟨j,rfl⟩).fr (Fr.grew (Ad.refl _).drew) fun _ _ q=>q;obtain⟨sb,l⟩:∃sb,Bg (K j).cl=sb:=⟨_,rfl⟩;rw[l] at F u0;by_cases J:(K j).cl=0
  ·have A:Hid (r=.ok (Au noX q,j)):=by have:=b.out;simp only[Ay,J,if_true,okX,Option.some.injEq] at this;exact this.symm
   have a3:((sb:Int) != 101)=false:=by rw[<- l,J];decide
   have x:Hid (Eo w r (.returned (.tuple #[.pointer (some ⟨S,0,none⟩),.int .i64 0,.int .i64 0])) d.drew):=by
    rw[A.out];exact⟨u.out,S,rfl,X4.out⟩
   clear h a b A m O R hst l J M G u1 u2;go_wp2_with fail
   go_big_region_o
   clear c0 c1 c3 k0 k1 F u0 u X4 n;generalize d.drew=W4 at L x |-;go_wp2_with fail
   refine bodyPost_ret (v:=.tuple #[.pointer (some ⟨S,0,none⟩),.int .i64 0,.int .i64 0]) (by simp[results,Tryz.results7,go_sem]) rfl x.out
  ·have A:Hid (r=.error (1,(K j).at')):=by have:=b.out;simp only[Ay,J,if_false,Cz,Option.some.injEq] at this;exact this.symm
   have a3:((sb:Int) != 101)=true:=by
    rw[<- l,bne_iff_ne];unfold Bg;rw[if_neg J]
    repeat' split
    all_goals decide
   clear h a b m O R X4 hst l J M G u1 u2;go_wp2_with fail
   go_big_region_o
   clear c0 c1 c3 k0 k1 L F u0 a3;generalize d.drew=W4 at n u |-;obtain⟨I,C⟩:∃I,(K j).at'=I:=⟨_,rfl⟩;rw[C] at A;obtain⟨b0,a8,b6,h,b8,b4,V,F,M,G⟩:=n.out.open;obtain⟨a,-,-,u2⟩:=RS.cells h V F M G;have c0:=Aa h 0;have c1:=Aa h 1;have k0:=Aa a 0;have k1:=Aa a 1;rw[C] at G u2;have P:Hid (∀W,Ad W4 W->Calls _ _ _ _ _):=fun W g=>Qo W y t (.ok j) 0 1 I (by decide) (n.out.grew g);have b1:=Ab h;clear h a F M C;go_wp2_with fail
   go_region_with (go_at_call 19;refine(P.out _ (Ad.refl W4).drew).mono ?_;rintro e w5 ⟨rfl,a2,a0⟩;have R5:Hid (RSd K N w5 y t (.error (1,I)) 0):=a2;have F5:Hid (Fr (fun _=>True) w w5):=u.out.drew.newerT a0 (fun k hk=>(by omega));clear a2 a0)
   all_goals
    clear c0 c1 k0 k1 G u2 P n u;have x:Hid (Eo w r (.returned (.tuple #[.pointer none,.int .i64 (I:Int),.int .i64 1])) w5.drew):=by
     rw[A.out];exact⟨F5.out.drew,by decide,rfl⟩
    obtain⟨T,e4⟩:=R5.out.faults;obtain⟨L,k4⟩:=(R5.out.grew (Ad.refl w5).drew).faults;clear R5 F5;go_wp2_with fail
    go_big_region_o
    clear T e4 L k4;generalize w5.drew=WX at x |-;go_wp2_with fail
    refine bodyPost_ret (v:=.tuple #[.pointer none,.int .i64 (I:Int),.int .i64 1]) (by simp[results,Tryz.results7,go_sem]) rfl x.out
end Go.Proofs.YtjbfcadeapphbaaGreatDoor.Sx
