/- The law of expressions: its walk. -/
import Derived.Test.YtjbfcadeapphbaaGreatDoorE20
import Derived.Test.YtjbfcadeapphbaaGreatDoorE47
import Derived.Test.YtjbfcadeapphbaaGreatDoorE38
import Derived.Lib.ItoaLen
import Derived.Lib.ParseIntBTie
namespace Go.Proofs.YtjbfcadeapphbaaGreatDoor.Sx
set_option maxRecDepth 100000
set_option maxHeartbeats 2000000
open Go.RowKit Go.Sort
theorem bP (v:Int):0<(Lib.itoa v).length:=by
 have a:∀n,0<(Lib.decDigits n).length:=fun n=>by
  rw[Lib.decDigits.eq_def];split<;>simp
 unfold Lib.itoa;split
 ·simp
 ·exact a _
theorem bQ (T:List UInt8)(hT:T.length<=1000):∃f g r,f<=1000000/\g<=1000000/\eB (tkF T) f=some r/\Qa (tkF T) g=some r/\∀x j,r=.ok (x,j)->x.tx.length<=1000000000/\0<x.tx.length:=by
 obtain⟨N,o,h,_⟩:=Rl T;obtain⟨r,d,a⟩:=Rj (Wn h) (N+1) 0 0 0 (Nat.zero_le _) (by omega);have c:=(Rd (Kq T) (N+1) 0 0 0).some d;have b:∀x j,r=.ok (x,j)->x.tx.length<=1000000000/\0<x.tx.length:=fun x j e=>by
  subst e;have m:=Ol (K:=tkF T) (fun i v hv=>by
   have p:=Lib.parseIntB_bounds hv;have:=Lib.itoa_length_le v (by omega) (by omega);omega) (O0 T (by omega)) _ _ _ _ x j c
  have n:=a x j rfl;exact⟨by omega,Ot (cI T) bP _ _ _ _ x j c⟩
 refine⟨N+1,13*(N+1)+20,?_⟩;unfold eB Qa;rw[d,c];rcases r with e|⟨x,j⟩
 ·exact⟨_,by omega,by omega,rfl,rfl,fun x j e=>by simp at e⟩
 ·show ∃r,_/\_/\(if (tkF T j).cl=0 then okX x j else Cz 1 (tkF T j).at')=some r/\(if (tkF T j).cl=0 then okX x j else Cz 1 (tkF T j).at')=some r/\_;split
  ·exact⟨_,by omega,by omega,rfl,rfl,fun y k e=>by
    have l:=(Prod.mk.inj (Except.ok.inj e)).1;rw[<- l];exact b x j rfl⟩
  ·exact⟨_,by omega,by omega,rfl,rfl,fun x j e=>by simp at e⟩
theorem Fr.allF {w w':World}(h:Fr (fun _=>True) w w'):Below w.heap.size w w':=⟨h.os,h.tape,h.output,h.size,fun i hi=>h.block i hi trivial⟩
theorem dI (t:ByteArray)(w:World)(hB:I1 w)(hs:t.size<=9223372036854775806):∃r,Calls Tryz.prog 6 #[.string t] w (Mw w r)/\(∀W,Calls Tryz.prog 7 #[.string t] W (Eo W r))/\∀x j,r=.ok (x,j)->x.tx.length<=1000000000:=by
 have k:t.data.toList.length=t.size:=by simp
 by_cases h:t.size<=1000
 ·obtain⟨f,g,r,d,i,b,c,a⟩:=bQ t.data.toList (by omega);exact⟨r,Sj t w r (J8 t w r (Uh t w h hB.envF g i r c)) hB.tab (by have:=hB.env.1;omega) (fun x j e=>⟨by have:=(a x j e).1;omega,(a x j e).2⟩),fun W=>Vm t W h f d r b,fun x j e=>(a x j e).1⟩
 ·exact⟨.error (6,0),Sj t w _ (J8 t w _ (Rz t w (by omega) (by omega))) hB.tab (by have:=hB.env.1;omega) (fun x j e=>by simp at e),fun W=>S6 t W (by omega) (by omega),fun x j e=>by simp at e⟩
theorem forms_any (t:ByteArray)(w:World)(hB:I1 w)(hs:t.size<=9223372036854775806):Fp 3 #[.string t] w (.bool true):=by
 obtain⟨r,A,B,z⟩:=dI t w hB hs;have y:Hid (Calls _ _ _ _ _):=A;have q:Hid (∀W,Calls Tryz.prog 7 #[.string t] W (Eo W r)):=B;have v:Hid (I1 w):=hB;have L:=follows;clear hB A B hs;unfold Fp;go_enter Tryz.func3,Tryz.ntmps3
 go_wp2_with fail
 refine y.out.mono ?_;rcases r with⟨c,p⟩|⟨x,j⟩
 ·rintro e k ⟨a,rfl⟩;have h:Hid (Fr (fun _=>True) w k):=a;clear a y z;go_wp2_with fail
  refine(q.out k).mono ?_;rintro e m ⟨d,H,rfl⟩;have f:Hid (Fr (fun _=>True) w m):=h.out.newerT d fun _ _=>trivial;have I:((c:Int)==0)=false:=by rw[beq_eq_false_iff_ne];omega
  have g:Hid (Calls _ _ _ _ _):=Te m c c (v.out.below f.out.allF);rw[decide_eq_true rfl] at g;clear d h q v H;go_wp2_with fail
  refine g.out.mono ?_;rintro e s ⟨rfl,i⟩;have F:Hid (Below w.heap.size w s):=f.out.allF.trans (i.mono f.out.size);clear i f g;go_wp2_with fail
  go_ret
  exact⟨by simp,F.out⟩
 ·rintro e k ⟨a,rfl⟩;have D:=z x j rfl;have h:Hid (Fr (fun _=>True) w k):=a;clear a y z;go_wp2_with fail
  refine(q.out k).mono ?_;rintro e m ⟨d,b,rfl,J⟩;have f:Hid (Fr (fun _=>True) w m):=h.out.newerT d fun _ _=>trivial;obtain⟨n,E⟩:=J;have o:Hid (Calls _ _ _ _ _):=prT n _ m x _ 0 E D (by omega);rw[Fv] at o;generalize x.tx=l at o |-;clear d h q E D;go_wp2_with fail
  refine o.out.mono ?_;rintro e s ⟨rfl,C⟩;have u:Hid (Fr (fun _=>True) w s):=f.out.trans (Fr.grew C);have g:Hid (Calls _ _ _ _ _):=Zl s 0;rw[decide_eq_true rfl] at g;clear C f o v;go_wp2_with fail
  refine g.out.mono ?_;rintro e K ⟨rfl,i⟩;have G:Hid (Below w.heap.size w K):=u.out.allF.trans (i.mono u.out.size);clear i u g;go_wp2_with fail
  go_ret
  exact⟨by simp,G.out⟩
end Go.Proofs.YtjbfcadeapphbaaGreatDoor.Sx
