/- The law of modules: its walk. -/
import Derived.Test.YtjbfcadeapphbaaGreatDoorF14
import Derived.Test.YtjbfcadeapphbaaGreatDoorF37
import Derived.Test.YtjbfcadeapphbaaGreatDoorF47
import Derived.Test.YtjbfcadeapphbaaGreatDoorF19
import Derived.Test.YtjbfcadeapphbaaGreatDoorF04
import Derived.Lib.ItoaLen
import Derived.Lib.ParseIntBTie
namespace Go.Proofs.YtjbfcadeapphbaaGreatDoor.Sx
set_option maxRecDepth 100000
set_option maxHeartbeats 2000000
open Go.RowKit Go.Sort
theorem kZ (T:List UInt8)(hT:T.length<=4000):∃f g r,f<=900000/\g<=900000/\N6 (tkF T) (Li (tkF T) f) f 0=some r/\N6 (tkF T) (Ht (tkF T) g) g 0=some r/\∀x j,r=.ok (x,j)->x.length<=1000000000/\0<x.length:=by
 obtain⟨N,q,h,_⟩:=Wj T;obtain⟨r,k,a⟩:=iV (self:=Li (tkF T) (N+1)) (Uc h) (fun n d j _ b=>Wh (Uc h) (N+1) n d j b (by omega)) (m:=N+1) (by omega);have c:N6 (tkF T) (Ht (tkF T) (13*(N+1)+20)) (13*(N+1)+20) 0=some r:=(fI (fun n d i=>Wb (Ns T) (N+1) n d i) (by omega) 0).some k;refine⟨N+1,13*(N+1)+20,r,by omega,by omega,k,c,fun x j e=>?_⟩;subst e;have o:=S5 (K:=tkF T) (fun i v hv=>by
   have s:=Lib.parseIntB_bounds hv;have:=Lib.itoa_length_le v (by omega) (by omega);omega) (Nz T hT) (13*(N+1)+20)
 have l:=jH (Nz T hT) o _ 0 x j c;have p:=a x j rfl;exact⟨by omega,l.2.1⟩
theorem Fr.allF {w w':World}(h:Fr (fun _=>True) w w'):Below w.heap.size w w':=⟨h.os,h.tape,h.output,h.size,fun i hi=>h.block i hi trivial⟩
theorem mH (t:ByteArray)(w:World)(hB:Ky w)(hs:t.size<=9223372036854775806):∃r,Calls Tryz.prog 10 #[.string t] w (Mi w r)/\(∀W,Calls Tryz.prog 11 #[.string t] W (J8 W r))/\∀x j,r=.ok (x,j)->x.length<=1000000000:=by
 have k:t.data.toList.length=t.size:=by simp
 by_cases h:t.size<=4000
 ·obtain⟨f,g,r,d,i,b,c,a⟩:=kZ t.data.toList (by omega);exact⟨r,Rj t w r (K2 t w r (Yp t w h hB.envF g i r c)) hB.tab (by have:=hB.env.1;omega) (fun x j e=>⟨by have:=(a x j e).1;omega,(a x j e).2⟩),fun W=>N7 t W h f d r b,fun x j e=>(a x j e).1⟩
 ·exact⟨.error (6,0),Rj t w _ (K2 t w _ (Vr t w (by omega) (by omega))) hB.tab (by have:=hB.env.1;omega) (fun x j e=>by simp at e),fun W=>Nh t W (by omega) (by omega),fun x j e=>by simp at e⟩
theorem mods_any (t:ByteArray)(w:World)(hB:Ky w)(hs:t.size<=9223372036854775806):Hs 4 #[.string t] w (.bool true):=by
 obtain⟨r,y,z,u⟩:=mH t w hB hs;have s:Hid (Calls _ _ _ _ _):=y;have m:Hid (∀W,Calls Tryz.prog 11 #[.string t] W (J8 W r)):=z;have q:Hid (Ky w):=hB;have I:=follows;clear hB y z hs;unfold Hs;go_enter Tryz.func4,Tryz.ntmps4
 go_wp2_with fail
 refine s.out.mono ?_;rcases r with⟨c,p⟩|⟨x,j⟩
 ·rintro e k ⟨a,rfl⟩;have h:Hid (Fr (fun _=>True) w k):=a;clear a s u;go_wp2_with fail
  refine(m.out k).mono ?_;rintro e l ⟨d,F,rfl⟩;have f:Hid (Fr (fun _=>True) w l):=h.out.newerT d fun _ _=>trivial;have G:((c:Int)==0)=false:=by rw[beq_eq_false_iff_ne];omega
  have g:Hid (Calls _ _ _ _ _):=Yg l c c (q.out.below f.out.allF);rw[decide_eq_true rfl] at g;clear d h m q F;go_wp2_with fail
  refine g.out.mono ?_;rintro e n ⟨rfl,i⟩;have D:Hid (Below w.heap.size w n):=f.out.allF.trans (i.mono f.out.size);clear i f g;go_wp2_with fail
  go_ret
  exact⟨by simp,D.out⟩
 ·rintro e k ⟨a,rfl⟩;have B:=u x j rfl;have h:Hid (Fr (fun _=>True) w k):=a;clear a s u;go_wp2_with fail
  refine(m.out k).mono ?_;rintro e l ⟨d,b,rfl,C⟩;have f:Hid (Fr (fun _=>True) w l):=h.out.newerT d fun _ _=>trivial;have v:Hid (Calls _ _ _ _ _):=N9 l _ b x C B;clear d h m C B;go_wp2_with fail
  refine v.out.mono ?_;rintro e n ⟨rfl,A⟩;have o:Hid (Fr (fun _=>True) w n):=f.out.trans (Fr.grew A);have g:Hid (Calls _ _ _ _ _):=fH n 0;rw[decide_eq_true rfl] at g;clear A f v q;go_wp2_with fail
  refine g.out.mono ?_;rintro e H ⟨rfl,i⟩;have E:Hid (Below w.heap.size w H):=o.out.allF.trans (i.mono o.out.size);clear i o g;go_wp2_with fail
  go_ret
  exact⟨by simp,E.out⟩
end Go.Proofs.YtjbfcadeapphbaaGreatDoor.Sx
