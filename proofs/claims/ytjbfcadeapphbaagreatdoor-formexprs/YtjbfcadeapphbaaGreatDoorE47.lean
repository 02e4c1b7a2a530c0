/- The reference: every tree as text. -/
import Derived.Test.YtjbfcadeapphbaaGreatDoorE42
import Derived.Test.YtjbfcadeapphbaaGreatDoorE43
import Derived.Test.YtjbfcadeapphbaaGreatDoorE45
import Derived.Test.YtjbfcadeapphbaaGreatDoorE46
import Derived.Test.YtjbfcadeapphbaaGreatDoorE44
namespace Go.Proofs.YtjbfcadeapphbaaGreatDoor.Sx
open Go.RowKit Go.Sort
theorem Zb {N:Nat}(hP:PrT N)(P:Nat->Prop)(w:World)(be:Nat)(op nm tx:ByteArray)(a k n:Int)(pa:Option Addr)(len cap:Nat)(kids:List PX)(x:PX)(he:Ao w be op a nm k n tx pa len cap)(hr:Bh P w (D2 P w N) pa len kids)(hm:Fo op.data.toList nm.data.toList k n tx.data.toList kids x)(hl:x.tx.length<=1000000000):Bs w be x:=by
 have b:op=⟨op.data.toList.toArray⟩:=Vo rfl;rcases hm with⟨h,l⟩|⟨h,rfl⟩|⟨h,rfl⟩|⟨h,rfl⟩|⟨h,rfl⟩|⟨h,rfl⟩|⟨h,rfl⟩|⟨h,rfl⟩|⟨h,rfl⟩|⟨h,rfl⟩|⟨h,e,f,j,rfl,rfl⟩|⟨h,e,f,rfl,rfl⟩|⟨h,e,f,rfl,rfl⟩|⟨h,e,f,rfl,rfl⟩|⟨h,e,rfl,rfl⟩|⟨h,e,rfl,rfl⟩|⟨h,e,rfl,rfl⟩|⟨h,e,f,rfl,rfl⟩|⟨h,e,f,j,rfl,rfl⟩|⟨h,e,f,rfl,rfl⟩
 ·rw[h] at b;subst b;exact S8 w be nm tx a k n pa len cap x he l hl
 ·rw[h] at b;subst b;exact Vp w be nm tx a k n pa len cap he
 ·rw[h] at b;subst b;exact S9 w be nm tx a k n pa len cap he hl
 ·exact M8 hP P w be op nm tx a k n pa len cap kids he hr (.inl h) hl
 ·exact M8 hP P w be op nm tx a k n pa len cap kids he hr (.inr h) hl
 ·rw[h] at b;subst b;exact Yz hP P w be nm tx a k n pa len cap kids he hr hl
 ·rw[h] at b;subst b;exact Y0 hP P w be nm tx a k n pa len cap kids he hr hl
 ·rw[h] at b;subst b;exact Y1 hP P w be nm tx a k n pa len cap kids he hr hl
 ·rw[h] at b;exact Kg w be 12 op nm tx a k n pa len cap he (.inl b) hl
 ·rw[h] at b;exact Kg w be 6 op nm tx a k n pa len cap he (.inr b) hl
 ·obtain rfl:len=3:=hr.1;obtain⟨g,c,d⟩:=ND.of he hr (by simp);rw[h] at b;subst b;exact bG hP w be g c cap nm e f j d hl
 ·obtain rfl:len=2:=hr.1;obtain⟨g,c,d⟩:=ND.of he hr (by simp);rw[h] at b;subst b;exact Za hP w be g c cap nm e f d hl
 ·obtain rfl:len=2:=hr.1;obtain⟨g,c,d⟩:=ND.of he hr (by simp);rcases h with h|h
  ·refine Ta hP w be g c cap op nm e f d ?_ hl;simp only[Mx,List.mem_cons,List.not_mem_nil,or_false] at h;rcases h with h|h|h
   ·rw[h] at b;exact .inl b
   ·rw[h] at b;exact .inr (.inl b)
   ·rw[h] at b;exact .inr (.inr b)
  ·refine Tb hP w be g c cap op nm e f d ?_ hl;simp only[Cy,List.mem_cons,List.not_mem_nil,or_false] at h;rcases h with h|h
   ·rw[h] at b;exact .inl b
   ·rw[h] at b;exact .inr b
 ·obtain rfl:len=2:=hr.1;obtain⟨g,c,d⟩:=ND.of he hr (by simp);rw[h] at b;subst b;exact Q3 hP w be g c cap nm e f d hl
 ·obtain rfl:len=1:=hr.1;obtain⟨g,c,d⟩:=ND.of he hr (by simp);rw[h] at b;subst b;exact Y2 hP w be g c cap nm e d hl
 ·obtain rfl:len=1:=hr.1;obtain⟨g,c,d⟩:=ND.of he hr (by simp);refine Q0 hP w be g c cap op nm e d ?_ hl;simp only[De,List.mem_cons,List.not_mem_nil,or_false] at h;rcases h with h|h|h
  ·rw[h] at b;exact .inl b
  ·rw[h] at b;exact .inr (.inl b)
  ·rw[h] at b;exact .inr (.inr b)
 ·obtain rfl:len=1:=hr.1;obtain⟨g,c,d⟩:=ND.of he hr (by simp);refine N4 hP w be g c cap op nm e d ?_ hl;simp only[Cx,List.mem_cons,List.not_mem_nil,or_false] at h;rcases h with h|h|h
  ·rw[h] at b;exact .inl b
  ·rw[h] at b;exact .inr (.inl b)
  ·rw[h] at b;exact .inr (.inr b)
 ·obtain rfl:len=2:=hr.1;obtain⟨g,c,d⟩:=ND.of he hr (by simp);have i:=Aa he 0;rw[h] at b;refine Jh w be op _ i (.inl b) ?_;subst b;exact Tc hP w be g c cap nm e f d hl
 ·obtain rfl:len=3:=hr.1;obtain⟨g,c,d⟩:=ND.of he hr (by simp);have i:=Aa he 0;rw[h] at b;refine Jh w be op _ i (.inr b) ?_;subst b;exact Q4 hP w be g c cap nm e f j d hl
 ·obtain rfl:len=2:=hr.1;obtain⟨g,c,d⟩:=ND.of he hr (by simp);simp only[Dr,List.map_cons,List.map_nil,List.mem_cons,List.not_mem_nil,or_false] at h;rcases h with h|h|h|h|h|h|h|h|h|h|h|h|h|h|h|h|h|h|h|h|h|h|h|h|h
  ·rw[h] at b;exact M9 hP w be g c cap op nm e f d (.inl b) hl
  ·rw[h] at b;exact M9 hP w be g c cap op nm e f d (.inr b) hl
  ·rw[h] at b;subst b;exact Vu hP w be g c cap nm e f d hl
  ·rw[h] at b;subst b;exact Vv hP w be g c cap nm e f d hl
  ·rw[h] at b;subst b;exact Vw hP w be g c cap nm e f d hl
  ·rw[h] at b;subst b;exact Vx hP w be g c cap nm e f d hl
  ·rw[h] at b;exact D8 hP w be g c cap op nm e f d (.inl b) hl
  ·rw[h] at b;exact D8 hP w be g c cap op nm e f d (.inr (.inl b)) hl
  ·rw[h] at b;exact D8 hP w be g c cap op nm e f d (.inr (.inr (.inl b))) hl
  ·rw[h] at b;exact D8 hP w be g c cap op nm e f d (.inr (.inr (.inr (.inl b)))) hl
  ·rw[h] at b;exact D8 hP w be g c cap op nm e f d (.inr (.inr (.inr (.inr (.inl b))))) hl
  ·rw[h] at b;exact D8 hP w be g c cap op nm e f d (.inr (.inr (.inr (.inr (.inr (.inl b)))))) hl
  ·rw[h] at b;exact D8 hP w be g c cap op nm e f d (.inr (.inr (.inr (.inr (.inr (.inr (.inl b))))))) hl
  ·rw[h] at b;exact D8 hP w be g c cap op nm e f d (.inr (.inr (.inr (.inr (.inr (.inr (.inr b))))))) hl
  ·rw[h] at b;subst b;exact Vy hP w be g c cap nm e f d hl
  ·rw[h] at b;subst b;exact Vz hP w be g c cap nm e f d hl
  ·rw[h] at b;exact Fk hP w be g c cap op nm e f d (.inl b) hl
  ·rw[h] at b;exact Fk hP w be g c cap op nm e f d (.inr (.inl b)) hl
  ·rw[h] at b;exact Fk hP w be g c cap op nm e f d (.inr (.inr (.inl b))) hl
  ·rw[h] at b;exact Fk hP w be g c cap op nm e f d (.inr (.inr (.inr (.inl b)))) hl
  ·rw[h] at b;exact Fk hP w be g c cap op nm e f d (.inr (.inr (.inr (.inr b)))) hl
  ·rw[h] at b;exact Hh hP w be g c cap op nm e f d (.inl b) hl
  ·rw[h] at b;exact Hh hP w be g c cap op nm e f d (.inr (.inl b)) hl
  ·rw[h] at b;exact Hh hP w be g c cap op nm e f d (.inr (.inr (.inl b))) hl
  ·rw[h] at b;exact Hh hP w be g c cap op nm e f d (.inr (.inr (.inr b))) hl
theorem prT:∀n,PrT n
 | 0=>fun _ _ _ _ _ h=>absurd h id
 | n+1=>by
  have ih:=prT n;intro P w x v q h hl _;obtain⟨b,op,nm,tx,a,k,i,pa,len,cap,kids,rfl,h2,h3,h4,h5⟩:=h;exact Yy w b q op x (Aa h3 0) (aY h5) hl (Zb ih P w b op nm tx a k i pa len cap kids x h3 h4 h5 hl)
end Go.Proofs.YtjbfcadeapphbaaGreatDoor.Sx
