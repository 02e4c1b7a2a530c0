/- The reference: every tree as text. -/
import Derived.Test.YtjbfcadeapphbaaGreatDoorF40
import Derived.Test.YtjbfcadeapphbaaGreatDoorF41
import Derived.Test.YtjbfcadeapphbaaGreatDoorF43
import Derived.Test.YtjbfcadeapphbaaGreatDoorF44
import Derived.Test.YtjbfcadeapphbaaGreatDoorF42
namespace Go.Proofs.YtjbfcadeapphbaaGreatDoor.Sx
open Go.RowKit Go.Sort
theorem eX {N:Nat}(hP:PrT N)(P:Nat->Prop)(w:World)(be:Nat)(op nm tx:ByteArray)(a k n:Int)(pa:Option Addr)(len cap:Nat)(kids:List PX)(x:PX)(he:Av w be op a nm k n tx pa len cap)(hr:Bw P w (Fc P w N) pa len kids)(hm:Hr op.data.toList nm.data.toList k n tx.data.toList kids x)(hl:x.tx.length<=1000000000):Cg w be x:=by
 have b:op=⟨op.data.toList.toArray⟩:=aW rfl;rcases hm with⟨h,l⟩|⟨h,rfl⟩|⟨h,rfl⟩|⟨h,rfl⟩|⟨h,rfl⟩|⟨h,rfl⟩|⟨h,rfl⟩|⟨h,rfl⟩|⟨h,rfl⟩|⟨h,rfl⟩|⟨h,e,f,j,rfl,rfl⟩|⟨h,e,f,rfl,rfl⟩|⟨h,e,f,rfl,rfl⟩|⟨h,e,f,rfl,rfl⟩|⟨h,e,rfl,rfl⟩|⟨h,e,rfl,rfl⟩|⟨h,e,rfl,rfl⟩|⟨h,e,f,rfl,rfl⟩|⟨h,e,f,j,rfl,rfl⟩|⟨h,e,f,rfl,rfl⟩
 ·rw[h] at b;subst b;exact Ya w be nm tx a k n pa len cap x he l hl
 ·rw[h] at b;subst b;exact aX w be nm tx a k n pa len cap he
 ·rw[h] at b;subst b;exact Yb w be nm tx a k n pa len cap he hl
 ·exact Q5 hP P w be op nm tx a k n pa len cap kids he hr (.inl h) hl
 ·exact Q5 hP P w be op nm tx a k n pa len cap kids he hr (.inr h) hl
 ·rw[h] at b;subst b;exact eS hP P w be nm tx a k n pa len cap kids he hr hl
 ·rw[h] at b;subst b;exact eT hP P w be nm tx a k n pa len cap kids he hr hl
 ·rw[h] at b;subst b;exact eU hP P w be nm tx a k n pa len cap kids he hr hl
 ·rw[h] at b;exact Ng w be 12 op nm tx a k n pa len cap he (.inl b) hl
 ·rw[h] at b;exact Ng w be 6 op nm tx a k n pa len cap he (.inr b) hl
 ·obtain rfl:len=3:=hr.1;obtain⟨g,c,d⟩:=ND.of he hr (by simp);rw[h] at b;subst b;exact iM hP w be g c cap nm e f j d hl
 ·obtain rfl:len=2:=hr.1;obtain⟨g,c,d⟩:=ND.of he hr (by simp);rw[h] at b;subst b;exact eW hP w be g c cap nm e f d hl
 ·obtain rfl:len=2:=hr.1;obtain⟨g,c,d⟩:=ND.of he hr (by simp);rcases h with h|h
  ·refine Yc hP w be g c cap op nm e f d ?_ hl;simp only[Qs,List.mem_cons,List.not_mem_nil,or_false] at h;rcases h with h|h|h
   ·rw[h] at b;exact .inl b
   ·rw[h] at b;exact .inr (.inl b)
   ·rw[h] at b;exact .inr (.inr b)
  ·refine Yd hP w be g c cap op nm e f d ?_ hl;simp only[Dr,List.mem_cons,List.not_mem_nil,or_false] at h;rcases h with h|h
   ·rw[h] at b;exact .inl b
   ·rw[h] at b;exact .inr b
 ·obtain rfl:len=2:=hr.1;obtain⟨g,c,d⟩:=ND.of he hr (by simp);rw[h] at b;subst b;exact Vj hP w be g c cap nm e f d hl
 ·obtain rfl:len=1:=hr.1;obtain⟨g,c,d⟩:=ND.of he hr (by simp);rw[h] at b;subst b;exact eV hP w be g c cap nm e d hl
 ·obtain rfl:len=1:=hr.1;obtain⟨g,c,d⟩:=ND.of he hr (by simp);refine Vi hP w be g c cap op nm e d ?_ hl;simp only[En,List.mem_cons,List.not_mem_nil,or_false] at h;rcases h with h|h|h
  ·rw[h] at b;exact .inl b
  ·rw[h] at b;exact .inr (.inl b)
  ·rw[h] at b;exact .inr (.inr b)
 ·obtain rfl:len=1:=hr.1;obtain⟨g,c,d⟩:=ND.of he hr (by simp);refine Sn hP w be g c cap op nm e d ?_ hl;simp only[Dq,List.mem_cons,List.not_mem_nil,or_false] at h;rcases h with h|h|h
  ·rw[h] at b;exact .inl b
  ·rw[h] at b;exact .inr (.inl b)
  ·rw[h] at b;exact .inr (.inr b)
 ·obtain rfl:len=2:=hr.1;obtain⟨g,c,d⟩:=ND.of he hr (by simp);have i:=Aa he 0;rw[h] at b;refine Ln w be op _ i (.inl b) ?_;subst b;exact Ye hP w be g c cap nm e f d hl
 ·obtain rfl:len=3:=hr.1;obtain⟨g,c,d⟩:=ND.of he hr (by simp);have i:=Aa he 0;rw[h] at b;refine Ln w be op _ i (.inr b) ?_;subst b;exact Vk hP w be g c cap nm e f j d hl
 ·obtain rfl:len=2:=hr.1;obtain⟨g,c,d⟩:=ND.of he hr (by simp);simp only[E0,List.map_cons,List.map_nil,List.mem_cons,List.not_mem_nil,or_false] at h;rcases h with h|h|h|h|h|h|h|h|h|h|h|h|h|h|h|h|h|h|h|h|h|h|h|h|h
  ·rw[h] at b;exact Q6 hP w be g c cap op nm e f d (.inl b) hl
  ·rw[h] at b;exact Q6 hP w be g c cap op nm e f d (.inr b) hl
  ·rw[h] at b;subst b;exact bE hP w be g c cap nm e f d hl
  ·rw[h] at b;subst b;exact bF hP w be g c cap nm e f d hl
  ·rw[h] at b;subst b;exact bG hP w be g c cap nm e f d hl
  ·rw[h] at b;subst b;exact bH hP w be g c cap nm e f d hl
  ·rw[h] at b;exact Fw hP w be g c cap op nm e f d (.inl b) hl
  ·rw[h] at b;exact Fw hP w be g c cap op nm e f d (.inr (.inl b)) hl
  ·rw[h] at b;exact Fw hP w be g c cap op nm e f d (.inr (.inr (.inl b))) hl
  ·rw[h] at b;exact Fw hP w be g c cap op nm e f d (.inr (.inr (.inr (.inl b)))) hl
  ·rw[h] at b;exact Fw hP w be g c cap op nm e f d (.inr (.inr (.inr (.inr (.inl b))))) hl
  ·rw[h] at b;exact Fw hP w be g c cap op nm e f d (.inr (.inr (.inr (.inr (.inr (.inl b)))))) hl
  ·rw[h] at b;exact Fw hP w be g c cap op nm e f d (.inr (.inr (.inr (.inr (.inr (.inr (.inl b))))))) hl
  ·rw[h] at b;exact Fw hP w be g c cap op nm e f d (.inr (.inr (.inr (.inr (.inr (.inr (.inr b))))))) hl
  ·rw[h] at b;subst b;exact bI hP w be g c cap nm e f d hl
  ·rw[h] at b;subst b;exact bJ hP w be g c cap nm e f d hl
  ·rw[h] at b;exact Hm hP w be g c cap op nm e f d (.inl b) hl
  ·rw[h] at b;exact Hm hP w be g c cap op nm e f d (.inr (.inl b)) hl
  ·rw[h] at b;exact Hm hP w be g c cap op nm e f d (.inr (.inr (.inl b))) hl
  ·rw[h] at b;exact Hm hP w be g c cap op nm e f d (.inr (.inr (.inr (.inl b)))) hl
  ·rw[h] at b;exact Hm hP w be g c cap op nm e f d (.inr (.inr (.inr (.inr b)))) hl
  ·rw[h] at b;exact Jd hP w be g c cap op nm e f d (.inl b) hl
  ·rw[h] at b;exact Jd hP w be g c cap op nm e f d (.inr (.inl b)) hl
  ·rw[h] at b;exact Jd hP w be g c cap op nm e f d (.inr (.inr (.inl b))) hl
  ·rw[h] at b;exact Jd hP w be g c cap op nm e f d (.inr (.inr (.inr b))) hl
theorem prT:∀n,PrT n
 | 0=>fun _ _ _ _ _ h=>absurd h id
 | n+1=>by
  have ih:=prT n;intro P w x v q h hl _;obtain⟨b,op,nm,tx,a,k,i,pa,len,cap,kids,rfl,h2,h3,h4,h5⟩:=h;exact eR w b q op x (Aa h3 0) (iE h5) hl (eX ih P w b op nm tx a k i pa len cap kids x h3 h4 h5 hl)
end Go.Proofs.YtjbfcadeapphbaaGreatDoor.Sx
