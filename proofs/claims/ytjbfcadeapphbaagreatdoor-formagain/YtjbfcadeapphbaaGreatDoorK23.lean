/- The row of expressions: what the law starts from. -/
import Derived.Test.YtjbfcadeapphbaaGreatDoorK22
import Derived.Test.YtjbfcadeapphbaaGreatDoorRows
import Derived.ChangeSame
import Derived.ChangeVars
import Derived.JoinedOf
import Derived.RowKit
import Derived.RowKitTokens
import Derived.LaidLaws
import Derived.LaidHandle
import Derived.Lay
import Derived.Lib.LaidTab
import Derived.Stop.Joined
import Derived.Stop.LaidErr
import Derived.ProofKit
import Derived.SizedLaws
import Derived.LaidSub
namespace Go.Proofs.YtjbfcadeapphbaaGreatDoor.Sx
open Go.RowKit Go.Sort Go.ChangeShapes Go.WideShapes Go.ChangeAt
theorem ownKn:ownKnob Tryz.prog.godebug=none:=by kernel_rfl
theorem kH:(Tryz.prog.globals[1]?).map (·.type)=some 193:=by kernel_rfl
theorem gRF : Tryz.prog.globalNamed "strconv.ErrRange" = some 6 := by kernel_rfl
theorem gSF : Tryz.prog.globalNamed "strconv.ErrSyntax" = some 5 := by kernel_rfl
theorem kU:(Tryz.prog.globals[6]?).map (·.type)=some 23:=by kernel_rfl
theorem kV:(Tryz.prog.globals[5]?).map (·.type)=some 23:=by kernel_rfl
theorem fS:Tryz.prog.cellsOf 158=1:=by kernel_rfl
theorem fT:Tryz.prog.cellsOf 193=20:=by kernel_rfl
theorem Zk:Tryz.prog.cellsOf 231=1:=by kernel_rfl
theorem Zl:Tryz.prog.cellsOf 9=1:=by kernel_rfl
theorem gV : "*" ++ "errors.errorString" = "*errors.errorString" := by decide
theorem gW (u : TypeId) (h : Tryz.prog.typeName? 3 u = some "*errors.errorString") : u = 229 :=
 typeName_ptr_named (nm := "errors.errorString") (by rw [gV]; kernel_rfl) (by kernel_rfl) (by decide) u (by rw [gV]; exact h)
def laidLF : List (String × DataW Unit) := [("math/bits.deBruijn32tab", Rows.laid_math_bits_deBruijn32tab), ("math/bits.deBruijn64tab", Rows.laid_math_bits_deBruijn64tab), ("internal/strconv.uint64pow10", Rows.laid_internal_strconv_uint64pow10), ("strconv.ErrRange", Rows.laid_strconv_ErrRange), ("strconv.ErrSyntax", Rows.laid_strconv_ErrSyntax)]
theorem eB {W:World}{k o:Nat}{v:Value}(h:W.cell? ⟨k,o,none⟩=some v):k<W.heap.size:=by
 rcases Nat.lt_or_ge k W.heap.size with q|q
 ·exact q
 ·simp[World.cell?,Array.getElem?_eq_none q] at h
theorem base_of_laidF {W : World} (h : laidMetH Tryz.prog laidLF W) : (6 < W.heap.size /\ (∃ ev, W.cell? ⟨6, 0, none⟩ = some ev /\ (ev = .nilIface \/ ∃ te pe, ev = .iface te pe)) /\ ∃ ev, W.cell? ⟨5, 0, none⟩ = some ev /\ (ev = .nilIface \/ ∃ te pe, ev = .iface te pe)) /\ Lib.TabIs Tryz.prog W "internal/strconv.uint64pow10" .u64 Lib.pow10Tab := by
 have j:laidMet Tryz.prog laidLF W:=h;have b : laidMet Tryz.prog [("internal/strconv.uint64pow10", Lib.tabData .u64 Lib.pow10Tab), ("strconv.ErrRange", Rows.laid_strconv_ErrRange), ("strconv.ErrSyntax", Rows.laid_strconv_ErrSyntax)] W := j.tail.tail;have a:=Lib.tabIs_of_head Ph kH Tryz.underlying193 Tryz.underlying158 fS fT b;obtain⟨f,k,c,_⟩:=laid_sentinel b.tail gRF kU Tryz.underlying23 gW Tryz.underlying229 Tryz.underlying231 rfl rfl Tryz.underlying9 Zk Zl;obtain⟨g,l,d,_⟩:=laid_sentinel b.tail.tail gSF kV Tryz.underlying23 gW Tryz.underlying229 Tryz.underlying231 rfl rfl Tryz.underlying9 Zk Zl;have e:W.cell? ⟨6,0,none⟩=some (.iface 229 (.pointer (some f))):=by simpa using World.var?_cell gRF c 0
 have i:W.cell? ⟨5,0,none⟩=some (.iface 229 (.pointer (some g))):=by simpa using World.var?_cell gSF d 0
 exact⟨⟨eB e,⟨_,e,.inr ⟨_,_,rfl⟩⟩,⟨_,i,.inr ⟨_,_,rfl⟩⟩⟩,a⟩
end Go.Proofs.YtjbfcadeapphbaaGreatDoor.Sx
