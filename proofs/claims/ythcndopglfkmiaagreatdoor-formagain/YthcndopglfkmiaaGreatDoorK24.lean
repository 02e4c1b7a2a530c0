/- The row of expressions: what the law starts from. -/
import Derived.Test.YthcndopglfkmiaaGreatDoorK23
import Derived.Test.YthcndopglfkmiaaGreatDoorRows
import Derived.ChangeSame
import Derived.ChangeVars
import Derived.JoinedOf
import Derived.RowKit
import Derived.RowKitTokens
import Derived.LaidLaws
import Derived.LaidHandle
import Derived.Lay
import Derived.Lib.LaidTab
import Derived.Stop.Joined
import Derived.Stop.LaidErr
import Derived.ProofKit
import Derived.SizedLaws
import Derived.LaidSub
namespace Go.Proofs.YthcndopglfkmiaaGreatDoor.Sx
open Go.RowKit Go.Sort Go.ChangeShapes Go.WideShapes Go.ChangeAt
theorem ownKn:ownKnob Tryz.prog.godebug=none:=by kernel_rfl
theorem kA:(Tryz.prog.globals[1]?).map (·.type)=some 192:=by kernel_rfl
theorem gRF : Tryz.prog.globalNamed "strconv.ErrRange" = some 6 := by kernel_rfl
theorem gSF : Tryz.prog.globalNamed "strconv.ErrSyntax" = some 5 := by kernel_rfl
theorem kN:(Tryz.prog.globals[6]?).map (·.type)=some 23:=by kernel_rfl
theorem kO:(Tryz.prog.globals[5]?).map (·.type)=some 23:=by kernel_rfl
theorem fO:Tryz.prog.cellsOf 172=1:=by kernel_rfl
theorem fP:Tryz.prog.cellsOf 192=20:=by kernel_rfl
theorem Zg:Tryz.prog.cellsOf 226=1:=by kernel_rfl
theorem Zh:Tryz.prog.cellsOf 9=1:=by kernel_rfl
theorem gR : "*" ++ "errors.errorString" = "*errors.errorString" := by decide
theorem gS (u : TypeId) (h : Tryz.prog.typeName? 3 u = some "*errors.errorString") : u = 224 :=
 typeName_ptr_named (nm := "errors.errorString") (by rw [gR]; kernel_rfl) (by kernel_rfl) (by decide) u (by rw [gR]; exact h)
def laidLF : List (String × DataW Unit) := [("math/bits.deBruijn32tab", Rows.laid_math_bits_deBruijn32tab), ("math/bits.deBruijn64tab", Rows.laid_math_bits_deBruijn64tab), ("internal/strconv.uint64pow10", Rows.laid_internal_strconv_uint64pow10), ("strconv.ErrRange", Rows.laid_strconv_ErrRange), ("strconv.ErrSyntax", Rows.laid_strconv_ErrSyntax)]
theorem dX {W:World}{k o:Nat}{v:Value}(h:W.cell? ⟨k,o,none⟩=some v):k<W.heap.size:=by
 rcases Nat.lt_or_ge k W.heap.size with q|q
 ·exact q
 ·simp[World.cell?,Array.getElem?_eq_none q] at h
theorem base_of_laidF {W : World} (h : laidMetH Tryz.prog laidLF W) : (6 < W.heap.size /\ (∃ ev, W.cell? ⟨6, 0, none⟩ = some ev /\ (ev = .nilIface \/ ∃ te pe, ev = .iface te pe)) /\ ∃ ev, W.cell? ⟨5, 0, none⟩ = some ev /\ (ev = .nilIface \/ ∃ te pe, ev = .iface te pe)) /\ Lib.TabIs Tryz.prog W "internal/strconv.uint64pow10" .u64 Lib.pow10Tab := by
 have j:laidMet Tryz.prog laidLF W:=h;have b : laidMet Tryz.prog [("internal/strconv.uint64pow10", Lib.tabData .u64 Lib.pow10Tab), ("strconv.ErrRange", Rows.laid_strconv_ErrRange), ("strconv.ErrSyntax", Rows.laid_strconv_ErrSyntax)] W := j.tail.tail;have a:=Lib.tabIs_of_head Pf kA Tryz.underlying192 Tryz.underlying172 fO fP b;obtain⟨f,k,c,_⟩:=laid_sentinel b.tail gRF kN Tryz.underlying23 gS Tryz.underlying224 Tryz.underlying226 rfl rfl Tryz.underlying9 Zg Zh;obtain⟨g,l,d,_⟩:=laid_sentinel b.tail.tail gSF kO Tryz.underlying23 gS Tryz.underlying224 Tryz.underlying226 rfl rfl Tryz.underlying9 Zg Zh;have e:W.cell? ⟨6,0,none⟩=some (.iface 224 (.pointer (some f))):=by simpa using World.var?_cell gRF c 0
 have i:W.cell? ⟨5,0,none⟩=some (.iface 224 (.pointer (some g))):=by simpa using World.var?_cell gSF d 0
 exact⟨⟨dX e,⟨_,e,.inr ⟨_,_,rfl⟩⟩,⟨_,i,.inr ⟨_,_,rfl⟩⟩⟩,a⟩
end Go.Proofs.YthcndopglfkmiaaGreatDoor.Sx
