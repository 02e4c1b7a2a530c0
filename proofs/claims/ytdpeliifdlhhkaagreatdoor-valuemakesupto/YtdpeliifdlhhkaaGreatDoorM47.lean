/- The rows: what the laws start from. -/
import Derived.Test.YtdpeliifdlhhkaaGreatDoorM10
import Derived.Test.YtdpeliifdlhhkaaGreatDoorRows
import Derived.ChangeSame
import Derived.ChangeVars
import Derived.JoinedOf
import Derived.RowKit
import Derived.RowKitTokens
import Derived.LaidLaws
import Derived.LaidHandle
import Derived.Lay
import Derived.Lib.LaidTab
import Derived.Stop.Joined
import Derived.Stop.LaidErr
import Derived.ProofKit
import Derived.SizedLaws
namespace Go.Proofs.YtdpeliifdlhhkaaGreatDoor.Sx
open Go.RowKit Go.Sort Go.Proofs.Tryz
section
open Go.RowKit Go.Sort Go.ChangeShapes Go.WideShapes Go.ChangeAt
theorem own:ownKnob prog.godebug=none:=by kernel_rfl
theorem Ac0:(prog.globals[2]?).map (·.type)=some 277:=by kernel_rfl
theorem gR : prog.globalNamed "strconv.ErrRange" = some 4 := by kernel_rfl
theorem gS : prog.globalNamed "strconv.ErrSyntax" = some 3 := by kernel_rfl
theorem gRt:(prog.globals[4]?).map (·.type)=some 25:=by kernel_rfl
theorem gSt:(prog.globals[3]?).map (·.type)=some 25:=by kernel_rfl
theorem yZ:prog.cellsOf 128=1:=by kernel_rfl
theorem zB:prog.cellsOf 277=20:=by kernel_rfl
theorem rK:prog.cellsOf 311=1:=by kernel_rfl
theorem cells9:prog.cellsOf 9=1:=by kernel_rfl
theorem Aa4 : "*" ++ "errors.errorString" = "*errors.errorString" := by decide
theorem Aa5 (u : TypeId) (h : prog.typeName? 3 u = some "*errors.errorString") : u = 309 :=
 typeName_ptr_named (nm := "errors.errorString") (by rw [Aa4]; kernel_rfl) (by kernel_rfl) (by decide) u (by rw [Aa4]; exact h)
def laidL : List (String × DataW Unit) := [("math/bits.deBruijn32tab", Rows.laid_math_bits_deBruijn32tab), ("math/bits.deBruijn64tab", Rows.laid_math_bits_deBruijn64tab), ("internal/strconv.uint64pow10", Rows.laid_internal_strconv_uint64pow10), ("strconv.ErrRange", Rows.laid_strconv_ErrRange), ("strconv.ErrSyntax", Rows.laid_strconv_ErrSyntax)]
theorem cell_in {W:World}{k o:Nat}{v:Value}(h:W.cell? ⟨k,o,none⟩=some v):k<W.heap.size:=by
 rcases Nat.lt_or_ge k W.heap.size with q|q
 ·exact q
 ·simp[World.cell?,Array.getElem?_eq_none q] at h
theorem base_of_laid {W:World}(h:laidMetH prog laidL W):Ju W:=by
 have j:laidMet prog laidL W:=h;have b : laidMet prog [("internal/strconv.uint64pow10", Lib.tabData .u64 Lib.pow10Tab), ("strconv.ErrRange", Rows.laid_strconv_ErrRange), ("strconv.ErrSyntax", Rows.laid_strconv_ErrSyntax)] W := j.tail.tail;have a:=Lib.tabIs_of_head Vy Ac0 underlying277 underlying128 yZ zB b;obtain⟨f,k,c,_⟩:=laid_sentinel b.tail gR gRt underlying25 Aa5 underlying309 underlying311 rfl rfl underlying9 rK cells9;obtain⟨g,l,d,_⟩:=laid_sentinel b.tail.tail gS gSt underlying25 Aa5 underlying309 underlying311 rfl rfl underlying9 rK cells9;have e:W.cell? ⟨4,0,none⟩=some (.iface 309 (.pointer (some f))):=by simpa using World.var?_cell gR c 0
 have i:W.cell? ⟨3,0,none⟩=some (.iface 309 (.pointer (some g))):=by simpa using World.var?_cell gS d 0
 exact⟨⟨cell_in e,⟨_,e,.inr ⟨_,_,rfl⟩⟩,⟨_,i,.inr ⟨_,_,rfl⟩⟩⟩,a⟩
end
end Go.Proofs.YtdpeliifdlhhkaaGreatDoor.Sx
