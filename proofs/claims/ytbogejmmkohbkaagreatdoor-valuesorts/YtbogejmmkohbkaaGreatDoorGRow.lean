/- The rows: what the laws start from. -/
import Derived.Test.YtbogejmmkohbkaaGreatDoorGX1
import Derived.Test.YtbogejmmkohbkaaGreatDoorRows
import Derived.ChangeSame
import Derived.ChangeVars
import Derived.JoinedOf
import Derived.RowKit
import Derived.RowKitTokens
import Derived.LaidLaws
import Derived.LaidHandle
import Derived.Lay
import Derived.Lib.LaidTab
import Derived.Stop.Joined
import Derived.Stop.LaidErr
import Derived.ProofKit
import Derived.SizedLaws
namespace Go.Proofs.YtbogejmmkohbkaaGreatDoor.Sx
open Go.RowKit Go.Sort Go.ChangeShapes Go.WideShapes Go.ChangeAt

theorem own : ownKnob Tryz.prog.godebug = none := by kernel_rfl
theorem gPow : (Tryz.prog.globals[2]?).map (·.type) = some 277 := by kernel_rfl
theorem gR : Tryz.prog.globalNamed "strconv.ErrRange" = some 4 := by kernel_rfl
theorem gS : Tryz.prog.globalNamed "strconv.ErrSyntax" = some 3 := by kernel_rfl
theorem gRt : (Tryz.prog.globals[4]?).map (·.type) = some 25 := by kernel_rfl
theorem gSt : (Tryz.prog.globals[3]?).map (·.type) = some 25 := by kernel_rfl
theorem cellsU : Tryz.prog.cellsOf 128 = 1 := by kernel_rfl
theorem cellsP : Tryz.prog.cellsOf 277 = 20 := by kernel_rfl
theorem cellsE : Tryz.prog.cellsOf 311 = 1 := by kernel_rfl
theorem cells9 : Tryz.prog.cellsOf 9 = 1 := by kernel_rfl

theorem star : "*" ++ "errors.errorString" = "*errors.errorString" := by decide
theorem rowE (u : TypeId) (h : Tryz.prog.typeName? 3 u = some "*errors.errorString") : u = 309 :=
  typeName_ptr_named (nm := "errors.errorString") (by rw [star]; kernel_rfl) (by kernel_rfl) (by decide) u (by rw [star]; exact h)

/-- what the rows list -/
def laidL : List (String × DataW Unit) := [("math/bits.deBruijn32tab", Rows.laid_math_bits_deBruijn32tab), ("math/bits.deBruijn64tab", Rows.laid_math_bits_deBruijn64tab), ("internal/strconv.uint64pow10", Rows.laid_internal_strconv_uint64pow10), ("strconv.ErrRange", Rows.laid_strconv_ErrRange), ("strconv.ErrSyntax", Rows.laid_strconv_ErrSyntax)]

theorem cell_in {W : World} {k o : Nat} {v : Value} (h : W.cell? ⟨k, o, none⟩ = some v) : k < W.heap.size := by
  rcases Nat.lt_or_ge k W.heap.size with q | q
  · exact q
  · simp [World.cell?, Array.getElem?_eq_none q] at h
theorem base_of_laid {W : World} (h : laidMetH Tryz.prog laidL W) : Base W := by
  have h0 : laidMet Tryz.prog laidL W := h
  have h2 : laidMet Tryz.prog [("internal/strconv.uint64pow10", Lib.tabData .u64 Lib.pow10Tab), ("strconv.ErrRange", Rows.laid_strconv_ErrRange), ("strconv.ErrSyntax", Rows.laid_strconv_ErrSyntax)] W := h0.tail.tail
  have htab := Lib.tabIs_of_head pow_global gPow Tryz.underlying277 Tryz.underlying128 cellsU cellsP h2
  obtain ⟨a0, s0, hv0, _⟩ := laid_sentinel h2.tail gR gRt Tryz.underlying25 rowE Tryz.underlying309 Tryz.underlying311 rfl rfl Tryz.underlying9 cellsE cells9
  obtain ⟨a1, s1, hv1, _⟩ := laid_sentinel h2.tail.tail gS gSt Tryz.underlying25 rowE Tryz.underlying309 Tryz.underlying311 rfl rfl Tryz.underlying9 cellsE cells9
  have c4 : W.cell? ⟨4, 0, none⟩ = some (.iface 309 (.pointer (some a0))) := by simpa using World.var?_cell gR hv0 0
  have c3 : W.cell? ⟨3, 0, none⟩ = some (.iface 309 (.pointer (some a1))) := by simpa using World.var?_cell gS hv1 0
  exact ⟨⟨cell_in c4, ⟨_, c4, .inr ⟨_, _, rfl⟩⟩, ⟨_, c3, .inr ⟨_, _, rfl⟩⟩⟩, htab⟩
end Go.Proofs.YtbogejmmkohbkaaGreatDoor.Sx
