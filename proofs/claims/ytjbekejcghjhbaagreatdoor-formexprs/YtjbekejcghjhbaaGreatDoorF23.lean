/- The row of expressions: what the law starts from. -/
import Derived.Test.YtjbekejcghjhbaaGreatDoorF22
import Derived.Test.YtjbekejcghjhbaaGreatDoorRows
import Derived.ChangeSame
import Derived.ChangeVars
import Derived.JoinedOf
import Derived.RowKit
import Derived.RowKitTokens
import Derived.LaidLaws
import Derived.LaidHandle
import Derived.Lay
import Derived.Lib.LaidTab
import Derived.Stop.Joined
import Derived.Stop.LaidErr
import Derived.ProofKit
import Derived.SizedLaws
import Derived.LaidSub
namespace Go.Proofs.YtjbekejcghjhbaaGreatDoor.Sx
open Go.RowKit Go.Sort Go.ChangeShapes Go.WideShapes Go.ChangeAt

theorem ownKn : ownKnob Tryz.prog.godebug = none := by kernel_rfl
theorem gPowF : (Tryz.prog.globals[2]?).map (·.type) = some 277 := by kernel_rfl
theorem gRF : Tryz.prog.globalNamed "strconv.ErrRange" = some 4 := by kernel_rfl
theorem gSF : Tryz.prog.globalNamed "strconv.ErrSyntax" = some 3 := by kernel_rfl
theorem gRtF : (Tryz.prog.globals[4]?).map (·.type) = some 25 := by kernel_rfl
theorem gStF : (Tryz.prog.globals[3]?).map (·.type) = some 25 := by kernel_rfl
theorem cellsUF : Tryz.prog.cellsOf 128 = 1 := by kernel_rfl
theorem cellsPF : Tryz.prog.cellsOf 277 = 20 := by kernel_rfl
theorem cellsEF : Tryz.prog.cellsOf 311 = 1 := by kernel_rfl
theorem cells9F : Tryz.prog.cellsOf 9 = 1 := by kernel_rfl

theorem starF : "*" ++ "errors.errorString" = "*errors.errorString" := by decide
theorem rowEF (u : TypeId) (h : Tryz.prog.typeName? 3 u = some "*errors.errorString") : u = 309 :=
  typeName_ptr_named (nm := "errors.errorString") (by rw [starF]; kernel_rfl) (by kernel_rfl) (by decide) u (by rw [starF]; exact h)

/-- what the rows list -/
def laidLF : List (String × DataW Unit) := [("math/bits.deBruijn32tab", Rows.laid_math_bits_deBruijn32tab), ("math/bits.deBruijn64tab", Rows.laid_math_bits_deBruijn64tab), ("internal/strconv.uint64pow10", Rows.laid_internal_strconv_uint64pow10), ("strconv.ErrRange", Rows.laid_strconv_ErrRange), ("strconv.ErrSyntax", Rows.laid_strconv_ErrSyntax)]

theorem cell_inF {W : World} {k o : Nat} {v : Value} (h : W.cell? ⟨k, o, none⟩ = some v) : k < W.heap.size := by
  rcases Nat.lt_or_ge k W.heap.size with q | q
  · exact q
  · simp [World.cell?, Array.getElem?_eq_none q] at h
theorem base_of_laidF {W : World} (h : laidMetH Tryz.prog laidLF W) : (4 < W.heap.size ∧ (∃ ev, W.cell? ⟨4, 0, none⟩ = some ev ∧ (ev = .nilIface ∨ ∃ te pe, ev = .iface te pe)) ∧ ∃ ev, W.cell? ⟨3, 0, none⟩ = some ev ∧ (ev = .nilIface ∨ ∃ te pe, ev = .iface te pe)) ∧ Lib.TabIs Tryz.prog W "internal/strconv.uint64pow10" .u64 Lib.pow10Tab := by
  have h0 : laidMet Tryz.prog laidLF W := h
  have h2 : laidMet Tryz.prog [("internal/strconv.uint64pow10", Lib.tabData .u64 Lib.pow10Tab), ("strconv.ErrRange", Rows.laid_strconv_ErrRange), ("strconv.ErrSyntax", Rows.laid_strconv_ErrSyntax)] W := h0.tail.tail
  have htab := Lib.tabIs_of_head pow_global gPowF Tryz.underlying277 Tryz.underlying128 cellsUF cellsPF h2
  obtain ⟨a0, s0, hv0, _⟩ := laid_sentinel h2.tail gRF gRtF Tryz.underlying25 rowEF Tryz.underlying309 Tryz.underlying311 rfl rfl Tryz.underlying9 cellsEF cells9F
  obtain ⟨a1, s1, hv1, _⟩ := laid_sentinel h2.tail.tail gSF gStF Tryz.underlying25 rowEF Tryz.underlying309 Tryz.underlying311 rfl rfl Tryz.underlying9 cellsEF cells9F
  have c4 : W.cell? ⟨4, 0, none⟩ = some (.iface 309 (.pointer (some a0))) := by simpa using World.var?_cell gRF hv0 0
  have c3 : W.cell? ⟨3, 0, none⟩ = some (.iface 309 (.pointer (some a1))) := by simpa using World.var?_cell gSF hv1 0
  exact ⟨⟨cell_inF c4, ⟨_, c4, .inr ⟨_, _, rfl⟩⟩, ⟨_, c3, .inr ⟨_, _, rfl⟩⟩⟩, htab⟩
/-- what the row lists -/
def laidEF : List (String × DataW Unit) := [("math/bits.deBruijn32tab", Rows.laid_math_bits_deBruijn32tab), ("math/bits.deBruijn64tab", Rows.laid_math_bits_deBruijn64tab), ("internal/strconv.uint64pow10", Rows.laid_internal_strconv_uint64pow10), ("errors.errorType", Rows.laid_errors_errorType), ("strconv.ErrRange", Rows.laid_strconv_ErrRange), ("strconv.ErrSyntax", Rows.laid_strconv_ErrSyntax)]
theorem gEtF : Tryz.prog.globalNamed "errors.errorType" = some 0 := by kernel_rfl
theorem gRtyF : (Tryz.prog.cutTypes.find? (·.1 == "internal/reflectlite.rtype")).map (·.2) = some 216 := by kernel_rfl
theorem oneErrF : ((List.range 374).filter fun t => Tryz.prog.rowNamed t [101, 114, 114, 111, 114]) = [25] := by kernel_rfl
theorem tySizeF : Tryz.prog.types.size = 374 := by kernel_rfl
theorem filtLF : (laidEF.filter fun x => x.2.handleName?.isNone) = laidLF := by kernel_rfl
theorem filtHF : (laidEF.filter fun x => x.2.handleName?.isSome) = [("errors.errorType", Rows.laid_errors_errorType)] := by kernel_rfl

theorem basee_of_laidF {W : World} (h : laidMetH Tryz.prog laidEF W) : BaseF W := by
  have h' : laidMet Tryz.prog (laidEF.filter fun x => x.2.handleName?.isNone) W ∧ handlesMet Tryz.prog (laidEF.filter fun x => x.2.handleName?.isSome) W := h
  rw [filtLF, filtHF] at h'
  obtain ⟨name, u, ty, e1, e2, e3, e4, e5⟩ := h'.2 _ (List.mem_singleton.2 rfl)
  have en : name = [101, 114, 114, 111, 114] := (Option.some.inj e1).symm
  subst en
  obtain rfl := Option.some.inj (gRtyF.symm.trans e2)
  have hm : ty ∈ (List.range 374).filter fun t => Tryz.prog.rowNamed t [101, 114, 114, 111, 114] := List.mem_filter.2 ⟨List.mem_range.2 (by rw [← tySizeF]; exact e3), e4⟩
  rw [oneErrF] at hm
  obtain rfl := List.mem_singleton.1 hm
  have hh : typeHandle Tryz.prog 25 = .pointer (some ⟨7, 25, none⟩) := by kernel_rfl
  rw [hh] at e5
  refine ⟨(base_of_laidF h'.1).1, (base_of_laidF h'.1).2, ?_⟩
  simpa using World.var?_cell gEtF e5 0
end Go.Proofs.YtjbekejcghjhbaaGreatDoor.Sx
