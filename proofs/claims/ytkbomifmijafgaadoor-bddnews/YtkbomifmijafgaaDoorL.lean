/- BddNews: the contract of the row. -/
import Derived.Test.YtkbomifmijafgaaDoorRows
import Derived.Test.YtkbomifmijafgaaDoorT23
import Derived.ChangeSame
import Derived.ChangeVars
import Derived.JoinedOf
import Derived.RowKit
import Derived.RowKitTokens
import Derived.LaidLaws
import Derived.LaidHandle
import Derived.Lay
import Derived.Stop.Joined
import Derived.ProofKit
import Derived.SizedLaws
import Derived.LaidSub
import Derived.Deep.Grids
import Derived.Carry
namespace Go.Proofs.YtkbomifmijafgaaDoor
open Go.ChangeShapes Go.WideShapes Go.ChangeAt Go.RowKit

theorem Sx.own : ownKnob Tryd.prog.godebug = none := by kernel_rfl
/-- what the row lists -/
def Sx.laidE : List (String × DataW Unit) := [("errors.errorType", Rows.laid_errors_errorType)]
theorem Sx.gEt : Tryd.prog.globalNamed "errors.errorType" = some 0 := by kernel_rfl
theorem Sx.gRty : (Tryd.prog.cutTypes.find? (·.1 == "internal/reflectlite.rtype")).map (·.2) = some 89 := by kernel_rfl
theorem Sx.oneErr : ((List.range 132).filter fun t => Tryd.prog.rowNamed t [101, 114, 114, 111, 114]) = [25] := by kernel_rfl
theorem Sx.tySize : Tryd.prog.types.size = 132 := by kernel_rfl
theorem Sx.filtL : (Sx.laidE.filter fun x => x.2.handleName?.isNone) = [] := by kernel_rfl
theorem Sx.filtH : (Sx.laidE.filter fun x => x.2.handleName?.isSome) = [("errors.errorType", Rows.laid_errors_errorType)] := by kernel_rfl

theorem Sx.et_of_laid {W : World} (h : laidMetH Tryd.prog Sx.laidE W) : Sx.EtB W := by
  have h' : laidMet Tryd.prog (Sx.laidE.filter fun x => x.2.handleName?.isNone) W ∧ handlesMet Tryd.prog (Sx.laidE.filter fun x => x.2.handleName?.isSome) W := h
  rw [Sx.filtL, Sx.filtH] at h'
  obtain ⟨name, u, ty, e1, e2, e3, e4, e5⟩ := h'.2 _ (List.mem_singleton.2 rfl)
  have en : name = [101, 114, 114, 111, 114] := (Option.some.inj e1).symm
  subst en
  obtain rfl := Option.some.inj (Sx.gRty.symm.trans e2)
  have hm : ty ∈ (List.range 132).filter fun t => Tryd.prog.rowNamed t [101, 114, 114, 111, 114] := List.mem_filter.2 ⟨List.mem_range.2 (by rw [← Sx.tySize]; exact e3), e4⟩
  rw [Sx.oneErr] at hm
  obtain rfl := List.mem_singleton.1 hm
  have hh : typeHandle Tryd.prog 25 = .pointer (some ⟨1, 25, none⟩) := by kernel_rfl
  rw [hh] at e5
  unfold Sx.EtB
  simpa using World.var?_cell Sx.gEt e5 0

/-- the caller's values, read -/
theorem Sx.open_at {H : Type} {enc : TypeId × Value → H} {W : World} {v : Value} {d : DataW H} {p : List MemPlace} (hv : ∃ a len cap, v = .slice a len cap) (h : DataW.Trod enc Tryd.prog W 0 (fun _ => true) true 22 v d p) :
    ∃ a len cap, ∃ at' : List Bool, v = .slice a len cap ∧ Sx.AtOK W a len at' := by
  obtain ⟨a', l', c', rfl⟩ := hv
  obtain ⟨fuel, h⟩ := h
  rcases Deep.open_bools Tryd.underlying22 Tryd.underlying4 (by kernel_rfl) h with ⟨e, _⟩ | ⟨a, len, cap, B, e, _, hl, _, _, hc⟩
  · simp only [Value.cells, List.cons.injEq, and_true, Value.slice.injEq] at e
    obtain ⟨rfl, rfl, rfl⟩ := e
    exact ⟨none, 0, 0, [], rfl, rfl, by simp⟩
  · simp only [Value.cells, List.cons.injEq, and_true, Value.slice.injEq] at e
    obtain ⟨ea, el, ec⟩ := e
    subst a' l' c'
    refine ⟨some a, len, cap, (List.range len).map B, rfl, by simp, fun j x hj => ⟨a, rfl, ?_⟩⟩
    have hjl : j < len := by
      have := (List.getElem?_eq_some_iff.1 hj).1
      simpa using this
    have e3 : x = B j := by
      rw [List.getElem?_map, List.getElem?_range hjl] at hj
      simpa using hj.symm
    rw [e3]
    exact hc j (by omega)

theorem Sx.metE (os : Os) : laidMetH Tryd.prog Sx.laidE (((World.holding Tryd.prog os ⟨#[], #[], []⟩).setCell ⟨0, 0, none⟩ (.iface 89 (.agg #[.pointer (some ⟨1, 25, none⟩)]))).forCall (fun _ _ => 0) ⟨#[], #[.int .i64 0, .int .i64 0, .int .i64 0, .slice none 0 0], []⟩).memory := by
  refine laidMetH_of_parts ?_ (by kernel_rfl)
  rw [Sx.filtL]
  exact ⟨[], rfl, List.nodup_nil, fun _ _ h => by cases h⟩

set_option maxRecDepth 100000 in
theorem Sx.news_lifted (os : Os) (started : os.Started) (H : Type) (enc : TypeId × Value → H) :
    ReturnsInHanded {} Tryd.checked os 3 .any (fun w args => (Rows.bddNewsSpec.pre enc Tryd.prog Tryd.f3 [] false w args ∧ laidMetH Tryd.prog Sx.laidE w) ∧ sizedMet enc Tryd.prog Tryd.f3 (OpenSpec.ofChange Rows.bddNewsSpec) false w args)
      (Rows.bddNewsSpec.post enc Tryd.prog Tryd.f3 false true false false) := by
  refine returnsInHanded_of_change_and (C := Tryd.checked) (X := fun w _ => laidMetH Tryd.prog Sx.laidE w) (fun _ _ _ hh h => h.of_heap hh) Sx.own started (by kernel_rfl) Tryd.func3
    (ChangeSpec.witness_shaped (enc := enc) (C := Tryd.checked) (os := os) (X := fun w _ => laidMetH Tryd.prog Sx.laidE w) false ((World.holding Tryd.prog os ⟨#[], #[], []⟩).setCell ⟨0, 0, none⟩ (.iface 89 (.agg #[.pointer (some ⟨1, 25, none⟩)]))) #[.int .i64 0, .int .i64 0, .int .i64 0, .slice none 0 0] 8 rfl (World.shaped_of_ZipB (by kernel_rfl) (by kernel_rfl)) (by kernel_rfl) (by kernel_rfl) (by kernel_rfl) (Sx.metE os)) ?_
  intro W base args ds gs before hval0 hW _ hsz0 hL _
  clear hsz0
  have hval : ∀ (j : Nat) t v, Tryd.f3.params[j]? = some t → args[j]? = some v → Value.okWide Tryd.prog W .any base t v := hval0
  have hW' := hW
  obtain ⟨p, q, hA0, hV0, rfl, hfz, hnd⟩ := hW
  have hA : DataW.TrodAll enc Tryd.prog W 0 (fun _ => true) true Tryd.f3.params.toList args.toList ds p := hA0
  have hV : DataW.TrodVars enc Tryd.prog W (fun _ => true) [] gs q := hV0
  rw [Tryd.params3] at hA hval
  obtain ⟨v0, v1, v2, v3, d0, d1, d2, d3, p0, p1, p2, p3, rfl, rfl, rfl, h0, h1, h2, h3⟩ := trodAll_four hA
  obtain ⟨rfl, rfl⟩ : gs = [] ∧ q = [] := by
    cases gs with
    | nil => exact ⟨rfl, hV⟩
    | cons g r => exact absurd hV (by intro h; cases h)
  have hlt : ∀ x ∈ p3, x.block < W.heap.size := fun x hx => hW'.lt x (by simp [hx])
  obtain ⟨a, len, cap, at', rfl, hat⟩ := Sx.open_at (okWide_slice Tryd.underlying22 (hval 3 22 v3 rfl rfl)) h3
  obtain ⟨n0, rfl, rfl, rfl, z0⟩ := open_int Tryd.underlying3 (hval 0 3 v0 rfl rfl) h0
  obtain ⟨n1, rfl, rfl, rfl, z1⟩ := open_int Tryd.underlying3 (hval 1 3 v1 rfl rfl) h1
  obtain ⟨n2, rfl, rfl, rfl, z2⟩ := open_int Tryd.underlying3 (hval 2 3 v2 rfl rfl) h2
  have e1 : Rows.bddNewsSpec.fn H ([.lit (.int .i64 n0), .lit (.int .i64 n1), .lit (.int .i64 n2), d3] ++ []) = { results := [.lit (.bool true)], args := [.lit (.int .i64 n0), .lit (.int .i64 n1), .lit (.int .i64 n2), d3] } := by simp [Rows.bddNewsSpec]
  refine (Sx.law_any W n0 n1 n2 a len cap at' hat (Sx.et_of_laid hL)).mono ?_
  rintro e W' ⟨rfl, hF⟩
  have bel : Below W.heap.size W W' := ⟨hF.os, hF.tape, hF.output, hF.size, fun k hk => hF.block k hk trivial⟩
  refine ⟨_, rfl, _, _, _, [], p3, [], hW', ?_, ?_, ?_, bel.frame _, fun h => by cases h⟩
  · rw [e1]; exact trodAll_mk1 (shut_bool Tryd.underlying4 true)
  · rw [e1]; exact trodAll_mk4 (shut_int Tryd.underlying3 z0) (shut_int Tryd.underlying3 z1) (shut_int Tryd.underlying3 z2) (Below.trod (by kernel_rfl) (by kernel_rfl) (of_decide_eq_true (by kernel_rfl)) h3 bel hlt)
  · rw [e1]; rfl

end Go.Proofs.YtkbomifmijafgaaDoor
