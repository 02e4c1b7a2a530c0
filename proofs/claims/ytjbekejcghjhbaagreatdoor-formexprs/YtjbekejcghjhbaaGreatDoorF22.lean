/- The number of an error, for expressions: errors.As, Told, and what compares it. -/
import Derived.Test.YtjbekejcghjhbaaGreatDoorF21
import Derived.WalkKit
import Derived.LaidEql
import Derived.Stop.Asserts
import Derived.RowKitTokens
namespace Go.Proofs.YtjbekejcghjhbaaGreatDoor.Sx
open Go.RowKit Go.Extern.Stop Go.Stop Go.Extern

theorem asUnpackPF (t : Addr) (w : World) : (ReflectliteValue.unpack (.iface 114 (.pointer (some t)))).run Tryz.prog w
    = .ok (.agg #[.pointer (some ⟨7, 114, none⟩), .pointer (some ⟨w.heap.size, 0, none⟩), .int .u64 150]) (w.alloc (.cells #[.pointer (some t)] 114)) := by kernel_rfl
theorem asTypePF (a : Addr) (w : World) : (ReflectliteValue.methodAny (ReflectliteValue.valueError "reflectlite.Value.Type" 0) (fun t _ _ _ => ReflectliteType.toType t) #[.agg #[.pointer (some ⟨7, 114, none⟩), .pointer (some a), .int .u64 150]]).run Tryz.prog w
    = .ok (.iface 216 (.agg #[.pointer (some ⟨7, 114, none⟩)])) w := by kernel_rfl
theorem asKindF (h : Value) (w : World) : (Go.method 474 216 (.agg #[h]) "Kind").run Tryz.prog w = .ok (371, h) w := by kernel_rfl
theorem asKindPF (w : World) : ((ReflectliteType.abiMethod fun t => (fun a : Nat => Value.int IntKind.u8 (a : Int)) <$> Rtype.kind t) #[.pointer (some ⟨7, 114, none⟩)]).run Tryz.prog w = .ok (.int .u8 22) w := by kernel_rfl
theorem asKindEF (w : World) : ((ReflectliteType.abiMethod fun t => (fun a : Nat => Value.int IntKind.u8 (a : Int)) <$> Rtype.kind t) #[.pointer (some ⟨7, 61, none⟩)]).run Tryz.prog w = .ok (.int .u8 2) w := by kernel_rfl
theorem asPartsPF (a : Addr) (w : World) : (ReflectliteValue.parts (.agg #[.pointer (some ⟨7, 114, none⟩), .pointer (some a), .int .u64 150])).run Tryz.prog w = .ok (some (114, a, 150)) w := by kernel_rfl
theorem asIsNilPF (a p : Addr) (W : World) (ha : W.cell? a = some (.pointer (some p))) :
    (ReflectliteValue.method (ReflectliteValue.valueError "reflectlite.Value.IsNil" 0) ReflectliteValue.isNil #[.agg #[.pointer (some ⟨7, 114, none⟩), .pointer (some a), .int .u64 150]]).run Tryz.prog W = .ok (.bool false) W := by
  show Sem.run Tryz.prog (ReflectliteValue.parts (.agg #[.pointer (some ⟨7, 114, none⟩), .pointer (some a), .int .u64 150]) >>= _) W = _
  simp only [Sem.run_bind, asPartsPF, Result.andThen]
  simp [ReflectliteValue.isNil, loadVar, isAgg, underlying, Tryz.underlying114, ha, Result.andThen]
theorem asElemF (h : Value) (w : World) : (Go.method 474 216 (.agg #[h]) "Elem").run Tryz.prog w = .ok (384, .agg #[h]) w := by kernel_rfl
theorem asImplF (h : Value) (w : World) : (Go.method 474 216 (.agg #[h]) "Implements").run Tryz.prog w = .ok (385, .agg #[h]) w := by kernel_rfl
theorem asAssignF (h : Value) (w : World) : (Go.method 474 216 (.agg #[h]) "AssignableTo").run Tryz.prog w = .ok (382, .agg #[h]) w := by kernel_rfl
theorem asElemPF (w : World) : (ReflectliteType.method ReflectliteType.elem #[.agg #[.pointer (some ⟨7, 114, none⟩)]]).run Tryz.prog w = .ok (.iface 216 (.agg #[.pointer (some ⟨7, 61, none⟩)])) w := by kernel_rfl
theorem asImplEF (w : World) : (ReflectliteType.relation "Implements" ReflectliteType.implements_ #[.agg #[.pointer (some ⟨7, 61, none⟩)], .iface 216 (.agg #[.pointer (some ⟨7, 25, none⟩)])]).run Tryz.prog w = .ok (.bool true) w := by kernel_rfl
theorem asTypeEF (v : Value) (w : World) : (ReflectliteType.typeOf #[.iface 61 v]).run Tryz.prog w = .ok (.iface 216 (.agg #[.pointer (some ⟨7, 61, none⟩)])) w := by kernel_rfl
theorem asAssignEF (w : World) : (ReflectliteType.relation "AssignableTo" ReflectliteType.assignableTo #[.agg #[.pointer (some ⟨7, 61, none⟩)], .iface 216 (.agg #[.pointer (some ⟨7, 61, none⟩)])]).run Tryz.prog w = .ok (.bool true) w := by kernel_rfl
theorem asUnpackEF (n : Int) (w : World) : (ReflectliteValue.unpack (.iface 61 (.int .i64 n))).run Tryz.prog w
    = .ok (.agg #[.pointer (some ⟨7, 61, none⟩), .pointer (some ⟨w.heap.size, 0, none⟩), .int .u64 130]) (w.alloc (.cells #[.int .i64 n] 61)) := by kernel_rfl
theorem asElemOfF (w : World) : (Rtype.elem? 114).run Tryz.prog w = .ok (some 61) w := by kernel_rfl
theorem asMkEF (p : Addr) (w : World) : (ReflectliteValue.mk 61 p ReflectliteValue.flagAddr).run Tryz.prog w = .ok (.agg #[.pointer (some ⟨7, 61, none⟩), .pointer (some p), .int .u64 386]) w := by kernel_rfl
theorem asElemVF (a p : Addr) (W : World) (ha : W.cell? a = some (.pointer (some p))) :
    (ReflectliteValue.method (ReflectliteValue.valueError "reflectlite.Value.Elem" 0) ReflectliteValue.elem #[.agg #[.pointer (some ⟨7, 114, none⟩), .pointer (some a), .int .u64 150]]).run Tryz.prog W
      = .ok (.agg #[.pointer (some ⟨7, 61, none⟩), .pointer (some p), .int .u64 386]) W := by
  show Sem.run Tryz.prog (ReflectliteValue.parts (.agg #[.pointer (some ⟨7, 114, none⟩), .pointer (some a), .int .u64 150]) >>= _) W = _
  simp only [Sem.run_bind, asPartsPF, Result.andThen]
  simp [ReflectliteValue.elem, loadVar, isAgg, underlying, Tryz.underlying114, ha, Result.andThen, asElemOfF, asMkEF]
theorem asPartsAF (a : Addr) (w : World) : (ReflectliteValue.parts (.agg #[.pointer (some ⟨7, 61, none⟩), .pointer (some a), .int .u64 386])).run Tryz.prog w = .ok (some (61, a, 386)) w := by kernel_rfl
theorem asPartsEF (a : Addr) (w : World) : (ReflectliteValue.parts (.agg #[.pointer (some ⟨7, 61, none⟩), .pointer (some a), .int .u64 130])).run Tryz.prog w = .ok (some (61, a, 130)) w := by kernel_rfl
theorem asDirectF (w : World) : (Rtype.directlyAssignable 61 61).run Tryz.prog w = .ok true w := by kernel_rfl
theorem asSetEF (ta b : Addr) (n : Int) (old : Value) (W : World) (hb : W.cell? b = some (.int .i64 n)) (ht : W.cell? ta = some old) (hf : W.frozen? ta = false) :
    (ReflectliteValue.set #[.agg #[.pointer (some ⟨7, 61, none⟩), .pointer (some ta), .int .u64 386], .agg #[.pointer (some ⟨7, 61, none⟩), .pointer (some b), .int .u64 130]]).run Tryz.prog W
      = .ok (.tuple #[]) (W.setCell ta (.int .i64 n)) := by
  show Sem.run Tryz.prog (ReflectliteValue.parts (.agg #[.pointer (some ⟨7, 61, none⟩), .pointer (some ta), .int .u64 386]) >>= fun _ => ReflectliteValue.parts (.agg #[.pointer (some ⟨7, 61, none⟩), .pointer (some b), .int .u64 130]) >>= fun _ => _) W = _
  simp only [Sem.run_bind, asPartsAF, asPartsEF, Result.andThen]
  simp [ReflectliteValue.flagAddr, loadVar, isAgg, underlying, Tryz.underlying61, hb, Result.andThen, asDirectF, storeVar, Value.cells, storeCells, Addr.add]
  rw [run_store Tryz.prog W ta _ _ (by rfl)]
  simp [ht, hf]

set_option maxRecDepth 100000 in
set_option maxHeartbeats 8000000 in
theorem as_errnoF (n : Int) (t : Addr) (old : Value) (w : World) (hg : w.cell? ⟨0, 0, none⟩ = some (.iface 216 (.agg #[.pointer (some ⟨7, 25, none⟩)]))) (ht0 : w.cell? t = some old) (hf0 : w.frozen? t = false) :
    Calls Tryz.prog 69 #[.iface 61 (.int .i64 n), .iface 114 (.pointer (some t))] w fun ev w' => ev = .returned (.bool true) ∧ w' = ((((w.alloc (.cells #[.pointer (some t)] 114)).alloc (.cells #[.pointer (some ⟨7, 114, none⟩), .pointer (some ⟨w.heap.size, 0, none⟩), .int .u64 150] 181)).alloc (.cells #[.pointer (some ⟨7, 114, none⟩), .pointer (some ⟨w.heap.size, 0, none⟩), .int .u64 150] 181)).alloc (.cells #[.int .i64 n] 61)).setCell t (.int .i64 n) := by
  have h6 := @run_callFunc_extern Tryz.prog 128 _ (fun args => ReflectliteValue.unpack (args.getD 0 (.tuple #[]))) Tryz.func128 (by kernel_rfl) (by kernel_rfl) (by kernel_rfl) (by kernel_rfl)
  have h7 := @run_callFunc_extern Tryz.prog 129 _ (ReflectliteValue.methodAny (ReflectliteValue.valueError "reflectlite.Value.Type" 0) (fun t _ _ _ => ReflectliteType.toType t)) Tryz.func129 (by kernel_rfl) (by kernel_rfl) (by kernel_rfl) (by kernel_rfl)
  have h8 := @run_callFunc_extern Tryz.prog 130 _ (ReflectliteValue.method (ReflectliteValue.valueError "reflectlite.Value.IsNil" 0) ReflectliteValue.isNil) Tryz.func130 (by kernel_rfl) (by kernel_rfl) (by kernel_rfl) (by kernel_rfl)
  have h27 := @run_callFunc_extern Tryz.prog 371 _ (ReflectliteType.abiMethod fun t => do pure (.int .u8 (← Rtype.kind t))) Tryz.func371 (by kernel_rfl) (by kernel_rfl) (by kernel_rfl) (by kernel_rfl)
  have h37 := @run_callFunc_extern Tryz.prog 384 _ (ReflectliteType.method ReflectliteType.elem) Tryz.func384 (by kernel_rfl) (by kernel_rfl) (by kernel_rfl) (by kernel_rfl)
  have h38 := @run_callFunc_extern Tryz.prog 385 _ (ReflectliteType.relation "Implements" ReflectliteType.implements_) Tryz.func385 (by kernel_rfl) (by kernel_rfl) (by kernel_rfl) (by kernel_rfl)
  have h10 := @run_callFunc_extern Tryz.prog 178 _ ReflectliteType.typeOf Tryz.func178 (by kernel_rfl) (by kernel_rfl) (by kernel_rfl) (by kernel_rfl)
  have h35 := @run_callFunc_extern Tryz.prog 382 _ (ReflectliteType.relation "AssignableTo" ReflectliteType.assignableTo) Tryz.func382 (by kernel_rfl) (by kernel_rfl) (by kernel_rfl) (by kernel_rfl)
  have h11 := @run_callFunc_extern Tryz.prog 179 _ (ReflectliteValue.method (ReflectliteValue.valueError "reflectlite.Value.Elem" 0) ReflectliteValue.elem) Tryz.func179 (by kernel_rfl) (by kernel_rfl) (by kernel_rfl) (by kernel_rfl)
  have h12 := @run_callFunc_extern Tryz.prog 180 _ ReflectliteValue.set Tryz.func180 (by kernel_rfl) (by kernel_rfl) (by kernel_rfl) (by kernel_rfl)
  have tO := asTypeEF
  have mA := asAssignF
  have a25 := asAssignEF
  have v25 := asUnpackEF
  have f6 := asUnpackPF
  have f7 := asTypePF
  have mK := asKindF
  have mE := asElemF
  have mI := asImplF
  have k27 := asKindPF
  have k25 := asKindEF
  have e27 := asElemPF
  have i25 := asImplEF
  have n8 := asIsNilPF ⟨w.heap.size, 0, none⟩ t ((w.alloc (.cells #[.pointer (some t)] 114)).alloc (.cells #[.pointer (some ⟨7, 114, none⟩), .pointer (some ⟨w.heap.size, 0, none⟩), .int .u64 150] 181)) (by simp)
  have hlt : 0 < w.heap.size := by
    rcases Nat.eq_zero_or_pos w.heap.size with h0 | h
    · simp [World.cell?, h0] at hg
    · exact h
  have hg2 : ((w.alloc (.cells #[.pointer (some t)] 114)).alloc (.cells #[.pointer (some ⟨7, 114, none⟩), .pointer (some ⟨w.heap.size, 0, none⟩), .int .u64 150] 181)).cell? ⟨0, 0, none⟩ = some (.iface 216 (.agg #[.pointer (some ⟨7, 25, none⟩)])) := by
    rw [World.cell?_alloc_lt _ _ ⟨0, 0, none⟩ (by simp), World.cell?_alloc_lt _ _ ⟨0, 0, none⟩ hlt]; exact hg
  have htl : t.block < w.heap.size := by
    rcases Nat.lt_or_ge t.block w.heap.size with h | h
    · exact h
    · simp [World.cell?, Array.getElem?_eq_none h] at ht0
  have el := asElemVF ⟨w.heap.size, 0, none⟩ t (((w.alloc (.cells #[.pointer (some t)] 114)).alloc (.cells #[.pointer (some ⟨7, 114, none⟩), .pointer (some ⟨w.heap.size, 0, none⟩), .int .u64 150] 181)).alloc (.cells #[.pointer (some ⟨7, 114, none⟩), .pointer (some ⟨w.heap.size, 0, none⟩), .int .u64 150] 181)) (by rw [World.cell?_alloc_lt _ _ ⟨w.heap.size, 0, none⟩ (by simp; omega)]; simp)
  have st := asSetEF t ⟨w.heap.size + 1 + 1 + 1, 0, none⟩ n old ((((w.alloc (.cells #[.pointer (some t)] 114)).alloc (.cells #[.pointer (some ⟨7, 114, none⟩), .pointer (some ⟨w.heap.size, 0, none⟩), .int .u64 150] 181)).alloc (.cells #[.pointer (some ⟨7, 114, none⟩), .pointer (some ⟨w.heap.size, 0, none⟩), .int .u64 150] 181)).alloc (.cells #[.int .i64 n] 61))
    (by rw [World.cell?_alloc_at _ _ _ _ (by simp)]; rfl)
    (by rw [World.cell?_alloc_lt _ _ t (by simp; omega), World.cell?_alloc_lt _ _ t (by simp; omega), World.cell?_alloc_lt _ _ t (by simp; omega), World.cell?_alloc_lt _ _ t htl]; exact ht0)
    (by rw [World.frozen?_alloc_old _ _ t (by simp; omega), World.frozen?_alloc_old _ _ t (by simp; omega), World.frozen?_alloc_old _ _ t (by simp; omega), World.frozen?_alloc_old _ _ t (Nat.ne_of_lt htl)]; exact hf0)
  go_enter Tryz.func69, Tryz.ntmps69
  go_wp2
  refine wp_loop_rounds 1 ?_
  rw [rounds_succ]
  go_wp2
  go_ret
  exact ⟨rfl, rfl⟩
end Go.Proofs.YtjbekejcghjhbaaGreatDoor.Sx
namespace Go.Proofs.YtjbekejcghjhbaaGreatDoor.Sx
open Go.RowKit Go.Sort

/-- what the law of reading starts from -/
structure BaseF (w : World) : Prop where
  env : 4 < w.heap.size ∧ (∃ ev, w.cell? ⟨4, 0, none⟩ = some ev ∧ (ev = .nilIface ∨ ∃ te pe, ev = .iface te pe)) ∧ ∃ ev, w.cell? ⟨3, 0, none⟩ = some ev ∧ (ev = .nilIface ∨ ∃ te pe, ev = .iface te pe)
  tab : Lib.TabIs Tryz.prog w "internal/strconv.uint64pow10" .u64 Lib.pow10Tab
  et : w.cell? ⟨0, 0, none⟩ = some (.iface 216 (.agg #[.pointer (some ⟨7, 25, none⟩)]))
def GivesF (f : FuncId) (args : Array Value) (w : World) (r : Value) : Prop := Calls Tryz.prog f args w fun e w' => e = .returned r ∧ Below w.heap.size w w'
theorem cell_at0F {w : World} {v : Value} (h : w.cell? ⟨0, 0, none⟩ = some v) : 0 < w.heap.size := by
  rcases Nat.eq_zero_or_pos w.heap.size with h0 | h1
  · simp [World.cell?, h0] at h
  · exact h1
theorem cell_keepF {w w' : World} (hb : Below w.heap.size w w') {v : Value} (h : w.cell? ⟨0, 0, none⟩ = some v) : w'.cell? ⟨0, 0, none⟩ = some v := by
  have := hb.block 0 (cell_at0F h)
  simp only [World.cell?] at h ⊢
  rw [this]; exact h
theorem BaseF.below {w w' : World} (h : BaseF w) (hb : Below w.heap.size w w') : BaseF w' := by
  obtain ⟨h1, ⟨ev, h2, h3⟩, ew, h4, h5⟩ := h.env
  exact ⟨⟨Nat.lt_of_lt_of_le h1 hb.size, ⟨ev, (hb.cell (p := ⟨4, 0, none⟩) h1).trans h2, h3⟩, ew, (hb.cell (p := ⟨3, 0, none⟩) (by show 3 < _; omega)).trans h4, h5⟩, tab_below hb (by omega) h.tab, cell_keepF hb h.et⟩
theorem BaseF.envF {w : World} (h : BaseF w) : EnvF w w.heap.size := ⟨by have := h.env.1; omega, h.env.1, h.env.2.1, by have := h.env.1; omega, h.env.2.2⟩

set_option maxRecDepth 100000 in
theorem told_nilF (w : World) : GivesF 30 #[.nilIface] w (.int .i64 0) := by
  unfold GivesF
  go_enter Tryz.func30, Tryz.ntmps30
  go_wp2_with fail
  go_ret
  exact ⟨rfl, Below.refl _ _⟩
set_option maxRecDepth 100000 in
set_option maxHeartbeats 4000000 in
theorem told_errnoF (c : Int) (w : World) (hE : BaseF w) : GivesF 30 #[.iface 61 (.int .i64 c)] w (.int .i64 c) := by
  have G0 : Hid (Grew w (w.alloc (.cells #[.int .i64 0] 61))) := (Grew.refl w).alloc _
  have X0 : Hid ((w.alloc (.cells #[.int .i64 0] 61)).heap[w.heap.size]? = some (.cells #[.int .i64 0] 61 (0, 0))) := heap_new rfl
  have HAS : Hid (Calls Tryz.prog 69 #[.iface 61 (.int .i64 c), .iface 114 (.pointer (some ⟨w.heap.size, 0, none⟩))] (w.alloc (.cells #[.int .i64 0] 61)) _) := as_errnoF c ⟨w.heap.size, 0, none⟩ (.int .i64 0) _ (hE.below G0.out.below).et (block_cell X0.out 0) (frozen_block X0.out 0)
  clear hE
  unfold GivesF
  go_enter Tryz.func30, Tryz.ntmps30
  go_wp2_with fail
  refine HAS.out.mono ?_
  rintro e w1 ⟨rfl, rfl⟩
  generalize hW : World.alloc (World.alloc (World.alloc (World.alloc (World.alloc w _) _) _) _) _ = W
  have HB : Hid (Below w.heap.size w (W.setCell ⟨w.heap.size, 0, none⟩ (.int .i64 c))) := by
    subst hW
    exact ((((((Grew.refl w).alloc _).alloc _).alloc _).alloc _).alloc _ |>.setNew (Nat.le_refl _) _).below
  have XW : W.heap[w.heap.size]? = some (.cells #[.int .i64 0] 61 (0, 0)) := by
    subst hW
    exact Below.blockAt (((((Grew.refl _).alloc _).alloc _).alloc _).alloc _).below X0.out
  have XZ : Hid ((W.setCell ⟨w.heap.size, 0, none⟩ (.int .i64 c)).heap[w.heap.size]? = some (.cells #[.int .i64 c] 61 (0, 0))) := set_block XW 0 _
  clear hW XW HAS G0 X0
  generalize W.setCell ⟨w.heap.size, 0, none⟩ (.int .i64 c) = WZ at HB XZ ⊢
  have b0 := block_cell XZ.out 0
  go_wp2_with fail
  go_ret
  exact ⟨rfl, HB.out⟩
set_option maxRecDepth 100000 in
theorem same_nilF (w : World) (k : Nat) : GivesF 11 #[.nilIface, .int .i64 (k : Int)] w (.bool (decide (k = 0))) := by
  have HT : Hid (∀ W, GivesF 30 #[.nilIface] W (.int .i64 0)) := told_nilF
  unfold GivesF
  go_enter Tryz.func11, Tryz.ntmps11
  go_wp2_with fail
  refine Calls.mono (HT.out w) ?_
  rintro e w1 ⟨rfl, hb⟩
  have HB : Hid (Below w.heap.size w w1) := hb
  clear hb HT
  go_wp2_with fail
  go_ret
  refine ⟨?_, HB.out⟩
  by_cases h : k = 0
  · subst h; rfl
  · have h2 : ((0 : Int) == (k : Int)) = false := by simp; omega
    simp [h, h2]
set_option maxRecDepth 100000 in
theorem same_errnoF (w : World) (c k : Nat) (hE : BaseF w) : GivesF 11 #[.iface 61 (.int .i64 (c : Int)), .int .i64 (k : Int)] w (.bool (decide (c = k))) := by
  have HT : Hid (GivesF 30 #[.iface 61 (.int .i64 (c : Int))] w (.int .i64 (c : Int))) := told_errnoF c w hE
  clear hE
  unfold GivesF
  go_enter Tryz.func11, Tryz.ntmps11
  go_wp2_with fail
  refine Calls.mono HT.out ?_
  rintro e w1 ⟨rfl, hb⟩
  have HB : Hid (Below w.heap.size w w1) := hb
  clear hb HT
  go_wp2_with fail
  go_ret
  refine ⟨?_, HB.out⟩
  by_cases h : c = k
  · subst h; simp
  · have h2 : ((c : Int) == (k : Int)) = false := by simp; omega
    simp [h, h2]
end Go.Proofs.YtjbekejcghjhbaaGreatDoor.Sx
