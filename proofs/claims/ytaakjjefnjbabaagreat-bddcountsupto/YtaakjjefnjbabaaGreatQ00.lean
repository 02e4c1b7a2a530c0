/- Worlds: what stays, what is new; blocks of cells. -/
import Derived.Test.YtaakjjefnjbabaaGreatProg
import Derived.WalkKit
import Derived.WalkSpells
import Derived.WalkLawsBesides
import Derived.Sort.Grow
import Derived.Deep.Draws
import Derived.Shelf.SlSortCmp.QuietGrown
import Derived.Maps.Keyed
import Derived.DeepKeys4
import Derived.Maps.AppendAt
import Derived.OwnWalk
import Derived.Deep.AppendLies
set_option maxRecDepth 100000
namespace Go.Proofs.YtaakjjefnjbabaaGreat.Sx
open Go.RowKit Go.Sort
def Grew (w w' : World) : Prop := ∃ q os, w' = grow (w.drewN q) os
theorem Grew.refl (w : World) : Grew w w := ⟨0, #[], by simp [World.drewN]⟩
theorem Grew.trans {a b c : World} (h : Grew a b) (k : Grew b c) : Grew a c := by
 obtain ⟨q, os, rfl⟩ := h
 obtain ⟨q', os', rfl⟩ := k
 refine ⟨q + q', os ++ os', ?_⟩
 show grow (grow ((a.drewN q).drewN q') os) os' = _
 rw [grow_grow]
 show grow (World.drewN (World.drewN a q) q') _ = _
 simp only [World.drewN, Nat.add_assoc]
theorem Grew.alloc {a b : World} (h : Grew a b) (o : Obj) : Grew a (b.alloc o) := h.trans ⟨0, #[o], by rw [alloc_eq_grow]; simp [World.drewN]⟩
theorem Grew.drew {a b : World} (h : Grew a b) : Grew a b.drew := h.trans ⟨1, #[], by simp; rfl⟩
theorem Grew.drewN {a b : World} (h : Grew a b) (n : Nat) : Grew a (b.drewN n) := h.trans ⟨n, #[], by simp⟩
theorem Grew.below {w w' : World} (h : Grew w w') : Below w.heap.size w w' := by
 obtain ⟨q, os, rfl⟩ := h
 refine ⟨rfl, rfl, rfl, by simp [World.drewN], fun k hk => ?_⟩
 exact heap_grow_old (w.drewN q) os hk
theorem block_lt {w : World} {b : Nat} {o : Obj} (h : w.heap[b]? = some o) : b < w.heap.size := (Array.getElem?_eq_some_iff.1 h).1
theorem block_cell {w : World} {b : Nat} {vs : Array Value} {t : TypeId} {f : Nat × Nat} (h : w.heap[b]? = some (.cells vs t f)) (i : Nat) : w.cell? ⟨b, i, none⟩ = vs[i]? := by
 simp [World.cell?, h]
theorem frozen_block {w : World} {b : Nat} {vs : Array Value} {t : TypeId} (h : w.heap[b]? = some (.cells vs t (0, 0))) (i : Nat) : w.frozen? ⟨b, i, none⟩ = false := by
 simp [World.frozen?, h]
theorem set_block {w : World} {b : Nat} {vs : Array Value} {t : TypeId} {f : Nat × Nat} (h : w.heap[b]? = some (.cells vs t f)) (i : Nat) (u : Value) : (w.setCell ⟨b, i, none⟩ u).heap[b]? = some (.cells (vs.set! i u) t f) := by
 simp [World.setCell, Array.getElem?_modify, h]
structure Fr (P : Nat → Prop) (w w' : World) : Prop where
 os : w'.os = w.os
 tape : w'.tape = w.tape
 output : w'.output = w.output
 size : w.heap.size ≤ w'.heap.size
 block : ∀ k, k < w.heap.size → P k → w'.heap[k]? = w.heap[k]?
theorem Fr.refl (P : Nat → Prop) (w : World) : Fr P w w := ⟨rfl, rfl, rfl, Nat.le_refl _, fun _ _ _ => rfl⟩
theorem Fr.trans {P : Nat → Prop} {a b c : World} (h : Fr P a b) (k : Fr P b c) : Fr P a c :=
 ⟨k.os.trans h.os, k.tape.trans h.tape, k.output.trans h.output, Nat.le_trans h.size k.size, fun i hi hp => (k.block i (Nat.lt_of_lt_of_le hi h.size) hp).trans (h.block i hi hp)⟩
theorem Fr.mono {P Q : Nat → Prop} {a b : World} (h : Fr P a b) (hq : ∀ k, Q k → P k) : Fr Q a b := ⟨h.os, h.tape, h.output, h.size, fun i hi hp => h.block i hi (hq i hp)⟩
theorem Fr.below {P : Nat → Prop} {a b : World} (h : Below a.heap.size a b) : Fr P a b := ⟨h.os, h.tape, h.output, h.size, fun i hi _ => h.block i hi⟩
theorem Fr.grew {P : Nat → Prop} {a b : World} (h : Grew a b) : Fr P a b := Fr.below h.below
theorem Fr.set {P : Nat → Prop} {a b : World} (h : Fr P a b) {p : Addr} (hp : ¬ P p.block) (u : Value) : Fr P a (b.setCell p u) :=
 ⟨h.os, h.tape, h.output, by simpa using h.size, fun i hi hq => by rw [Below.heap_setCell b p u i (fun e => hp (by rw [← e]; exact hq))]; exact h.block i hi hq⟩
theorem Fr.drew {P : Nat → Prop} {a b : World} (h : Fr P a b) : Fr P a b.drew := h.trans (Fr.grew (Grew.drew (Grew.refl _)))
theorem Fr.alloc {P : Nat → Prop} {a b : World} (h : Fr P a b) (o : Obj) : Fr P a (b.alloc o) := h.trans (Fr.grew (Grew.alloc (Grew.refl _) o))
theorem follows : Tryz.prog.follows .mixedOrders = true := by kernel_rfl
theorem heap_new {W : World} {o : Obj} {k : Nat} (h : W.heap.size = k) : (W.alloc o).heap[k]? = some o := by subst h; exact heap_alloc_new W o
theorem heap_old {W : World} {o : Obj} {k : Nat} (h : k < W.heap.size) : (W.alloc o).heap[k]? = W.heap[k]? := heap_alloc_old W o h
end Go.Proofs.YtaakjjefnjbabaaGreat.Sx
namespace Go.Proofs.YtaakjjefnjbabaaGreat.Sx
open Go.RowKit Go.Sort Go.Maps Go.WideMaps
theorem laidOut : laidOutB Tryz.prog = true := by kernel_rfl
theorem lawA : Keyed Tryz.prog 89 := .of_law (deep_law_laid laidOut (m := 2) (by omega) (of_decide_eq_true (by kernel_rfl)) (by kernel_rfl) (by kernel_rfl))
theorem lawT : Keyed Tryz.prog 115 := .of_law (deep_law_laid laidOut (m := 2) (by omega) (of_decide_eq_true (by kernel_rfl)) (by kernel_rfl) (by kernel_rfl))
theorem lawN : Keyed Tryz.prog 32 := int_keyed Tryz.underlying32
def Fits (a : Int) : Prop := -9223372036854775808 ≤ a ∧ a ≤ 9223372036854775807
def Key (k : TypeId) (v : Value) : Prop := ∃ l, keyOf Tryz.prog k v = some l
theorem wf64 {a : Int} (h : Fits a) : (Lit.int .i64 a).wf = true := by
 have h1 : (IntKind.i64).min = -9223372036854775808 := by decide
 have h2 : (IntKind.i64).max = 9223372036854775807 := by decide
 unfold Fits at h
 simp [Lit.wf, h1, h2, h.1, h.2]
theorem lits_int {t : TypeId} (ht : Tryz.prog.underlying t = some (.int .i64)) (d : Nat) {a : Int} (ha : Fits a) : Tryz.prog.keyLits (d + 1) t [.int .i64 a] = some [.int .i64 a] := by
 have := wf64 ha
 simp [Program.keyLits, ht, this]
theorem size_two : ∃ d, Tryz.prog.types.size + 1 = d + 2 := ⟨169 - 1, by
 have hs : Tryz.prog.types.size = 169 := by kernel_rfl
 rw [hs]⟩
theorem keyA {a b c : Int} (ha : Fits a) (hb : Fits b) (hc : Fits c) : Key 89 (.agg #[.int .i64 a, .int .i64 b, .int .i64 c]) := by
 have ht : Tryz.prog.keyType 89 = true := by kernel_rfl
 have c44 : Tryz.prog.cellsOf 89 = 3 := by kernel_rfl
 have c3 : Tryz.prog.cellsOf 3 = 1 := by kernel_rfl
 have c29 : Tryz.prog.cellsOf 32 = 1 := by kernel_rfl
 obtain ⟨d, hd⟩ := size_two
 have hf : (Value.agg #[.int .i64 a, .int .i64 b, .int .i64 c]).formed Tryz.prog 89 = true := by simp only [Value.formed, Tryz.underlying89, c44]; rfl
 unfold Key keyOf
 simp only [Tryz.underlying89, ht, hd, hf, Bool.and_self, if_true, Value.cells]
 unfold Program.keyLits
 simp only [Tryz.underlying89, c44]
 simp [List.mapM_cons, c3, c29, lits_int Tryz.underlying3 _ ha, lits_int Tryz.underlying32 _ hb, lits_int Tryz.underlying32 _ hc]
theorem keyT {a b c : Int} (ha : Fits a) (hb : Fits b) (hc : Fits c) : Key 115 (.agg #[.int .i64 a, .int .i64 b, .int .i64 c]) := by
 have ht : Tryz.prog.keyType 115 = true := by kernel_rfl
 have c62 : Tryz.prog.cellsOf 115 = 3 := by kernel_rfl
 have c29 : Tryz.prog.cellsOf 32 = 1 := by kernel_rfl
 obtain ⟨d, hd⟩ := size_two
 have hr : List.range 3 = [0, 1, 2] := rfl
 have hf : (Value.agg #[.int .i64 a, .int .i64 b, .int .i64 c]).formed Tryz.prog 115 = true := by simp only [Value.formed, Tryz.underlying115, c62]; rfl
 unfold Key keyOf
 simp only [Tryz.underlying115, ht, hd, hf, Bool.and_self, if_true, Value.cells]
 unfold Program.keyLits
 simp only [Tryz.underlying115, c62]
 simp [hr, List.mapM_cons, c29, lits_int Tryz.underlying32 _ ha, lits_int Tryz.underlying32 _ hb, lits_int Tryz.underlying32 _ hc]
theorem keyN {a : Int} (ha : Fits a) : Key 32 (.int .i64 a) := by
 have h1 := wf64 ha
 unfold Key keyOf
 simp [Tryz.underlying32, mapKey, h1]
def MapIs (k : TypeId) (w : World) (m : Nat) (l : List (Value × Value)) : Prop :=
 ∃ es clock, w.heap[m]? = some (.map es clock) ∧ es.toList.map (fun e => (e.key, e.val)) = l ∧ (∀ p ∈ l, Key k p.1) ∧ (∀ x ∈ es.toList, x.born < clock) ∧ (es.toList.map (·.born)).Nodup
theorem MapIs.lt {k : TypeId} {w : World} {m : Nat} {l : List (Value × Value)} (h : MapIs k w m l) : m < w.heap.size := by
 obtain ⟨es, c, h1, _⟩ := h
 exact block_lt h1
theorem MapIs.of {k : TypeId} {w w' : World} {m : Nat} {l : List (Value × Value)} (h : MapIs k w m l) (f : w'.heap[m]? = w.heap[m]?) : MapIs k w' m l := by
 obtain ⟨es, c, h1, h2⟩ := h
 exact ⟨es, c, f.trans h1, h2⟩
theorem MapIs.new (k : TypeId) (w : World) : MapIs k (w.alloc (.map #[] 0)) w.heap.size [] := ⟨#[], 0, (MapKept.heap_alloc w _).1, by simp, by simp, by simp, by simp⟩
theorem MapIs.hit {k t e : TypeId} {w : World} {m : Nat} {l : List (Value × Value)} (h : MapIs k w m l) (K : Keyed Tryz.prog k) (ht : Tryz.prog.underlying t = some (.map k e)) {x v : Value} (hx : Key k x) (hm : (x, v) ∈ l) (hu : ∀ p ∈ l, p.1 = x → p.2 = v) (ok : Bool) :
 (Instr.lookup t (.map (some m)) x ok).run Tryz.prog w = .ok (if ok then .tuple #[v, .bool true] else v) w := by
 obtain ⟨es, c, h1, rfl, h3, _⟩ := h
 obtain ⟨kl, hkey⟩ := hx
 have hk : ∀ e ∈ es.toList, ∃ l, keyOf Tryz.prog k e.key = some l := fun e he => h3 (e.key, e.val) (List.mem_map.2 ⟨e, he, rfl⟩)
 rcases K.find w hkey es.toList hk with ⟨_, q2⟩ | ⟨j, e0, q1, q2, q3⟩
 · obtain ⟨e1, he1, he2⟩ := List.mem_map.1 hm
   exact absurd (congrArg Prod.fst he2) (q2 e1 he1)
 · have := hu (e0.key, e0.val) (List.mem_map.2 ⟨e0, List.mem_of_getElem? q2, rfl⟩) q3
   simp only at this
   subst this
   cases ok <;> simp [Instr.lookup, run_underlying ht, MapKept.run_getObj_map h1, K.check w _ hkey, q1, Result.andThen]
theorem MapIs.miss {k t e : TypeId} {w : World} {m : Nat} {l : List (Value × Value)} (h : MapIs k w m l) (K : Keyed Tryz.prog k) (ht : Tryz.prog.underlying t = some (.map k e)) {z : Value} (hz : (zeroValue e).run Tryz.prog w = .ok z w) {x : Value} (hx : Key k x) (hu : ∀ p ∈ l, p.1 ≠ x) (ok : Bool) :
 (Instr.lookup t (.map (some m)) x ok).run Tryz.prog w = .ok (if ok then .tuple #[z, .bool false] else z) w := by
 obtain ⟨es, c, h1, rfl, h3, _⟩ := h
 obtain ⟨kl, hkey⟩ := hx
 have hk : ∀ e ∈ es.toList, ∃ l, keyOf Tryz.prog k e.key = some l := fun e he => h3 (e.key, e.val) (List.mem_map.2 ⟨e, he, rfl⟩)
 rcases K.find w hkey es.toList hk with ⟨q1, _⟩ | ⟨j, e0, q1, q2, q3⟩
 · cases ok <;> simp [Instr.lookup, run_underlying ht, MapKept.run_getObj_map h1, K.check w _ hkey, q1, hz, Result.andThen]
 · exact absurd q3 (hu (e0.key, e0.val) (List.mem_map.2 ⟨e0, List.mem_of_getElem? q2, rfl⟩))
theorem MapIs.put {k t e : TypeId} {w : World} {m : Nat} {l : List (Value × Value)} (h : MapIs k w m l) (K : Keyed Tryz.prog k) (ht : Tryz.prog.underlying t = some (.map k e)) {x : Value} (hx : Key k x) (hu : ∀ p ∈ l, p.1 ≠ x) (v : Value) :
 ∃ w', (Instr.mapUpdate t (.map (some m)) x v).run Tryz.prog w = .ok () w' ∧ MapIs k w' m (l ++ [(x, v)]) ∧ Fr (· ≠ m) w w' ∧ w'.heap.size = w.heap.size := by
 obtain ⟨es, c, h1, rfl, h3, h4, h5⟩ := h
 obtain ⟨kl, hkey⟩ := hx
 have hk : ∀ e ∈ es.toList, ∃ l, keyOf Tryz.prog k e.key = some l := fun e he => h3 (e.key, e.val) (List.mem_map.2 ⟨e, he, rfl⟩)
 rcases K.find w hkey es.toList hk with ⟨q1, _⟩ | ⟨j, e0, q1, q2, q3⟩
 · refine ⟨ChangeMaps.setBlock w m (.map (es.push ⟨x, v, c⟩) (c + 1)), ?_, ⟨es.push ⟨x, v, c⟩, c + 1, ChangeMaps.heap_setBlock_same h1 _, by simp, ?_, ?_, ?_⟩, ⟨rfl, rfl, rfl, by simp [ChangeMaps.setBlock], fun i _ hi => ChangeMaps.heap_setBlock_other h1 _ hi⟩, by simp [ChangeMaps.setBlock]⟩
   · simp [Instr.mapUpdate, run_underlying ht, MapKept.run_getObj_map h1, K.check w false hkey, q1, MapKept.run_setObj_map _ h1, Result.andThen, ChangeMaps.setBlock]
   · intro p hp
     rcases List.mem_append.1 hp with hp | hp
     · exact h3 p hp
     · obtain rfl : p = (x, v) := by simpa using hp
       exact ⟨kl, hkey⟩
   · intro y hy
     simp only [Array.toList_push, List.mem_append, List.mem_singleton] at hy
     rcases hy with hy | rfl
     · have := h4 y hy; omega
     · exact Nat.lt_succ_self _
   · simp only [Array.toList_push, List.map_append, List.map_cons, List.map_nil]
     refine List.nodup_append.2 ⟨h5, by simp, ?_⟩
     intro a ha b hb
     simp only [List.mem_singleton] at hb
     subst hb
     obtain ⟨y, hy, rfl⟩ := List.mem_map.1 ha
     have := h4 y hy
     omega
 · exact absurd q3 (hu (e0.key, e0.val) (List.mem_map.2 ⟨e0, List.mem_of_getElem? q2, rfl⟩))
theorem MapIs.clear {k : TypeId} {w : World} {m : Nat} {l : List (Value × Value)} (h : MapIs k w m l) (t : TypeId) (d : TypeDesc) (ht : Tryz.prog.underlying t = some d) (ty : TypeId) :
 ∃ w', (Builtin.clear_ #[t] ty #[.map (some m)]).run Tryz.prog w = .ok (.tuple #[]) w' ∧ MapIs k w' m [] ∧ Fr (· ≠ m) w w' ∧ w'.heap.size = w.heap.size := by
 obtain ⟨es, c, h1, rfl, h3, _⟩ := h
 refine ⟨ChangeMaps.setBlock w m (.map #[] c), ?_, ⟨#[], c, ChangeMaps.heap_setBlock_same h1 _, by simp, by simp, by simp, by simp⟩, ⟨rfl, rfl, rfl, by simp [ChangeMaps.setBlock], fun i _ hi => ChangeMaps.heap_setBlock_other h1 _ hi⟩, by simp [ChangeMaps.setBlock]⟩
 simp [Builtin.clear_, run_underlying ht, MapKept.run_getObj_map h1, MapKept.run_setObj_map _ h1, Result.andThen, ChangeMaps.setBlock]
theorem MapIs.len {k : TypeId} {w : World} {m : Nat} {l : List (Value × Value)} (h : MapIs k w m l) {t k' e' : TypeId} (ht : Tryz.prog.underlying t = some (.map k' e')) (ty : TypeId) :
 (Builtin.len_ #[t] ty #[.map (some m)]).run Tryz.prog w = .ok (.int .i64 (l.length : Int)) w := by
 obtain ⟨es, c, h1, rfl, h3, _⟩ := h
 simp [Builtin.len_, run_underlying ht, MapKept.run_getObj_map h1, Result.andThen, goInt]
open Classical in
theorem eraseIdx_filter : ∀ (l : List MapEntry) (j : Nat) (x : Value) (e0 : MapEntry), l[j]? = some e0 → e0.key = x → (l.map (·.key)).Nodup → (l.eraseIdx j).map (fun e => (e.key, e.val)) = (l.map fun e => (e.key, e.val)).filter fun p => decide (p.1 ≠ x)
 | [], j, x, e0, h, _, _ => by simp at h
 | a :: l, 0, x, e0, h, hx, hn => by
   obtain rfl : a = e0 := by simpa using h
   subst hx
   simp only [List.map_cons, List.nodup_cons] at hn
   simp only [List.eraseIdx_zero, List.tail_cons, List.map_cons]
   rw [List.filter_cons_of_neg (by simp)]
   refine (List.filter_eq_self.2 fun p hp => ?_).symm
   obtain ⟨e, he, rfl⟩ := List.mem_map.1 hp
   simp only [decide_eq_true_eq]
   exact fun q => hn.1 (List.mem_map.2 ⟨e, he, q⟩)
 | a :: l, j + 1, x, e0, h, hx, hn => by
   have hj : l[j]? = some e0 := by simpa using h
   simp only [List.map_cons, List.nodup_cons] at hn
   have hne : a.key ≠ x := fun q => hn.1 (List.mem_map.2 ⟨e0, List.mem_of_getElem? hj, hx.trans q.symm⟩)
   simp only [List.eraseIdx_cons_succ, List.map_cons]
   rw [List.filter_cons_of_pos (by simpa using hne), eraseIdx_filter l j x e0 hj hx hn.2]
open Classical in
theorem MapIs.del {k t e : TypeId} {w : World} {m : Nat} {l : List (Value × Value)} (h : MapIs k w m l) (K : Keyed Tryz.prog k) (ht : Tryz.prog.underlying t = some (.map k e)) {x : Value} (hx : Key k x) (hn : (l.map Prod.fst).Nodup) (ty : TypeId) :
 ∃ w', (Builtin.delete_ #[t, k] ty #[.map (some m), x]).run Tryz.prog w = .ok (.tuple #[]) w' ∧ MapIs k w' m (l.filter fun p => decide (p.1 ≠ x)) ∧ Fr (· ≠ m) w w' ∧ w'.heap.size = w.heap.size := by
 obtain ⟨es, c, h1, rfl, h3, h4, h5⟩ := h
 obtain ⟨kl, hkey⟩ := hx
 have hk : ∀ e ∈ es.toList, ∃ l, keyOf Tryz.prog k e.key = some l := fun e he => h3 (e.key, e.val) (List.mem_map.2 ⟨e, he, rfl⟩)
 rcases K.find w hkey es.toList hk with ⟨q1, q2⟩ | ⟨j, e0, q1, q2, q3⟩
 · refine ⟨ChangeMaps.setBlock w m (.map es c), ?_, ⟨es, c, ChangeMaps.heap_setBlock_same h1 _, ?_, ?_, h4, h5⟩, ⟨rfl, rfl, rfl, by simp [ChangeMaps.setBlock], fun i _ hi => ChangeMaps.heap_setBlock_other h1 _ hi⟩, by simp [ChangeMaps.setBlock]⟩
   · simp [Builtin.delete_, run_underlying ht, MapKept.run_getObj_map h1, K.check w _ hkey, q1, MapKept.run_setObj_map _ h1, Result.andThen, ChangeMaps.setBlock]
   · refine (List.filter_eq_self.2 fun p hp => ?_).symm
     obtain ⟨e, he, rfl⟩ := List.mem_map.1 hp
     simpa using q2 e he
   · exact fun p hp => h3 p (List.mem_filter.1 hp).1
 · have hjl : j < es.toList.length := (List.getElem?_eq_some_iff.1 q2).1
   have hjs : j < es.size := by simpa using hjl
   have hsub : (es.eraseIdxIfInBounds j).toList = es.toList.eraseIdx j := by
    unfold Array.eraseIdxIfInBounds
    rw [dif_pos hjs]
    simp
   have hn2 : (es.toList.map (·.key)).Nodup := by simpa [List.map_map, Function.comp_def] using hn
   refine ⟨ChangeMaps.setBlock w m (.map (es.eraseIdxIfInBounds j) c), ?_, ⟨es.eraseIdxIfInBounds j, c, ChangeMaps.heap_setBlock_same h1 _, ?_, ?_, ?_, ?_⟩, ⟨rfl, rfl, rfl, by simp [ChangeMaps.setBlock], fun i _ hi => ChangeMaps.heap_setBlock_other h1 _ hi⟩, by simp [ChangeMaps.setBlock]⟩
   · simp [Builtin.delete_, run_underlying ht, MapKept.run_getObj_map h1, K.check w _ hkey, q1, MapKept.run_setObj_map _ h1, Result.andThen, ChangeMaps.setBlock]
   · rw [hsub, eraseIdx_filter es.toList j x e0 q2 q3 hn2]
   · exact fun p hp => h3 p (List.mem_filter.1 hp).1
   · rw [hsub]
     exact fun x hx => h4 x (List.mem_of_mem_eraseIdx hx)
   · rw [hsub]
     exact (List.Sublist.map _ (List.eraseIdx_sublist _ _)).nodup h5
end Go.Proofs.YtaakjjefnjbabaaGreat.Sx
namespace Go.Proofs.YtaakjjefnjbabaaGreat.Sx
open Go.RowKit Go.Sort Go.Maps Go.WideMaps
structure Rw where
 about : Int
 low : Nat
 high : Nat
 users : Nat
 given : Bool
def rwV (r : Rw) : List Value := [.int .i64 r.about, .int .i64 (r.low : Int), .int .i64 (r.high : Int), .int .i64 (r.users : Int), .bool r.given]
def flatR (R : List Rw) : List Value := R.flatMap rwV
theorem flatR_len (R : List Rw) : (flatR R).length = R.length * 5 := by
 induction R with
 | nil => rfl
 | cons r R ih => simp [flatR, rwV] at ih ⊢; omega
theorem flatR_at : ∀ (R : List Rw) (i j : Nat) (r : Rw), R[i]? = some r → j < 5 → (flatR R)[i * 5 + j]? = (rwV r)[j]?
 | [], i, j, r, h, _ => by simp at h
 | x :: R, 0, j, r, h, hj => by
   obtain rfl : x = r := by simpa using h
   simp only [flatR, List.flatMap_cons]
   rw [List.getElem?_append_left (by simp [rwV]; omega)]
   simp
 | x :: R, i + 1, j, r, h, hj => by
   have := flatR_at R i j r (by simpa using h) hj
   simp only [flatR, List.flatMap_cons]
   rw [List.getElem?_append_right (by simp [rwV]; omega)]
   have e : (i + 1) * 5 + j - (rwV x).length = i * 5 + j := by simp [rwV]; omega
   rw [e]
   exact this
theorem flatR_set : ∀ (R : List Rw) (i j : Nat) (r r' : Rw) (v : Value), R[i]? = some r → j < 5 → rwV r' = (rwV r).set j v → flatR (R.set i r') = (flatR R).set (i * 5 + j) v
 | [], i, j, r, r', v, h, _, _ => by simp at h
 | x :: R, 0, j, r, r', v, h, hj, hv => by
   obtain rfl : x = r := by simpa using h
   simp only [flatR, List.set_cons_zero, List.flatMap_cons, hv]
   rw [List.set_append_left _ _ (by simp [rwV]; omega)]
   simp
 | x :: R, i + 1, j, r, r', v, h, hj, hv => by
   have := flatR_set R i j r r' v (by simpa using h) hj hv
   simp only [flatR, List.set_cons_succ, List.flatMap_cons] at this ⊢
   rw [List.set_append_right _ _ (by simp [rwV]; omega), this]
   have e : (i + 1) * 5 + j - (rwV x).length = i * 5 + j := by simp [rwV]; omega
   rw [e]
structure Tb where
 ord : List Nat
 lev : List Nat
 rows : List Rw
 free : List Nat
 made : List ((Int × Nat × Nat) × Nat)
 found : List ((Nat × Nat × Nat) × Nat)
 fresh : List Nat
structure Ly where
 val : Nat → Value
 mb : Nat
 fb : Nat
 own : Nat → Nat
def i64C (l : List Nat) : List Value := l.map fun x : Nat => Value.int .i64 (x : Int)
def askV (k : Int × Nat × Nat) : Value := .agg #[.int .i64 k.1, .int .i64 (k.2.1 : Int), .int .i64 (k.2.2 : Int)]
def triV (k : Nat × Nat × Nat) : Value := .agg #[.int .i64 (k.1 : Int), .int .i64 (k.2.1 : Int), .int .i64 (k.2.2 : Int)]
def madeL (l : List ((Int × Nat × Nat) × Nat)) : List (Value × Value) := l.map fun p => (askV p.1, .int .i64 (p.2 : Int))
def foundL (l : List ((Nat × Nat × Nat) × Nat)) : List (Value × Value) := l.map fun p => (triV p.1, .int .i64 (p.2 : Int))
def tbC (L : Ly) : Array Value := #[L.val 2, L.val 3, L.val 4, L.val 5, .map (some L.mb), .map (some L.fb), L.val 6]
def ety (t : Nat) : TypeId := if t = 4 then 91 else if t ≤ 3 then 3 else 32
def esz (t : Nat) : Nat := if t = 4 then 5 else 1
def fld (t : Nat) : Nat := if t = 6 then 6 else t - 2
def Tb.len (T : Tb) (t : Nat) : Nat := if t = 2 then T.ord.length else if t = 3 then T.lev.length else if t = 4 then T.rows.length else if t = 5 then T.free.length else if t = 6 then T.fresh.length else 0
def Tb.cells (T : Tb) (t : Nat) : List Value := if t = 2 then i64C T.ord else if t = 3 then i64C T.lev else if t = 4 then flatR T.rows else if t = 5 then i64C T.free else if t = 6 then i64C T.fresh else []
def Ly.put (L : Ly) (t : Nat) (v : Value) : Ly := { L with val := fun s => if s = t then v else L.val s }
def OwnR (w : World) (own : Nat → Nat) (t : Nat) (e k : Nat) (v : Value) (n : Nat) (xs : List Value) : Prop := w.ownsRow 0 e k v n xs ∧ ∀ g, v.ownBlock = some g → own g = t
structure TAtK (K : Nat → Prop) (w : World) (tb : Nat) (L : Ly) (T : Tb) : Prop where
 st : K 1 → w.heap[tb]? = some (.cells (tbC L) 80 (0, 0)) ∧ L.own tb = 1
 sl : ∀ t, 2 ≤ t → t ≤ 6 → K t → OwnR w L.own t (ety t) (esz t) (L.val t) (T.len t) (T.cells t)
 md : K 7 → MapIs 89 w L.mb (madeL T.made) ∧ L.own L.mb = 7 ∧ (T.made.map Prod.fst).Nodup
 fd : K 8 → MapIs 115 w L.fb (foundL T.found) ∧ L.own L.fb = 8 ∧ (T.found.map Prod.fst).Nodup
structure TAt (w : World) (tb : Nat) (L : Ly) (T : Tb) : Prop where
 k : TAtK (fun _ => True) w tb L T
 hi : ∀ b, w.heap.size ≤ b → L.own b = 0
section
variable {w w' w1 : World} {tb : Nat} {L : Ly} {T : Tb} {K : Nat → Prop} {ow ow' : Nat → Nat} {t e k n : Nat} {v : Value} {xs : List Value}
theorem OwnR.fr (h : OwnR w ow t e k v n xs) (f : ∀ b, b < w.heap.size → ow b = t → w'.heap[b]? = w.heap[b]?) : OwnR w' ow t e k v n xs := by
 refine ⟨⟨h.1.1, ?_⟩, h.2⟩
 rcases h.1.2 with q | ⟨g, cap, cur, e1, hb, hg, q⟩
 · exact .inl q
 · exact .inr ⟨g, cap, cur, e1, hb, (f g (block_lt hg) (h.2 g (by rw [e1]; rfl))).trans hg, q⟩
theorem OwnR.own (h : OwnR w ow t e k v n xs) (f : ∀ b, b < w.heap.size → ow' b = ow b) : OwnR w ow' t e k v n xs := by
 refine ⟨h.1, fun g hg => ?_⟩
 rcases h.1.2 with ⟨e1, _⟩ | ⟨g', cap, cur, e1, hb, hg', q⟩
 · rw [e1] at hg; cases hg
 · have : g' = g := by rw [e1] at hg; exact Option.some.inj hg
   subst this
   rw [f _ (block_lt hg')]
   exact h.2 _ hg
theorem OwnR.lt (h : OwnR w ow t e k v n xs) {g : Nat} (hg : v.ownBlock = some g) : g < w.heap.size := by
 rcases h.1.2 with ⟨e1, _⟩ | ⟨g', cap, cur, e1, hb, hg', q⟩
 · rw [e1] at hg; cases hg
 · have : g' = g := by rw [e1] at hg; exact Option.some.inj hg
   subst this
   exact block_lt hg'
theorem OwnR.form (h : OwnR w ow t e k v n xs) : ∃ a cap, v = .slice a n cap := by
 rcases h.1.2 with ⟨e, hn⟩ | ⟨g', cap', cur, e, _⟩
 · exact ⟨none, 0, by rw [e, hn]⟩
 · exact ⟨_, _, e⟩
theorem OwnR.kept (h : OwnR w ow t e k v n xs) (hg : w.grownBy w1 v.ownBlock) {b : Nat} (hb : b < w.heap.size) (ht : ow b ≠ t) : w1.heap[b]? = w.heap[b]? := hg.block b hb fun q => ht (h.2 b q.symm)
theorem TAtK.fr (h : TAtK K w tb L T) (f : ∀ b, b < w.heap.size → K (L.own b) → w'.heap[b]? = w.heap[b]?) : TAtK K w' tb L T := by
 have g : ∀ t, K t → ∀ b, b < w.heap.size → L.own b = t → w'.heap[b]? = w.heap[b]? := fun t ht b hb e => f b hb (by rw [e]; exact ht)
 exact ⟨fun k => ⟨(g _ k _ (block_lt (h.st k).1) (h.st k).2).trans (h.st k).1, (h.st k).2⟩, fun t h1 h2 k => (h.sl t h1 h2 k).fr (g _ k),
  fun k => ⟨(h.md k).1.of (g _ k _ (h.md k).1.lt (h.md k).2.1), (h.md k).2⟩, fun k => ⟨(h.fd k).1.of (g _ k _ (h.fd k).1.lt (h.fd k).2.1), (h.fd k).2⟩⟩
theorem TAtK.mono {K' : Nat → Prop} (h : TAtK K w tb L T) (f : ∀ t, K' t → K t) : TAtK K' w tb L T :=
 ⟨fun k => h.st (f _ k), fun t h1 h2 k => h.sl t h1 h2 (f _ k), fun k => h.md (f _ k), fun k => h.fd (f _ k)⟩
theorem TAtK.own (h : TAtK K w tb L T) (own' : Nat → Nat) (f : ∀ b, b < w.heap.size → own' b = L.own b) : TAtK K w tb { L with own := own' } T :=
 ⟨fun k => ⟨(h.st k).1, (f _ (block_lt (h.st k).1)).trans (h.st k).2⟩, fun t h1 h2 k => (h.sl t h1 h2 k).own f,
   fun k => ⟨(h.md k).1, (f _ (h.md k).1.lt).trans (h.md k).2.1, (h.md k).2.2⟩, fun k => ⟨(h.fd k).1, (f _ (h.fd k).1.lt).trans (h.fd k).2.1, (h.fd k).2.2⟩⟩
end
structure FrT (L L' : Ly) (w w' : World) : Prop where
 os : w'.os = w.os
 tape : w'.tape = w.tape
 output : w'.output = w.output
 size : w.heap.size ≤ w'.heap.size
 block : ∀ b, b < w.heap.size → L.own b = 0 → w'.heap[b]? = w.heap[b]?
 own : ∀ b, b < w.heap.size → L'.own b = L.own b
theorem FrT.refl (L : Ly) (w : World) : FrT L L w w := ⟨rfl, rfl, rfl, Nat.le_refl _, fun _ _ _ => rfl, fun _ _ => rfl⟩
theorem FrT.trans {L L' L'' : Ly} {a b c : World} (h : FrT L L' a b) (k : FrT L' L'' b c) : FrT L L'' a c :=
 ⟨k.os.trans h.os, k.tape.trans h.tape, k.output.trans h.output, Nat.le_trans h.size k.size, fun i hi ho => (k.block i (Nat.lt_of_lt_of_le hi h.size) ((h.own i hi).trans ho)).trans (h.block i hi ho), fun i hi => (k.own i (Nat.lt_of_lt_of_le hi h.size)).trans (h.own i hi)⟩
theorem FrT.of {L : Ly} {w w' : World} {P : Nat → Prop} (h : Fr P w w') (hp : ∀ b, b < w.heap.size → L.own b = 0 → P b) : FrT L L w w' :=
 ⟨h.os, h.tape, h.output, h.size, fun b hb h0 => h.block b hb (hp b hb h0), fun _ _ => rfl⟩
theorem FrT.fr {L L' : Ly} {w w' : World} (h : FrT L L' w w') : Fr (fun b => L.own b = 0) w w' := ⟨h.os, h.tape, h.output, h.size, h.block⟩
def ownT (own : Nat → Nat) (k : Nat) (t : Nat) (b : Nat) : Nat := if b = k then t else own b
theorem ownT_new {own : Nat → Nat} {k t : Nat} : ownT own k t k = t := by unfold ownT; rw [if_pos rfl]
section
variable {w w' w1 W : World} {tb : Nat} {L : Ly} {T T' : Tb} {t e k n : Nat} {v v' : Value} {xs : List Value}
theorem TAt.st (h : TAt w tb L T) : True → w.heap[tb]? = some (.cells (tbC L) 80 (0, 0)) ∧ L.own tb = 1 := h.k.st
theorem TAt.sl (h : TAt w tb L T) : ∀ t, 2 ≤ t → t ≤ 6 → True → OwnR w L.own t (ety t) (esz t) (L.val t) (T.len t) (T.cells t) := h.k.sl
theorem TAt.md (h : TAt w tb L T) : True → MapIs 89 w L.mb (madeL T.made) ∧ L.own L.mb = 7 ∧ (T.made.map Prod.fst).Nodup := h.k.md
theorem TAt.fd (h : TAt w tb L T) : True → MapIs 115 w L.fb (foundL T.found) ∧ L.own L.fb = 8 ∧ (T.found.map Prod.fst).Nodup := h.k.fd
theorem TAt.mono {K : Nat → Prop} (h : TAt w tb L T) : TAtK K w tb L T := h.k.mono fun _ _ => trivial
theorem TAt.cell (h : TAt w tb L T) (i : Nat) : w.cell? ⟨tb, i, none⟩ = (tbC L)[i]? := block_cell (h.st trivial).1 i
theorem TAt.frz (h : TAt w tb L T) (i : Nat) : w.frozen? ⟨tb, i, none⟩ = false := frozen_block (h.st trivial).1 i
theorem TAt.fr (h : TAt w tb L T) {P : Nat → Prop} (f : Fr P w w') (hp : ∀ b, b < w.heap.size → L.own b ≠ 0 → P b) : TAt w' tb L T := ⟨
 ⟨fun k => ⟨(f.block _ (block_lt (h.st k).1) (hp _ (block_lt (h.st k).1) (by rw [(h.st k).2]; decide))).trans (h.st k).1, (h.st k).2⟩,
  fun t h1 h2 k => (h.sl t h1 h2 k).fr fun b hb e => f.block b hb (hp b hb (by rw [e]; omega)),
  fun k => ⟨(h.md k).1.of (f.block _ (h.md k).1.lt (hp _ (h.md k).1.lt (by rw [(h.md k).2.1]; decide))), (h.md k).2⟩,
  fun k => ⟨(h.fd k).1.of (f.block _ (h.fd k).1.lt (hp _ (h.fd k).1.lt (by rw [(h.fd k).2.1]; decide))), (h.fd k).2⟩⟩, fun b hb => h.hi b (Nat.le_trans f.size hb)⟩
theorem TAt.grew (h : TAt w tb L T) (f : Fr (fun _ => True) w w') : TAt w' tb L T := h.fr f fun _ _ _ => trivial
theorem TAt.drew (h : TAt w tb L T) : TAt w.drew tb L T := h.grew (Fr.refl _ w).drew
theorem TAt.alloc (h : TAt w tb L T) (o : Obj) : TAt (w.alloc o) tb L T := h.grew ((Fr.refl _ w).alloc o)
structure Same (t : Nat) (T T' : Tb) : Prop where
 sl : ∀ s, s ≠ t → T'.len s = T.len s ∧ T'.cells s = T.cells s
 md : t ≠ 7 → T'.made = T.made
 fd : t ≠ 8 → T'.found = T.found
theorem TAtK.join (h : TAtK (· ≠ t) w tb L T) (hs : Same t T T') (h1 : t ≠ 1) (hp : TAtK (· = t) w tb L T') : TAtK (fun _ => True) w tb L T' :=
 ⟨fun _ => h.st (Ne.symm h1), fun s a b _ => by
   by_cases q : s = t
   · exact hp.sl s a b q
   · have := h.sl s a b q
     rw [(hs.sl s q).1, (hs.sl s q).2]; exact this,
   fun _ => by
    by_cases q : t = 7
    · exact hp.md q.symm
    · rw [hs.md q]; exact h.md (Ne.symm q),
   fun _ => by
    by_cases q : t = 8
    · exact hp.fd q.symm
    · rw [hs.fd q]; exact h.fd (Ne.symm q)⟩
theorem tbC_put (h1 : 2 ≤ t) (h2 : t ≤ 6) (v : Value) : (tbC L).set! (fld t) v = tbC (L.put t v) := by
 have : t = 2 ∨ t = 3 ∨ t = 4 ∨ t = 5 ∨ t = 6 := by omega
 rcases this with rfl | rfl | rfl | rfl | rfl <;> rfl
theorem tbC_at (h1 : 2 ≤ t) (h2 : t ≤ 6) : (tbC L)[fld t]? = some (L.val t) := by
 have : t = 2 ∨ t = 3 ∨ t = 4 ∨ t = 5 ∨ t = 6 := by omega
 rcases this with rfl | rfl | rfl | rfl | rfl <;> rfl
theorem TAtK.field (h : TAtK (· ≠ t) w tb L T) (h1 : 2 ≤ t) (h2 : t ≤ 6) (hs : Same t T T') (hp : OwnR w L.own t (ety t) (esz t) v (T'.len t) (T'.cells t)) :
 w.frozen? ⟨tb, fld t, none⟩ = false ∧ w.cell? ⟨tb, fld t, none⟩ = some (L.val t) ∧ TAtK (fun _ => True) (w.setCell ⟨tb, fld t, none⟩ v) tb (L.put t v) T' := by
 obtain ⟨hb, ho⟩ := h.st (by omega)
 refine ⟨frozen_block hb _, (block_cell hb _).trans (tbC_at h1 h2), ?_⟩
 have hne : ∀ b, L.own b ≠ 1 → (w.setCell ⟨tb, fld t, none⟩ v).heap[b]? = w.heap[b]? := fun b q => Below.heap_setCell w ⟨tb, fld t, none⟩ v b (fun e => q (by rw [e]; exact ho))
 have hset := set_block hb (fld t) v
 rw [tbC_put h1 h2] at hset
 refine ⟨fun _ => ⟨hset, ho⟩, fun s a b _ => ?_, fun _ => ?_, fun _ => ?_⟩
 · by_cases q : s = t
   · subst q
     have : (L.put s v).val s = v := by simp [Ly.put]
     rw [this]
     exact hp.fr fun b _ e => hne b (by rw [e]; omega)
   · have : (L.put t v).val s = L.val s := by simp [Ly.put, q]
     rw [this, (hs.sl s q).1, (hs.sl s q).2]
     exact (h.sl s a b q).fr fun b _ e => hne b (by rw [e]; omega)
 · rw [hs.md (by omega)]
   have := h.md (by omega)
   exact ⟨this.1.of (hne _ (by rw [this.2.1]; decide)), this.2⟩
 · rw [hs.fd (by omega)]
   have := h.fd (by omega)
   exact ⟨this.1.of (hne _ (by rw [this.2.1]; decide)), this.2⟩
theorem ownT_at {own : Nat → Nat} {g t m b : Nat} (hg : own g = t ∨ m ≤ g) (hb : b < m) : ownT own g t b = own b := by
 unfold ownT
 split
 · rename_i e
   subst e
   rcases hg with q | q
   · exact q.symm
   · omega
 · rfl
theorem TAt.grown (h : TAt w tb L T) (hr : OwnR w L.own t e k v n xs) (hg : w.grownBy w1 v.ownBlock) {g : Nat} (hat : L.own g = t ∨ w.heap.size ≤ g) : TAtK (· ≠ t) w1 tb { L with own := ownT L.own g t } T := by
 have h1 : TAtK (· ≠ t) w tb { L with own := ownT L.own g t } T := (h.mono (K := (· ≠ t))).own _ fun b hb => ownT_at hat hb
 refine h1.fr fun b hb ht => hr.kept hg hb ?_
 have : ownT L.own g t b = L.own b := ownT_at hat hb
 exact fun q => ht (this.trans q)
theorem TAt.app (h : TAt W tb L T) (hw : Fr (fun _ => True) w W) (h1 : 2 ≤ t) (h2 : t ≤ 6) (hs : Same t T T') {g cap : Nat} (hv : v' = .slice (some ⟨g, 0, none⟩) (T'.len t) cap) (ho : w1.ownsRow 0 (ety t) (esz t) v' (T'.len t) (T'.cells t)) (hg : W.grownBy w1 (L.val t).ownBlock) (hat : (L.val t).ownBlock = some g ∨ W.heap.size ≤ g) :
 w1.frozen? ⟨tb, fld t, none⟩ = false ∧ w1.cell? ⟨tb, fld t, none⟩ = some (L.val t) ∧ TAt (w1.setCell ⟨tb, fld t, none⟩ v') tb ({ L with own := ownT L.own g t } |>.put t v') T' ∧ FrT L ({ L with own := ownT L.own g t } |>.put t v') w (w1.setCell ⟨tb, fld t, none⟩ v') := by
 have hr := h.sl t h1 h2 trivial
 have hat2 : L.own g = t ∨ W.heap.size ≤ g := by
  rcases hat with q | q
  · exact .inl (hr.2 g q)
  · exact .inr q
 have hk := h.grown hr hg hat2
 have hb : v'.ownBlock = some g := by rw [hv]; rfl
 have hgl : g < w1.heap.size := by
  rcases ho.2 with ⟨e, _⟩ | ⟨g', cap', cur, e, _, q, _⟩
  · rw [hv] at e; cases e
  · rw [hv] at e; cases e; exact block_lt q
 have hro : OwnR w1 (ownT L.own g t) t (ety t) (esz t) v' (T'.len t) (T'.cells t) := ⟨ho, fun b q => by rw [hb] at q; cases q; exact ownT_new⟩
 obtain ⟨a1, a2, a3⟩ := hk.field h1 h2 hs hro
 refine ⟨a1, a2, ⟨a3, fun b hb2 => ?_⟩, ?_⟩
 · have hb3 : w1.heap.size ≤ b := by simpa using hb2
   show ownT L.own g t b = 0
   unfold ownT
   rw [if_neg (by omega)]
   exact h.hi b (by have := hg.size; omega)
 refine ⟨hg.os.trans hw.os, hg.tape.trans hw.tape, hg.output.trans hw.output, by have := hg.size; have := hw.size; simp; omega, fun b hb0 h0 => ?_, fun b hb0 => ?_⟩
 · have hb2 : b < W.heap.size := Nat.lt_of_lt_of_le hb0 hw.size
   rw [Below.heap_setCell w1 ⟨tb, fld t, none⟩ _ b (fun e => by rw [show b = tb from e, (h.st trivial).2] at h0; cases h0), hr.kept hg hb2 (by rw [h0]; omega), hw.block b hb0 trivial]
 · exact ownT_at hat2 (Nat.lt_of_lt_of_le hb0 hw.size)
theorem TAt.store (h : TAt w tb L T) (h1 : 2 ≤ t) (h2 : t ≤ 6) (hs : Same t T T') (hp : OwnR w L.own t (ety t) (esz t) v (T'.len t) (T'.cells t)) :
 w.frozen? ⟨tb, fld t, none⟩ = false ∧ TAt (w.setCell ⟨tb, fld t, none⟩ v) tb (L.put t v) T' ∧ FrT L (L.put t v) w (w.setCell ⟨tb, fld t, none⟩ v) := by
 obtain ⟨a1, _, a3⟩ := (h.mono (K := (· ≠ t))).field h1 h2 hs hp
 refine ⟨a1, ⟨a3, fun b hb => h.hi b (by simpa using hb)⟩, rfl, rfl, rfl, by simp, fun b hb h0 => ?_, fun _ _ => rfl⟩
 exact Below.heap_setCell w ⟨tb, fld t, none⟩ v b (fun e => by rw [show b = tb from e, (h.st trivial).2] at h0; cases h0)
end
end Go.Proofs.YtaakjjefnjbabaaGreat.Sx
