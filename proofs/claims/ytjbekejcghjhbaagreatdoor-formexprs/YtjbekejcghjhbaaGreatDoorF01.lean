/- Values in memory: what a tree is there, and that what is made later leaves it as it is. -/
import Derived.Test.YtjbekejcghjhbaaGreatDoorProg
import Derived.Test.YtjbekejcghjhbaaGreatDoorF00
import Derived.WalkKit
import Derived.WalkSpells
import Derived.WalkLawsBesides
import Derived.Sort.Grow
import Derived.Deep.Draws
import Derived.Shelf.SlSortCmp.QuietGrown
import Derived.LaidEqlPtr
namespace Go.Proofs.YtjbekejcghjhbaaGreatDoor.Sx
open Go.RowKit Go.Sort

/-- the world has only grown, and drawn -/
def Grew (w w' : World) : Prop := ∃ q os, w' = grow (w.drewN q) os

theorem Grew.refl (w : World) : Grew w w := ⟨0, #[], by simp [World.drewN]⟩
theorem Grew.trans {a b c : World} (h : Grew a b) (k : Grew b c) : Grew a c := by
  obtain ⟨q, os, rfl⟩ := h
  obtain ⟨q', os', rfl⟩ := k
  refine ⟨q + q', os ++ os', ?_⟩
  show grow (grow ((a.drewN q).drewN q') os) os' = _
  rw [grow_grow]
  show grow (World.drewN (World.drewN a q) q') _ = _
  simp only [World.drewN, Nat.add_assoc]
theorem Grew.alloc {a b : World} (h : Grew a b) (o : Obj) : Grew a (b.alloc o) := h.trans ⟨0, #[o], by rw [alloc_eq_grow]; simp [World.drewN]⟩
theorem Grew.drew {a b : World} (h : Grew a b) : Grew a b.drew := h.trans ⟨1, #[], by simp; rfl⟩
theorem Grew.drewN {a b : World} (h : Grew a b) (n : Nat) : Grew a (b.drewN n) := h.trans ⟨n, #[], by simp⟩
theorem Grew.grown {a b : World} (h : Grew a b) (n : Nat) (os : Array Obj) : Grew a (grow (b.drewN n) os) := h.trans ⟨n, os, rfl⟩
theorem Grew.below {w w' : World} (h : Grew w w') : Below w.heap.size w w' := by
  obtain ⟨q, os, rfl⟩ := h
  refine ⟨rfl, rfl, rfl, by simp [World.drewN], fun k hk => ?_⟩
  exact heap_grow_old (w.drewN q) os hk

theorem block_lt {w : World} {b : Nat} {o : Obj} (h : w.heap[b]? = some o) : b < w.heap.size := (Array.getElem?_eq_some_iff.1 h).1
theorem block_cell {w : World} {b : Nat} {vs : Array Value} {t : TypeId} {f : Nat × Nat} (h : w.heap[b]? = some (.cells vs t f)) (i : Nat) : w.cell? ⟨b, i, none⟩ = vs[i]? := by
  simp [World.cell?, h]
theorem cells2 {w : World} {b : Nat} {vs : Array Value} {t : TypeId} {f : Nat × Nat} (h : w.heap[b]? = some (.cells vs t f)) : w.cell? ⟨b, 0, none⟩ = vs[0]? ∧ w.cell? ⟨b, 1, none⟩ = vs[1]? := ⟨block_cell h 0, block_cell h 1⟩
theorem cells3 {w : World} {b : Nat} {vs : Array Value} {t : TypeId} {f : Nat × Nat} (h : w.heap[b]? = some (.cells vs t f)) : w.cell? ⟨b, 0, none⟩ = vs[0]? ∧ w.cell? ⟨b, 1, none⟩ = vs[1]? ∧ w.cell? ⟨b, 2, none⟩ = vs[2]? := ⟨block_cell h 0, block_cell h 1, block_cell h 2⟩
theorem cells4 {w : World} {b : Nat} {vs : Array Value} {t : TypeId} {f : Nat × Nat} (h : w.heap[b]? = some (.cells vs t f)) : w.cell? ⟨b, 0, none⟩ = vs[0]? ∧ w.cell? ⟨b, 1, none⟩ = vs[1]? ∧ w.cell? ⟨b, 2, none⟩ = vs[2]? ∧ w.cell? ⟨b, 3, none⟩ = vs[3]? := ⟨block_cell h 0, block_cell h 1, block_cell h 2, block_cell h 3⟩
theorem cells5 {w : World} {b : Nat} {vs : Array Value} {t : TypeId} {f : Nat × Nat} (h : w.heap[b]? = some (.cells vs t f)) : w.cell? ⟨b, 0, none⟩ = vs[0]? ∧ w.cell? ⟨b, 1, none⟩ = vs[1]? ∧ w.cell? ⟨b, 2, none⟩ = vs[2]? ∧ w.cell? ⟨b, 3, none⟩ = vs[3]? ∧ w.cell? ⟨b, 4, none⟩ = vs[4]? := ⟨block_cell h 0, block_cell h 1, block_cell h 2, block_cell h 3, block_cell h 4⟩
theorem Below.blockAt {w w' : World} (hb : Below w.heap.size w w') {b : Nat} {o : Obj} (h : w.heap[b]? = some o) : w'.heap[b]? = some o := (hb.block b (block_lt h)).trans h

section
variable {α : Type} (w : World) (R : α → Value → Prop) (num : α → Option Int) (wta : α → Nat)

/-- a row of values -/
def RowOf (a : Option Addr) (len : Nat) (es : List α) : Prop :=
  len = es.length ∧ len ≤ 4294967296 ∧ (len = 0 ∨ ∃ b off, a = some ⟨b, off, none⟩ ∧ b < w.heap.size ∧ ∀ i x, es[i]? = some x → ∃ v, w.cell? ⟨b, off + i, none⟩ = some v ∧ R x v)

def SetAt (b : Nat) (es : List α) : Prop :=
  ∃ a len cap, w.heap[b]? = some (.cells #[.slice a len cap, .int .i64 ((1 + wtL wta es : Nat) : Int)] 124 (0, 0)) ∧ RowOf w R a len es

def FnAt (b d : Nat) (ks us : List α) : Prop :=
  SetAt w R wta d ks ∧ ks.length = us.length ∧ ∃ a len cap, w.heap[b]? = some (.cells #[.pointer (some ⟨d, 0, none⟩), .slice a len cap, .int .i64 ((1 + wtL wta ks + wtL wta us : Nat) : Int), .bool (counts num ks)] 130 (0, 0)) ∧ RowOf w R a len us

def RepN (a : Node α) (v : Value) : Prop :=
  (a = mkNil ∧ v = .nilIface) ∨ (∃ b, a = mkBool b ∧ v = .iface 4 (.bool b)) ∨ (∃ i, a = mkInt i ∧ v = .iface 2 (.int .i64 i)) ∨
  (∃ s : ByteArray, a = mkText s.data.toList ∧ v = .iface 119 (.string s)) ∨ (∃ s : ByteArray, a = mkAtom s.data.toList ∧ v = .iface 120 (.string s)) ∨
  (∃ es b, a = mkSet es ∧ v = .iface 121 (.pointer (some ⟨b, 0, none⟩)) ∧ SetAt w R wta b es) ∨
  (∃ ks us b d, a = mkFn ks us ∧ v = .iface 125 (.pointer (some ⟨b, 0, none⟩)) ∧ FnAt w R num wta b d ks us)
end

def Rep (w : World) : (n : Nat) → AV n → Value → Prop
  | 0, _, _ => False
  | n + 1, a, v => RepN w (Rep w n) (numOf n) (wt n) a v

section
variable {α : Type} {w w' : World} {R R' : α → Value → Prop} {num : α → Option Int} {wta : α → Nat}

theorem RowOf.below (hb : Below w.heap.size w w') (hR : ∀ x v, R x v → R' x v) {a : Option Addr} {len : Nat} {es : List α} (h : RowOf w R a len es) : RowOf w' R' a len es := by
  refine ⟨h.1, h.2.1, ?_⟩
  rcases h.2.2 with h0 | ⟨b, off, rfl, hlt, hc⟩
  · exact .inl h0
  · refine .inr ⟨b, off, rfl, Nat.lt_of_lt_of_le hlt hb.size, fun i x hx => ?_⟩
    obtain ⟨v, h1, h2⟩ := hc i x hx
    exact ⟨v, (hb.cell (p := ⟨b, off + i, none⟩) hlt).trans h1, hR x v h2⟩
theorem SetAt.below (hb : Below w.heap.size w w') (hR : ∀ x v, R x v → R' x v) {b : Nat} {es : List α} (h : SetAt w R wta b es) : SetAt w' R' wta b es := by
  obtain ⟨a, len, cap, h0, hr⟩ := h
  exact ⟨a, len, cap, Below.blockAt hb h0, hr.below hb hR⟩
theorem FnAt.below (hb : Below w.heap.size w w') (hR : ∀ x v, R x v → R' x v) {b d : Nat} {ks us : List α} (h : FnAt w R num wta b d ks us) : FnAt w' R' num wta b d ks us := by
  obtain ⟨hs, hl, a, len, cap, h0, hr⟩ := h
  exact ⟨hs.below hb hR, hl, a, len, cap, Below.blockAt hb h0, hr.below hb hR⟩
theorem RepN.below (hb : Below w.heap.size w w') (hR : ∀ x v, R x v → R' x v) {a : Node α} {v : Value} (h : RepN w R num wta a v) : RepN w' R' num wta a v := by
  rcases h with h | h | h | h | h | ⟨es, b, h1, h2, h3⟩ | ⟨ks, us, b, d, h1, h2, h3⟩
  · exact .inl h
  · exact .inr (.inl h)
  · exact .inr (.inr (.inl h))
  · exact .inr (.inr (.inr (.inl h)))
  · exact .inr (.inr (.inr (.inr (.inl h))))
  · exact .inr (.inr (.inr (.inr (.inr (.inl ⟨es, b, h1, h2, h3.below hb hR⟩)))))
  · exact .inr (.inr (.inr (.inr (.inr (.inr ⟨ks, us, b, d, h1, h2, h3.below hb hR⟩)))))
end

theorem Rep.below {w w' : World} (hb : Below w.heap.size w w') : ∀ (n : Nat) (a : AV n) (v : Value), Rep w n a v → Rep w' n a v
  | 0, _, _, h => h
  | n + 1, _, _, h => RepN.below hb (Rep.below hb n) h
theorem Rep.grew {w w' : World} (h : Grew w w') {n : Nat} {a : AV n} {v : Value} (r : Rep w n a v) : Rep w' n a v := r.below h.below n a v

theorem Rep.one {w : World} : ∀ {n : Nat} {a : AV n} {v : Value}, Rep w n a v → v.oneCell' = true
  | 0, _, _, h => absurd h id
  | n + 1, a, v, h => by
    rcases h with ⟨rfl, rfl⟩ | ⟨b, rfl, rfl⟩ | ⟨i, rfl, rfl⟩ | ⟨s, rfl, rfl⟩ | ⟨s, rfl, rfl⟩ | ⟨es, b, rfl, rfl, _⟩ | ⟨ks, us, b, d, rfl, rfl, _⟩ <;> rfl
/-- a store of one cell, as the walk takes it -/
theorem store_one {v : Value} (h : v.oneCell' = true) (a : Addr) (m : Mode) (w : World) : Sem.run Tryz.prog (store a v m) w = stored Tryz.prog w a v m := run_store _ w a _ m h

/-- the length of a list as the walk has it -/
theorem RowOf.len {α : Type} {w : World} {R : α → Value → Prop} {a : Option Addr} {len : Nat} {es : List α} (h : RowOf w R a len es) : len = es.length := h.1

theorem asn_4 (w : World) : (Instr.typeAssert .nilIface 20 4 true).run Tryz.prog w = .ok (.tuple #[.bool false, .bool false]) w := by kernel_rfl
theorem asp_4 (v : Value) (w : World) : (Instr.typeAssert (.iface 4 v) 20 4 false).run Tryz.prog w = .ok v w := by kernel_rfl
theorem as_4_4 (v : Value) (w : World) : (Instr.typeAssert (.iface 4 v) 20 4 true).run Tryz.prog w = .ok (.tuple #[v, .bool true]) w := by kernel_rfl
theorem as_2_4 (v : Value) (w : World) : (Instr.typeAssert (.iface 2 v) 20 4 true).run Tryz.prog w = .ok (.tuple #[.bool false, .bool false]) w := by kernel_rfl
theorem as_101_4 (v : Value) (w : World) : (Instr.typeAssert (.iface 119 v) 20 4 true).run Tryz.prog w = .ok (.tuple #[.bool false, .bool false]) w := by kernel_rfl
theorem as_102_4 (v : Value) (w : World) : (Instr.typeAssert (.iface 120 v) 20 4 true).run Tryz.prog w = .ok (.tuple #[.bool false, .bool false]) w := by kernel_rfl
theorem as_103_4 (v : Value) (w : World) : (Instr.typeAssert (.iface 121 v) 20 4 true).run Tryz.prog w = .ok (.tuple #[.bool false, .bool false]) w := by kernel_rfl
theorem as_107_4 (v : Value) (w : World) : (Instr.typeAssert (.iface 125 v) 20 4 true).run Tryz.prog w = .ok (.tuple #[.bool false, .bool false]) w := by kernel_rfl
theorem asn_2 (w : World) : (Instr.typeAssert .nilIface 20 2 true).run Tryz.prog w = .ok (.tuple #[.int .i64 0, .bool false]) w := by kernel_rfl
theorem asp_2 (v : Value) (w : World) : (Instr.typeAssert (.iface 2 v) 20 2 false).run Tryz.prog w = .ok v w := by kernel_rfl
theorem as_4_2 (v : Value) (w : World) : (Instr.typeAssert (.iface 4 v) 20 2 true).run Tryz.prog w = .ok (.tuple #[.int .i64 0, .bool false]) w := by kernel_rfl
theorem as_2_2 (v : Value) (w : World) : (Instr.typeAssert (.iface 2 v) 20 2 true).run Tryz.prog w = .ok (.tuple #[v, .bool true]) w := by kernel_rfl
theorem as_101_2 (v : Value) (w : World) : (Instr.typeAssert (.iface 119 v) 20 2 true).run Tryz.prog w = .ok (.tuple #[.int .i64 0, .bool false]) w := by kernel_rfl
theorem as_102_2 (v : Value) (w : World) : (Instr.typeAssert (.iface 120 v) 20 2 true).run Tryz.prog w = .ok (.tuple #[.int .i64 0, .bool false]) w := by kernel_rfl
theorem as_103_2 (v : Value) (w : World) : (Instr.typeAssert (.iface 121 v) 20 2 true).run Tryz.prog w = .ok (.tuple #[.int .i64 0, .bool false]) w := by kernel_rfl
theorem as_107_2 (v : Value) (w : World) : (Instr.typeAssert (.iface 125 v) 20 2 true).run Tryz.prog w = .ok (.tuple #[.int .i64 0, .bool false]) w := by kernel_rfl
theorem asn_101 (w : World) : (Instr.typeAssert .nilIface 20 119 true).run Tryz.prog w = .ok (.tuple #[.string ⟨#[]⟩, .bool false]) w := by kernel_rfl
theorem asp_101 (v : Value) (w : World) : (Instr.typeAssert (.iface 119 v) 20 119 false).run Tryz.prog w = .ok v w := by kernel_rfl
theorem as_4_101 (v : Value) (w : World) : (Instr.typeAssert (.iface 4 v) 20 119 true).run Tryz.prog w = .ok (.tuple #[.string ⟨#[]⟩, .bool false]) w := by kernel_rfl
theorem as_2_101 (v : Value) (w : World) : (Instr.typeAssert (.iface 2 v) 20 119 true).run Tryz.prog w = .ok (.tuple #[.string ⟨#[]⟩, .bool false]) w := by kernel_rfl
theorem as_101_101 (v : Value) (w : World) : (Instr.typeAssert (.iface 119 v) 20 119 true).run Tryz.prog w = .ok (.tuple #[v, .bool true]) w := by kernel_rfl
theorem as_102_101 (v : Value) (w : World) : (Instr.typeAssert (.iface 120 v) 20 119 true).run Tryz.prog w = .ok (.tuple #[.string ⟨#[]⟩, .bool false]) w := by kernel_rfl
theorem as_103_101 (v : Value) (w : World) : (Instr.typeAssert (.iface 121 v) 20 119 true).run Tryz.prog w = .ok (.tuple #[.string ⟨#[]⟩, .bool false]) w := by kernel_rfl
theorem as_107_101 (v : Value) (w : World) : (Instr.typeAssert (.iface 125 v) 20 119 true).run Tryz.prog w = .ok (.tuple #[.string ⟨#[]⟩, .bool false]) w := by kernel_rfl
theorem asn_102 (w : World) : (Instr.typeAssert .nilIface 20 120 true).run Tryz.prog w = .ok (.tuple #[.string ⟨#[]⟩, .bool false]) w := by kernel_rfl
theorem asp_102 (v : Value) (w : World) : (Instr.typeAssert (.iface 120 v) 20 120 false).run Tryz.prog w = .ok v w := by kernel_rfl
theorem as_4_102 (v : Value) (w : World) : (Instr.typeAssert (.iface 4 v) 20 120 true).run Tryz.prog w = .ok (.tuple #[.string ⟨#[]⟩, .bool false]) w := by kernel_rfl
theorem as_2_102 (v : Value) (w : World) : (Instr.typeAssert (.iface 2 v) 20 120 true).run Tryz.prog w = .ok (.tuple #[.string ⟨#[]⟩, .bool false]) w := by kernel_rfl
theorem as_101_102 (v : Value) (w : World) : (Instr.typeAssert (.iface 119 v) 20 120 true).run Tryz.prog w = .ok (.tuple #[.string ⟨#[]⟩, .bool false]) w := by kernel_rfl
theorem as_102_102 (v : Value) (w : World) : (Instr.typeAssert (.iface 120 v) 20 120 true).run Tryz.prog w = .ok (.tuple #[v, .bool true]) w := by kernel_rfl
theorem as_103_102 (v : Value) (w : World) : (Instr.typeAssert (.iface 121 v) 20 120 true).run Tryz.prog w = .ok (.tuple #[.string ⟨#[]⟩, .bool false]) w := by kernel_rfl
theorem as_107_102 (v : Value) (w : World) : (Instr.typeAssert (.iface 125 v) 20 120 true).run Tryz.prog w = .ok (.tuple #[.string ⟨#[]⟩, .bool false]) w := by kernel_rfl
theorem asn_103 (w : World) : (Instr.typeAssert .nilIface 20 121 true).run Tryz.prog w = .ok (.tuple #[.pointer none, .bool false]) w := by kernel_rfl
theorem asp_103 (v : Value) (w : World) : (Instr.typeAssert (.iface 121 v) 20 121 false).run Tryz.prog w = .ok v w := by kernel_rfl
theorem as_4_103 (v : Value) (w : World) : (Instr.typeAssert (.iface 4 v) 20 121 true).run Tryz.prog w = .ok (.tuple #[.pointer none, .bool false]) w := by kernel_rfl
theorem as_2_103 (v : Value) (w : World) : (Instr.typeAssert (.iface 2 v) 20 121 true).run Tryz.prog w = .ok (.tuple #[.pointer none, .bool false]) w := by kernel_rfl
theorem as_101_103 (v : Value) (w : World) : (Instr.typeAssert (.iface 119 v) 20 121 true).run Tryz.prog w = .ok (.tuple #[.pointer none, .bool false]) w := by kernel_rfl
theorem as_102_103 (v : Value) (w : World) : (Instr.typeAssert (.iface 120 v) 20 121 true).run Tryz.prog w = .ok (.tuple #[.pointer none, .bool false]) w := by kernel_rfl
theorem as_103_103 (v : Value) (w : World) : (Instr.typeAssert (.iface 121 v) 20 121 true).run Tryz.prog w = .ok (.tuple #[v, .bool true]) w := by kernel_rfl
theorem as_107_103 (v : Value) (w : World) : (Instr.typeAssert (.iface 125 v) 20 121 true).run Tryz.prog w = .ok (.tuple #[.pointer none, .bool false]) w := by kernel_rfl
theorem asn_107 (w : World) : (Instr.typeAssert .nilIface 20 125 true).run Tryz.prog w = .ok (.tuple #[.pointer none, .bool false]) w := by kernel_rfl
theorem asp_107 (v : Value) (w : World) : (Instr.typeAssert (.iface 125 v) 20 125 false).run Tryz.prog w = .ok v w := by kernel_rfl
theorem as_4_107 (v : Value) (w : World) : (Instr.typeAssert (.iface 4 v) 20 125 true).run Tryz.prog w = .ok (.tuple #[.pointer none, .bool false]) w := by kernel_rfl
theorem as_2_107 (v : Value) (w : World) : (Instr.typeAssert (.iface 2 v) 20 125 true).run Tryz.prog w = .ok (.tuple #[.pointer none, .bool false]) w := by kernel_rfl
theorem as_101_107 (v : Value) (w : World) : (Instr.typeAssert (.iface 119 v) 20 125 true).run Tryz.prog w = .ok (.tuple #[.pointer none, .bool false]) w := by kernel_rfl
theorem as_102_107 (v : Value) (w : World) : (Instr.typeAssert (.iface 120 v) 20 125 true).run Tryz.prog w = .ok (.tuple #[.pointer none, .bool false]) w := by kernel_rfl
theorem as_103_107 (v : Value) (w : World) : (Instr.typeAssert (.iface 121 v) 20 125 true).run Tryz.prog w = .ok (.tuple #[.pointer none, .bool false]) w := by kernel_rfl
theorem as_107_107 (v : Value) (w : World) : (Instr.typeAssert (.iface 125 v) 20 125 true).run Tryz.prog w = .ok (.tuple #[v, .bool true]) w := by kernel_rfl

theorem follows : Tryz.prog.follows .mixedOrders = true := by kernel_rfl

def kindOf : (n : Nat) → AV n → Nat
  | 0, _ => 0
  | _ + 1, a => Node.kind a

end Go.Proofs.YtjbekejcghjhbaaGreatDoor.Sx

namespace Go.Proofs.YtjbekejcghjhbaaGreatDoor.Sx
open Go.RowKit Go.Sort
attribute [local go_sem] asn_4 asp_4 as_4_4 as_2_4 as_101_4 as_102_4 as_103_4 as_107_4 asn_2 asp_2 as_4_2 as_2_2 as_101_2 as_102_2 as_103_2 as_107_2 asn_101 asp_101 as_4_101 as_2_101 as_101_101 as_102_101 as_103_101 as_107_101 asn_102 asp_102 as_4_102 as_2_102 as_101_102 as_102_102 as_103_102 as_107_102 asn_103 asp_103 as_4_103 as_2_103 as_101_103 as_102_103 as_103_103 as_107_103 asn_107 asp_107 as_4_107 as_2_107 as_101_107 as_102_107 as_103_107 as_107_107

set_option maxRecDepth 100000 in
theorem rank_any (n : Nat) (a : AV n) (v : Value) (w : World) (h : Rep w n a v) : Calls Tryz.prog 38 #[v] w fun e w' => e = .returned (.int .i64 (kindOf n a)) ∧ w' = w := by
  cases n with
  | zero => exact absurd h id
  | succ n =>
    rcases h with ⟨rfl, rfl⟩ | ⟨b, rfl, rfl⟩ | ⟨i, rfl, rfl⟩ | ⟨s, rfl, rfl⟩ | ⟨s, rfl, rfl⟩ | ⟨es, b, rfl, rfl, _⟩ | ⟨ks, us, b, d, rfl, rfl, _⟩
    all_goals
      go_enter Tryz.func38, Tryz.ntmps38
      go_wp2
      go_ret
      exact ⟨rfl, rfl⟩

set_option maxRecDepth 100000 in
theorem weigh_any (n : Nat) (a : AV n) (v : Value) (w : World) (h : Rep w n a v) : Calls Tryz.prog 36 #[v] w fun e w' => e = .returned (.int .i64 (wt n a)) ∧ w' = w := by
  cases n with
  | zero => exact absurd h id
  | succ n =>
    rcases h with ⟨rfl, rfl⟩ | ⟨b, rfl, rfl⟩ | ⟨i, rfl, rfl⟩ | ⟨s, rfl, rfl⟩ | ⟨s, rfl, rfl⟩ | ⟨es, b, rfl, rfl, a, len, cap, hb, hr⟩ | ⟨ks, us, b, d, rfl, rfl, hs, hl, a, len, cap, hb, hr⟩
    rotate_left 5
    · have h1 := block_cell hb 1
      clear hb
      go_enter Tryz.func36, Tryz.ntmps36
      go_wp2
      go_ret
      exact ⟨rfl, rfl⟩
    · have h1 := block_cell hb 2
      clear hb
      go_enter Tryz.func36, Tryz.ntmps36
      go_wp2
      go_ret
      exact ⟨rfl, rfl⟩
    all_goals
      go_enter Tryz.func36, Tryz.ntmps36
      go_wp2
      go_ret
      exact ⟨rfl, rfl⟩

set_option maxRecDepth 100000 in
theorem Weight_any (n : Nat) (a : AV n) (v : Value) (w : World) (h : Rep w n a v) : Calls Tryz.prog 14 #[.agg #[v]] w fun e w' => e = .returned (.int .i64 (wt n a)) ∧ Grew w w' := by
  have hc := fun (o : Obj) => weigh_any n a v (w.alloc o) (h.grew ((Grew.refl w).alloc o))
  go_enter Tryz.func14, Tryz.ntmps14
  go_wp2_with (go_at_call 36; refine (hc _).mono ?_; rintro e w' ⟨rfl, rfl⟩)
  go_ret
  exact ⟨rfl, (Grew.refl w).alloc _⟩
end Go.Proofs.YtjbekejcghjhbaaGreatDoor.Sx

namespace Go.Proofs.YtjbekejcghjhbaaGreatDoor.Sx
open Go.RowKit Go.Sort
attribute [local go_sem] asn_4 asp_4 as_4_4 as_2_4 as_101_4 as_102_4 as_103_4 as_107_4 asn_2 asp_2 as_4_2 as_2_2 as_101_2 as_102_2 as_103_2 as_107_2 asn_101 asp_101 as_4_101 as_2_101 as_101_101 as_102_101 as_103_101 as_107_101 asn_102 asp_102 as_4_102 as_2_102 as_101_102 as_102_102 as_103_102 as_107_102 asn_103 asp_103 as_4_103 as_2_103 as_101_103 as_102_103 as_103_103 as_107_103 asn_107 asp_107 as_4_107 as_2_107 as_101_107 as_102_107 as_103_107 as_107_107

def CmpOK (n : Nat) : Prop := ∀ (w : World) (a b : AV n) (va vb : Value), Rep w n a va → Rep w n b vb →
  Calls Tryz.prog 17 #[.agg #[va], .agg #[vb]] w fun e w' => e = .returned (.int .i64 (cmpV n a b)) ∧ Grew w w'

theorem cmpL_step {α : Type} {c : α → α → Int} {es fs : List α} {k : Nat} {x y : α} (hx : es[k]? = some x) (hy : fs[k]? = some y) :
    cmpL c (es.drop k) (fs.drop k) = then2 (c x y) (cmpL c (es.drop (k + 1)) (fs.drop (k + 1))) := by
  obtain ⟨h1, e1⟩ := List.getElem?_eq_some_iff.1 hx
  obtain ⟨h2, e2⟩ := List.getElem?_eq_some_iff.1 hy
  rw [List.drop_eq_getElem_cons h1, List.drop_eq_getElem_cons h2, e1, e2]; rfl

set_option maxRecDepth 100000 in
set_option maxHeartbeats 1000000 in
theorem compareFunc_any (n : Nat) (hC : CmpOK n) (w : World) (a1 a2 : Option Addr) (l1 l2 c1 c2 : Nat) (es fs : List (AV n)) (h1 : RowOf w (Rep w n) a1 l1 es) (h2 : RowOf w (Rep w n) a2 l2 fs) :
    Calls Tryz.prog 137 #[.slice a1 l1 c1, .slice a2 l2 c2, .func (.func 17) #[] #[]] w fun e w' => e = .returned (.int .i64 (cmpL (cmpV n) es fs)) ∧ Grew w w' := by
  obtain ⟨e1, b1, r1⟩ := h1
  obtain ⟨e2, b2, r2⟩ := h2
  have E1 : Hid (l1 = es.length) := e1
  have E2 : Hid (l2 = fs.length) := e2
  clear e1 e2
  have HC : Hid (CmpOK n) := hC
  clear hC
  go_enter Tryz.func137, Tryz.ntmps137
  go_wp2
  go_loopw [13] (fun i wr => ∃ k : Nat, k ≤ l1 ∧ k ≤ l2 ∧ i = .int .i64 k ∧ Hid (Grew w wr) ∧ Hid (cmpL (cmpV n) es fs = cmpL (cmpV n) (es.drop k) (fs.drop k))) (fun i _ => l1 - (intOf i).toNat)
  case atStart => exact ⟨0, Nat.zero_le _, Nat.zero_le _, rfl, Grew.refl w, by simp [Hid]⟩
  case round =>
    obtain ⟨k, hk1, hk2, rfl, HG, HE⟩ := hrel
    by_cases hlt : k < l1
    · have hx : k < es.length := by rw [← E1.out]; exact hlt
      obtain ⟨p1, o1, rfl, hp1, hc1⟩ := r1.resolve_left (by omega)
      obtain ⟨v1, hv1, hr1⟩ := hc1 k es[k] (List.getElem?_eq_getElem hx)
      by_cases hlt2 : k < l2
      · have hy : k < fs.length := by rw [← E2.out]; exact hlt2
        obtain ⟨p2, o2, rfl, hp2, hc2⟩ := r2.resolve_left (by omega)
        obtain ⟨v2, hv2, hr2⟩ := hc2 k fs[k] (List.getElem?_eq_getElem hy)
        have g1 := (HG.out.below.cell (p := ⟨p1, o1 + k, none⟩) hp1).trans hv1
        have g2 := (HG.out.below.cell (p := ⟨p2, o2 + k, none⟩) hp2).trans hv2
        have s1 : p1 < wr.heap.size := Nat.lt_of_lt_of_le hp1 HG.out.below.size
        have s2 : p2 < wr.heap.size := Nat.lt_of_lt_of_le hp2 HG.out.below.size
        have HS := cmpL_step (c := cmpV n) (List.getElem?_eq_getElem hx) (List.getElem?_eq_getElem hy)
        have HS : Hid (_ = _) := HS
        have hcall := fun (W : World) (hW : Grew w W) => HC.out W es[k] fs[k] v1 v2 (hr1.grew hW) (hr2.grew hW)
        have HCALL : Hid (∀ (W : World) (hW : Grew w W), _) := hcall
        have st1 := store_one hr1.one
        have st2 := store_one hr2.one
        clear hcall hc1 hc2 hv1 hv2 hr1 hr2 r1 r2
        generalize cmpV n es[k] fs[k] = cv at HCALL HS
        by_cases h0 : cv = 0
        · subst h0
          go_wp2_with (go_at_call 17; refine (HCALL.out _ ((HG.out.alloc _).alloc _)).mono ?_; rintro e w' ⟨rfl, hg⟩; have hg' : Hid (Grew w w') := ((HG.out.alloc _).alloc _).trans hg; clear hg)
          go_roundw
          case rel => exact ⟨k + 1, by omega, by omega, by go_num, by assumption, by show Hid (_ = _); rw [HE.out, HS.out]; rfl⟩
          case measure => simp [intOf]; omega
        · have hb : (cv == 0) = false := by simp [h0]
          have HF : Hid (cmpL (cmpV n) es fs = cv) := by show _ = _; rw [HE.out, HS.out]; simp [then2, h0]
          go_wp2_with (go_at_call 17; refine (HCALL.out _ ((HG.out.alloc _).alloc _)).mono ?_; rintro e w' ⟨rfl, hg⟩; have hg' : Hid (Grew w w') := ((HG.out.alloc _).alloc _).trans hg; clear hg)
          go_ret
          exact ⟨by rw [HF.out]; rfl, by assumption⟩
      · have hq : k = l2 := by omega
        have HF : Hid (cmpL (cmpV n) es fs = 1) := by
          show _ = _
          rw [HE.out, List.drop_eq_getElem_cons hx, List.drop_of_length_le (l := fs) (by rw [← E2.out]; omega)]; rfl
        have g1 := (HG.out.below.cell (p := ⟨p1, o1 + k, none⟩) hp1).trans hv1
        have s1 : p1 < wr.heap.size := Nat.lt_of_lt_of_le hp1 HG.out.below.size
        have st1 := store_one hr1.one
        clear hc1 hv1 hr1 r1 r2 hq
        go_wp2_with fail
        go_ret
        exact ⟨by rw [HF.out]; rfl, HG.out.alloc _⟩
    · have hq : k = l1 := by omega
      subst hq
      by_cases hlt2 : k < l2
      · have HF : Hid (cmpL (cmpV n) es fs = -1) := by
          show _ = _
          rw [HE.out, List.drop_of_length_le (l := es) (by rw [← E1.out]; omega), List.drop_eq_getElem_cons (l := fs) (by rw [← E2.out]; omega)]; rfl
        clear r1 r2
        go_wp2_with fail
        go_ret
        exact ⟨by rw [HF.out]; rfl, HG.out⟩
      · have HF : Hid (cmpL (cmpV n) es fs = 0) := by
          show _ = _
          rw [HE.out, List.drop_of_length_le (l := es) (by rw [← E1.out]; omega), List.drop_of_length_le (l := fs) (by rw [← E2.out]; omega)]; rfl
        clear r1 r2
        go_wp2_with fail
        go_ret
        exact ⟨by rw [HF.out]; rfl, HG.out⟩

theorem cmpN_kind {α : Type} {c : α → α → Int} {a b : Node α} (h : Lib.compareInt a.kind b.kind ≠ 0) : cmpN c a b = Lib.compareInt a.kind b.kind := by
  simp only [cmpN, then2, if_neg h]
theorem then2_zero (y : Int) : then2 0 y = y := if_pos rfl
theorem then2_right (x : Int) : then2 x 0 = x := by unfold then2; split <;> simp_all
theorem cmpN_set {α : Type} (c : α → α → Int) (a b : List α) : cmpN c (mkSet a) (mkSet b) = cmpS c a b := by
  show then2 0 (then2 0 (then2 0 (then2 (cmpS c a b) 0))) = _
  rw [then2_zero, then2_zero, then2_zero, then2_right]
theorem cmpN_fn {α : Type} (c : α → α → Int) (a b k v : List α) : cmpN c (mkFn a k) (mkFn b v) = then2 (cmpS c a b) (cmpS c k v) := by
  show then2 0 (then2 0 (then2 0 (then2 (cmpS c a b) (cmpS c k v)))) = _
  rw [then2_zero, then2_zero, then2_zero]
theorem cmpN_int {α : Type} (c : α → α → Int) (a b : Int) : cmpN c (mkInt a) (mkInt b) = Lib.compareInt a b := by
  show then2 0 (then2 (Lib.compareInt a b) (then2 0 (then2 0 0))) = _
  rw [then2_zero, then2_zero, then2_zero, then2_right]
theorem cmpN_text {α : Type} (c : α → α → Int) (a b : List UInt8) : cmpN c (mkText a) (mkText b) = Lib.compareBytes a b := by
  show then2 0 (then2 0 (then2 (Lib.compareBytes a b) (then2 0 0))) = _
  rw [then2_zero, then2_zero, then2_zero, then2_right]
theorem cmpN_atom {α : Type} (c : α → α → Int) (a b : List UInt8) : cmpN c (mkAtom a) (mkAtom b) = Lib.compareBytes a b := by
  show then2 0 (then2 0 (then2 (Lib.compareBytes a b) (then2 0 0))) = _
  rw [then2_zero, then2_zero, then2_zero, then2_right]
theorem cmpN_bool {α : Type} (c : α → α → Int) (a b : Bool) : cmpN c (mkBool a) (mkBool b) = if a = b then 0 else if b then -1 else 1 := by
  cases a <;> cases b <;> rfl
theorem cmpN_nil {α : Type} (c : α → α → Int) : cmpN c mkNil mkNil = 0 := rfl

set_option maxRecDepth 100000 in
theorem cmpInt_any (a b : Int) (w : World) : Calls Tryz.prog 37 #[.int .i64 a, .int .i64 b] w fun e w' => e = .returned (.int .i64 (Lib.compareInt a b)) ∧ w' = w := by
  by_cases h1 : a < b
  · have HF : Hid (Lib.compareInt a b = -1) := by simp [Hid, Lib.compareInt, h1]
    go_enter Tryz.func37, Tryz.ntmps37
    go_wp2
    go_ret
    exact ⟨by rw [HF.out]; rfl, rfl⟩
  · by_cases h2 : b < a
    · have HF : Hid (Lib.compareInt a b = 1) := by simp [Hid, Lib.compareInt, h1, h2]
      go_enter Tryz.func37, Tryz.ntmps37
      go_wp2
      go_ret
      exact ⟨by rw [HF.out]; rfl, rfl⟩
    · have HF : Hid (Lib.compareInt a b = 0) := by simp [Hid, Lib.compareInt, h1, h2]
      go_enter Tryz.func37, Tryz.ntmps37
      go_wp2
      go_ret
      exact ⟨by rw [HF.out]; rfl, rfl⟩

set_option maxRecDepth 100000 in
theorem cmpInt64_any (a b : Int) (w : World) : Calls Tryz.prog 77 #[.int .i64 a, .int .i64 b] w fun e w' => e = .returned (.int .i64 (Lib.compareInt a b)) ∧ w' = w := by
  by_cases h1 : a < b
  · have HF : Hid (Lib.compareInt a b = -1) := by simp [Hid, Lib.compareInt, h1]
    go_enter Tryz.func77, Tryz.ntmps77
    go_wp2
    go_ret
    exact ⟨by rw [HF.out]; rfl, rfl⟩
  · by_cases h2 : b < a
    · have HF : Hid (Lib.compareInt a b = 1) := by simp [Hid, Lib.compareInt, h1, h2]
      go_enter Tryz.func77, Tryz.ntmps77
      go_wp2
      go_ret
      exact ⟨by rw [HF.out]; rfl, rfl⟩
    · have HF : Hid (Lib.compareInt a b = 0) := by simp [Hid, Lib.compareInt, h1, h2]
      go_enter Tryz.func77, Tryz.ntmps77
      go_wp2
      go_ret
      exact ⟨by rw [HF.out]; rfl, rfl⟩

set_option maxRecDepth 100000 in
theorem cmpBool_any (a b : Bool) (w : World) : Calls Tryz.prog 76 #[.bool a, .bool b] w fun e w' => e = .returned (.int .i64 (if a = b then 0 else if b then -1 else 1)) ∧ w' = w := by
  cases a <;> cases b
  all_goals
    go_enter Tryz.func76, Tryz.ntmps76
    go_wp2
    go_ret
    exact ⟨rfl, rfl⟩

/-- one memory, one tree -/
theorem SetAt.one {α : Type} {w : World} {R : α → Value → Prop} {wta : α → Nat} {b : Nat} {es fs : List α} (hR : ∀ x y v, R x v → R y v → x = y) (h1 : SetAt w R wta b es) (h2 : SetAt w R wta b fs) : es = fs := by
  obtain ⟨a, len, cap, h0, hr⟩ := h1
  obtain ⟨a', len', cap', h0', hr'⟩ := h2
  rw [h0] at h0'
  simp at h0'
  obtain ⟨⟨rfl, rfl, rfl⟩, _⟩ := h0'
  obtain ⟨e1, _, r1⟩ := hr
  obtain ⟨e2, _, r2⟩ := hr'
  apply List.ext_getElem? 
  intro i
  by_cases hi : i < len
  · obtain ⟨p, o, rfl, _, c1⟩ := r1.resolve_left (by omega)
    obtain ⟨p', o', e, _, c2⟩ := r2.resolve_left (by omega)
    simp only [Option.some.injEq, Addr.mk.injEq, and_true] at e
    obtain ⟨rfl, rfl⟩ := e
    have l1 : i < es.length := by omega
    have l2 : i < fs.length := by omega
    rw [List.getElem?_eq_getElem l1, List.getElem?_eq_getElem l2]
    obtain ⟨v, hv, hr⟩ := c1 i _ (List.getElem?_eq_getElem l1)
    obtain ⟨v', hv', hr'⟩ := c2 i _ (List.getElem?_eq_getElem l2)
    rw [hv] at hv'
    simp only [Option.some.injEq] at hv'
    subst hv'
    rw [hR _ _ _ hr hr']
  · rw [List.getElem?_eq_none (by omega), List.getElem?_eq_none (by omega)]
theorem FnAt.one {α : Type} {w : World} {R : α → Value → Prop} {num : α → Option Int} {wta : α → Nat} {b d d' : Nat} {ks us ks' us' : List α} (hR : ∀ x y v, R x v → R y v → x = y) (h1 : FnAt w R num wta b d ks us) (h2 : FnAt w R num wta b d' ks' us') : ks = ks' ∧ us = us' := by
  obtain ⟨s1, _, a, len, cap, c0, r1⟩ := h1
  obtain ⟨s2, _, a', len', cap', c0', r2⟩ := h2
  rw [c0] at c0'
  simp at c0'
  obtain ⟨rfl, ⟨rfl, rfl, rfl⟩, _⟩ := c0'
  refine ⟨s1.one hR s2, ?_⟩
  obtain ⟨e1, _, r1⟩ := r1
  obtain ⟨e2, _, r2⟩ := r2
  apply List.ext_getElem?
  intro i
  by_cases hi : i < len
  · obtain ⟨p, o, rfl, _, c1⟩ := r1.resolve_left (by omega)
    obtain ⟨p', o', e, _, c2⟩ := r2.resolve_left (by omega)
    simp only [Option.some.injEq, Addr.mk.injEq, and_true] at e
    obtain ⟨rfl, rfl⟩ := e
    have l1 : i < us.length := by omega
    have l2 : i < us'.length := by omega
    rw [List.getElem?_eq_getElem l1, List.getElem?_eq_getElem l2]
    obtain ⟨v, hv, hr⟩ := c1 i _ (List.getElem?_eq_getElem l1)
    obtain ⟨v', hv', hr'⟩ := c2 i _ (List.getElem?_eq_getElem l2)
    rw [hv] at hv'
    simp only [Option.some.injEq] at hv'
    subst hv'
    rw [hR _ _ _ hr hr']
  · rw [List.getElem?_eq_none (by omega), List.getElem?_eq_none (by omega)]
theorem Rep.uniq {w : World} : ∀ (n : Nat) (a b : AV n) (v : Value), Rep w n a v → Rep w n b v → a = b
  | 0, a, _, _, _, _ => Empty.elim a
  | n + 1, a, b, v, ha, hb => by
    have H := Rep.uniq (w := w) n
    rcases ha with ⟨rfl, rfl⟩ | ⟨b1, rfl, rfl⟩ | ⟨i1, rfl, rfl⟩ | ⟨s1, rfl, rfl⟩ | ⟨s1, rfl, rfl⟩ | ⟨es1, p1, rfl, rfl, h1⟩ | ⟨ks1, us1, p1, d1, rfl, rfl, h1⟩ <;>
    rcases hb with ⟨rfl, e⟩ | ⟨b2, rfl, e⟩ | ⟨i2, rfl, e⟩ | ⟨s2, rfl, e⟩ | ⟨s2, rfl, e⟩ | ⟨es2, p2, rfl, e, h2⟩ | ⟨ks2, us2, p2, d2, rfl, e, h2⟩ <;>
    simp at e
    · rfl
    · rw [e]
    · rw [e]
    · rw [e]
    · rw [e]
    · subst e; rw [h1.one H h2]
    · subst e; obtain ⟨q1, q2⟩ := h1.one H h2; rw [q1, q2]

end Go.Proofs.YtjbekejcghjhbaaGreatDoor.Sx

namespace Go.Proofs.YtjbekejcghjhbaaGreatDoor.Sx
open Go.RowKit Go.Sort
attribute [local go_sem] asn_4 asp_4 as_4_4 as_2_4 as_101_4 as_102_4 as_103_4 as_107_4 asn_2 asp_2 as_4_2 as_2_2 as_101_2 as_102_2 as_103_2 as_107_2 asn_101 asp_101 as_4_101 as_2_101 as_101_101 as_102_101 as_103_101 as_107_101 asn_102 asp_102 as_4_102 as_2_102 as_101_102 as_102_102 as_103_102 as_107_102 asn_103 asp_103 as_4_103 as_2_103 as_101_103 as_102_103 as_103_103 as_107_103 asn_107 asp_107 as_4_107 as_2_107 as_101_107 as_102_107 as_103_107 as_107_107

theorem under103 : Tryz.prog.underlying 121 = some (.pointer 124) := Tryz.underlying121
theorem under107 : Tryz.prog.underlying 125 = some (.pointer 130) := Tryz.underlying125
theorem info124 : ∃ j, Tryz.prog.info? 124 = some j ∧ j.size ≠ 0 := by
  have h : (Tryz.prog.info? 124).map (fun i => i.size) = some 2 := by kernel_rfl
  cases e : Tryz.prog.info? 124 with
  | none => rw [e] at h; simp at h
  | some j => rw [e] at h; simp at h; exact ⟨j, rfl, by omega⟩
theorem info130 : ∃ j, Tryz.prog.info? 130 = some j ∧ j.size ≠ 0 := by
  have h : (Tryz.prog.info? 130).map (fun i => i.size) = some 4 := by kernel_rfl
  cases e : Tryz.prog.info? 130 with
  | none => rw [e] at h; simp at h
  | some j => rw [e] at h; simp at h; exact ⟨j, rfl, by omega⟩

set_option maxRecDepth 100000 in
set_option maxHeartbeats 1000000 in
theorem compareSets_any (n : Nat) (hC : CmpOK n) (w : World) (b1 b2 : Nat) (es fs : List (AV n)) (h1 : SetAt w (Rep w n) (wt n) b1 es) (h2 : SetAt w (Rep w n) (wt n) b2 fs) :
    Calls Tryz.prog 79 #[.pointer (some ⟨b1, 0, none⟩), .pointer (some ⟨b2, 0, none⟩)] w fun e w' => e = .returned (.int .i64 (cmpS (cmpV n) es fs)) ∧ Grew w w' := by
  have HC : Hid (CmpOK n) := hC
  clear hC
  by_cases hb : b1 = b2
  · subst hb
    have HF : Hid (cmpS (cmpV n) es fs = 0) := by rw [h1.one (Rep.uniq n) h2]; exact (ord_rows (ord n)).self _
    clear h1 h2
    obtain ⟨j, hj, _⟩ := info124
    have hsame := fun W => run_eql_ptr_same (P := Tryz.prog) W ⟨b1, 0, none⟩ under103 hj
    go_enter Tryz.func79, Tryz.ntmps79
    go_wp2_with fail
    go_ret
    exact ⟨by rw [HF.out]; rfl, Grew.refl w⟩
  · obtain ⟨a1, l1, c1, q1, r1⟩ := h1
    obtain ⟨a2, l2, c2, q2, r2⟩ := h2
    have k1 := block_cell q1 0
    have k2 := block_cell q2 0
    have hl1 := block_lt q1
    have hl2 := block_lt q2
    obtain ⟨j, hj, hz⟩ := info124
    have hoth := run_eql_ptr_other (P := Tryz.prog) w (a := ⟨b1, 0, none⟩) (b := ⟨b2, 0, none⟩) under103 hj hz (fun h => hb (congrArg Addr.block h)) q1 q2
    clear q1 q2 hj hz
    have e1 := r1.1
    have e2 := r2.1
    have hci := fun W => cmpInt_any l1 l2 W
    have E : Hid (cmpS (cmpV n) es fs = then2 (Lib.compareInt l1 l2) (cmpL (cmpV n) es fs)) := by rw [e1, e2]; rfl
    have g1 := cell_grown (w := w) (a := ⟨b1, 0, none⟩) hl1 k1
    have g2 := cell_grown (w := w) (a := ⟨b2, 0, none⟩) hl2 k2
    have HCI : Hid (∀ W, _) := hci
    have R1 : Hid (RowOf w _ a1 l1 es) := r1
    have R2 : Hid (RowOf w _ a2 l2 fs) := r2
    clear r1 r2 e1 e2 hci
    generalize Lib.compareInt l1 l2 = d at E HCI
    have mo := follows
    have hcf := fun (W : World) (hW : Grew w W) => compareFunc_any n HC.out W a1 a2 l1 l2 c1 c2 es fs (R1.out.below hW.below fun x v => Rep.below hW.below n x v) (R2.out.below hW.below fun x v => Rep.below hW.below n x v)
    have HCF : Hid (∀ (W : World) (hW : Grew w W), _) := hcf
    clear hcf
    by_cases h0 : d = 0
    · subst h0
      go_enter Tryz.func79, Tryz.ntmps79
      go_wp2_with fail
      go_quiet_grown (first | (go_at_call 37; refine Calls.grown_of ((HCI.out _).mono fun e W h => ⟨h.1, by rw [h.2]; exact Grew.refl _⟩)))
      have G : Hid (Grew w (grow (w.drewN nq) osq)) := ⟨nq, osq, rfl⟩
      have m1 := g1 nq osq
      have m2 := g2 nq osq
      have z1 : b1 < (grow (w.drewN nq) osq).heap.size := Nat.lt_of_lt_of_le hl1 G.out.below.size
      have z2 : b2 < (grow (w.drewN nq) osq).heap.size := Nat.lt_of_lt_of_le hl2 G.out.below.size
      clear g1 g2 k1 k2
      generalize grow (w.drewN nq) osq = W1 at G m1 m2 z1 z2 ⊢
      clear nq osq hoth
      have g1 := cell_grown (w := W1) (a := ⟨b1, 0, none⟩) z1 m1
      have g2 := cell_grown (w := W1) (a := ⟨b2, 0, none⟩) z2 m2
      go_wp2_with fail
      go_quiet_grown (first | (go_at_call 137; refine Calls.grown_of (HCF.out _ (G.out.grown _ _))))
      go_wp2_with fail
      go_ret
      exact ⟨by rw [E.out, then2_zero]; rfl, G.out.grown _ _⟩
    · have hd : (d == 0) = false := by simp [h0]
      have HF : Hid (cmpS (cmpV n) es fs = d) := by show _ = _; rw [E.out]; simp [then2, h0]
      go_enter Tryz.func79, Tryz.ntmps79
      go_wp2_with fail
      go_quiet_grown (first | (go_at_call 37; refine Calls.grown_of ((HCI.out _).mono fun e W h => ⟨h.1, by rw [h.2]; exact Grew.refl _⟩)))
      go_wp2_with fail
      go_ret
      exact ⟨by rw [HF.out]; rfl, (Grew.refl w).grown _ _⟩

set_option maxRecDepth 100000 in
set_option maxHeartbeats 1000000 in
theorem compareFunctions_any (n : Nat) (hC : CmpOK n) (w : World) (b1 b2 d1 d2 : Nat) (ks us ks' us' : List (AV n)) (h1 : FnAt w (Rep w n) (numOf n) (wt n) b1 d1 ks us) (h2 : FnAt w (Rep w n) (numOf n) (wt n) b2 d2 ks' us') :
    Calls Tryz.prog 80 #[.pointer (some ⟨b1, 0, none⟩), .pointer (some ⟨b2, 0, none⟩)] w fun e w' => e = .returned (.int .i64 (then2 (cmpS (cmpV n) ks ks') (cmpS (cmpV n) us us'))) ∧ Grew w w' := by
  have HC : Hid (CmpOK n) := hC
  clear hC
  by_cases hb : b1 = b2
  · subst hb
    have HF : Hid (then2 (cmpS (cmpV n) ks ks') (cmpS (cmpV n) us us') = 0) := by
      obtain ⟨e1, e2⟩ := h1.one (Rep.uniq n) h2
      rw [e1, e2, (ord_rows (ord n)).self, (ord_rows (ord n)).self]; rfl
    clear h1 h2
    obtain ⟨j, hj, _⟩ := info130
    have hsame := fun W => run_eql_ptr_same (P := Tryz.prog) W ⟨b1, 0, none⟩ under107 hj
    go_enter Tryz.func80, Tryz.ntmps80
    go_wp2_with fail
    go_ret
    exact ⟨by rw [HF.out]; rfl, Grew.refl w⟩
  · obtain ⟨s1, lk, a1, l1, c1, q1, r1⟩ := h1
    obtain ⟨s2, lk', a2, l2, c2, q2, r2⟩ := h2
    obtain ⟨k1, j1⟩ := cells2 q1
    obtain ⟨k2, j2⟩ := cells2 q2
    have hl1 := block_lt q1
    have hl2 := block_lt q2
    obtain ⟨j, hj, hz⟩ := info130
    have hoth := run_eql_ptr_other (P := Tryz.prog) w (a := ⟨b1, 0, none⟩) (b := ⟨b2, 0, none⟩) under107 hj hz (fun h => hb (congrArg Addr.block h)) q1 q2
    clear q1 q2 hj hz
    have hcs := fun (W : World) (hW : Grew w W) => compareSets_any n HC.out W d1 d2 ks ks' (s1.below hW.below fun x v => Rep.below hW.below n x v) (s2.below hW.below fun x v => Rep.below hW.below n x v)
    have hcf := fun (W : World) (hW : Grew w W) => compareFunc_any n HC.out W a1 a2 l1 l2 c1 c2 us us' (r1.below hW.below fun x v => Rep.below hW.below n x v) (r2.below hW.below fun x v => Rep.below hW.below n x v)
    have HCF : Hid (∀ (W : World) (hW : Grew w W), _) := hcf
    have HCS : Hid (∀ (W : World) (hW : Grew w W), _) := hcs
    have HL : Hid (cmpS (cmpV n) ks ks' = 0 → cmpS (cmpV n) us us' = cmpL (cmpV n) us us') := by
      intro h
      have := congrArg List.length ((cmpS_eq (cmpV_eq n) ks ks').1 h)
      unfold cmpS
      rw [(cint_eq _ _).2 (by omega), then2_zero]
    clear hcf hcs s1 s2 r1 r2
    generalize cmpS (cmpV n) ks ks' = d at HCS HL ⊢
    have g1 := cell_grown (w := w) (a := ⟨b1, 0, none⟩) hl1 k1
    have g2 := cell_grown (w := w) (a := ⟨b2, 0, none⟩) hl2 k2
    have i1 := cell_grown (w := w) (a := ⟨b1, 1, none⟩) hl1 j1
    have i2 := cell_grown (w := w) (a := ⟨b2, 1, none⟩) hl2 j2
    clear k1 k2 j1 j2
    have mo := follows
    by_cases h0 : d = 0
    · subst h0
      have HF : Hid (then2 0 (cmpS (cmpV n) us us') = cmpL (cmpV n) us us') := by show _ = _; rw [then2_zero]; exact HL.out rfl
      clear HL
      go_enter Tryz.func80, Tryz.ntmps80
      go_wp2_with fail
      go_quiet_grown (first | (go_at_call 79; refine Calls.grown_of (HCS.out _ ((Grew.refl w).grown _ _))))
      have G : Hid (Grew w (grow (w.drewN nq) osq)) := ⟨nq, osq, rfl⟩
      have m1 := i1 nq osq
      have m2 := i2 nq osq
      have z1 : b1 < (grow (w.drewN nq) osq).heap.size := Nat.lt_of_lt_of_le hl1 G.out.below.size
      have z2 : b2 < (grow (w.drewN nq) osq).heap.size := Nat.lt_of_lt_of_le hl2 G.out.below.size
      clear g1 g2 i1 i2
      generalize grow (w.drewN nq) osq = W1 at G m1 m2 z1 z2 ⊢
      clear nq osq hoth
      have g1 := cell_grown (w := W1) (a := ⟨b1, 1, none⟩) z1 m1
      have g2 := cell_grown (w := W1) (a := ⟨b2, 1, none⟩) z2 m2
      go_wp2_with fail
      go_quiet_grown (first | (go_at_call 137; refine Calls.grown_of (HCF.out _ (G.out.grown _ _))))
      go_wp2_with fail
      go_ret
      exact ⟨by rw [HF.out]; rfl, G.out.grown _ _⟩
    · have hd : (d == 0) = false := by simp [h0]
      have HF : Hid (then2 d (cmpS (cmpV n) us us') = d) := by show _ = _; simp [then2, h0]
      clear HL
      go_enter Tryz.func80, Tryz.ntmps80
      go_wp2_with fail
      go_quiet_grown (first | (go_at_call 79; refine Calls.grown_of (HCS.out _ ((Grew.refl w).grown _ _))))
      go_wp2_with fail
      go_ret
      exact ⟨by rw [HF.out]; rfl, (Grew.refl w).grown _ _⟩
end Go.Proofs.YtjbekejcghjhbaaGreatDoor.Sx
