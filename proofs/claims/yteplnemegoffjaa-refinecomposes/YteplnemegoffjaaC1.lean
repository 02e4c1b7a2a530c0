/- Two lists through one another: rows of numbers, held against one another. -/
import Derived.Test.YteplnemegoffjaaProg
import Derived.WalkKit
import Derived.WalkSpells
import Derived.OwnWalk
import Derived.Deep.AppendLies
import Derived.Deep.LoopGhost
import Derived.Lib.AppendZeros
import Derived.BigQuiet
import Derived.Deep.QuietTactic
import Derived.Below
import Derived.WalkSmall
namespace Go.Proofs.Yteplnemegoffjaa.Sx
open Go.RowKit

def comp1 (g : List Int) (n : Int) : Int := if 0 ≤ n ∧ n < g.length then g.getD n.toNat 0 else -1
def compV (f g : List Int) : List Int := f.map (comp1 g)
def vals (l : List Int) : List Value := l.map fun x => Value.int .i64 x

/-- a row of numbers that can be read -/
def IR (w : World) (a : Option Addr) (l : List Int) : Prop :=
  l = [] ∨ ∃ b off, a = some ⟨b, off, none⟩ ∧ b < w.heap.size ∧ ∀ j x, l[j]? = some x → w.cell? ⟨b, off + j, none⟩ = some (.int .i64 x)
theorem IR.below {w w' : World} {a : Option Addr} {l : List Int} (h : IR w a l) (hb : Below w.heap.size w w') : IR w' a l := by
  rcases h with h | ⟨b, off, e, hlt, hc⟩
  · exact .inl h
  · exact .inr ⟨b, off, e, Nat.lt_of_lt_of_le hlt hb.size, fun j u hu => (hb.cell (p := ⟨b, off + j, none⟩) hlt).trans (hc j u hu)⟩
theorem IR.at {w : World} {b off : Nat} {l : List Int} (h : ∀ j x, l[j]? = some x → w.cell? ⟨b, off + j, none⟩ = some (.int .i64 x)) {k : Nat} (hk : k < l.length) : w.cell? ⟨b, off + k, none⟩ = some (.int .i64 l[k]) := h k _ (List.getElem?_eq_getElem hk)

set_option maxRecDepth 100000 in
set_option maxHeartbeats 1000000 in
theorem ints_same (w : World) (a b : Option Addr) (c c' : Nat) (l : List Int) (hl : l.length * 8 ≤ 140737488351232) (ha : IR w a l) (hb : IR w b l) :
    Calls Try.prog 6 #[.slice a l.length c, .slice b l.length c'] w fun e w' => e = .returned (.bool true) ∧ Below w.heap.size w w' := by
  by_cases h0 : l = []
  · subst h0
    go_enter Try.func6, Try.ntmps6
    go_wp2_with fail
    refine wp_loop_rounds 1 ?_
    rw [rounds_succ]
    go_wp2_with fail
    go_ret
    exact ⟨rfl, Below.refl _ _⟩
  · obtain ⟨b1, o1, rfl, ha1, ha2⟩ := ha.resolve_left h0
    obtain ⟨b2, o2, rfl, hb1, hb2⟩ := hb.resolve_left h0
    have HA : Hid (∀ j x, l[j]? = some x → w.cell? ⟨b1, o1 + j, none⟩ = some (.int .i64 x)) := ha2
    have HB : Hid (∀ j x, l[j]? = some x → w.cell? ⟨b2, o2 + j, none⟩ = some (.int .i64 x)) := hb2
    clear ha hb ha2 hb2
    go_enter Try.func6, Try.ntmps6
    go_wp2_with fail
    go_loopw [5] (fun i wr => ∃ k : Nat, k ≤ l.length ∧ i = .int .i64 k ∧ Below w.heap.size w wr) (fun i wr => l.length - (intOf i).toNat)
    case atStart => exact ⟨0, by omega, rfl, Below.refl _ _⟩
    case round =>
      obtain ⟨k, hk, rfl, hB⟩ := hrel
      by_cases hlt : k < l.length
      · have c1 := (hB.cell (p := ⟨b1, o1 + k, none⟩) ha1).trans (IR.at HA.out hlt)
        have c2 := (hB.cell (p := ⟨b2, o2 + k, none⟩) hb1).trans (IR.at HB.out hlt)
        generalize l[k] = x at c1 c2
        go_wp2_with fail
        go_quiet (fail)
        go_wp2_with fail
        go_roundw
        case rel => exact ⟨k + 1, by omega, by go_num, below_drewN hB _⟩
        case measure => simp [intOf]; omega
      · go_wp2_with fail
        go_ret
        exact ⟨rfl, hB⟩

end Go.Proofs.Yteplnemegoffjaa.Sx
