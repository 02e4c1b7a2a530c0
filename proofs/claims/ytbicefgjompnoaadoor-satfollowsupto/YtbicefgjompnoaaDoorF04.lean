/- Checked, by the reference: the lines one by one. -/
import Derived.Test.YtbicefgjompnoaaDoorF03
namespace Go.Proofs.YtbicefgjompnoaaDoor.Sx
open Go.RowKit Go.Sort

theorem goneP_mem {c x : List Int} {L : List (List Int)} (h : x ∈ goneP c L) : x ∈ L := by
  induction L with
  | nil => exact h
  | cons y L ih =>
    unfold goneP at h
    split at h
    · exact List.mem_cons_of_mem _ h
    · rcases List.mem_cons.1 h with h | h
      · rw [h]; exact List.mem_cons_self
      · exact List.mem_cons_of_mem _ (ih h)

def ChPost (w : World) (r : Bool) (e : Ending) (w' : World) : Prop := e = .returned (.bool r) ∧ Fr (fun _ => True) w w'

theorem owns_block {w : World} {base e size n : Nat} {v : Value} {xs : List Value} (h : w.ownsRow base e size v n xs) {k : Nat} (hk : k < base) : some k ≠ v.ownBlock := by
  rcases h.2 with ⟨rfl, _⟩ | ⟨g, cap, cur, rfl, hb, _⟩
  · simp [Value.ownBlock]
  · intro q; simp [Value.ownBlock] at q; omega

theorem Fr.grown {P : Nat → Prop} {a b c : World} {row : Option Nat} (h : Fr P a b) (g : b.grownBy c row) (hr : ∀ k, k < a.heap.size → P k → some k ≠ row) : Fr P a c :=
  ⟨g.os.trans h.os, g.tape.trans h.tape, g.output.trans h.output, Nat.le_trans h.size g.size, fun k hk hp => (g.block k (Nat.lt_of_lt_of_le hk h.size) (hr k hk hp)).trans (h.block k hk hp)⟩

theorem len_zero (c : List Int) : (((c.length : Nat) : Int) == 0) = decide (c.length = 0) := by
  by_cases h : c.length = 0
  · rw [h]; rfl
  · rw [decide_eq_false h, beq_eq_false_iff_ne]
    omega

theorem at_append {P : Program} (w : World) {ops : Array Oper} {rest : List Oper} {o : Oper} {a : Act} {Q : Exit → Act → World → Prop} (hgd : o.guard = none) (s x : Operand) (t : TypeId)
    (ho : o.op = .call { callee := .builtin .append, args := #[s, x], argTypes := #[t, t] }) (v u v1 : Value) (w1 : World) (hs : a.eval s = v) (hx : a.eval x = u) (hr : (Builtin.append_ #[t, t] o.type #[v, u]).run P w = .ok v1 w1)
    (h : wpList P ops Q rest (a.put o.dst v1) w1) : wpList P ops Q (o :: rest) a w := by
  refine wpList_plain hgd fun K hK => ?_
  unfold Oper.wp execOp
  simp only [ho, resolve, invoke, builtin, Sem.run_bind, Sem.run_pure, Result.andThen_ok, List.map_toArray, List.map_cons, List.map_nil, hs, hx, hr]
  exact hK _ _ h

theorem onto_nil (w : World) (lo : Nat) (ca : Option Addr) (cc : Nat) (C : List (List Int)) (hlo : lo ≤ w.heap.size) (hcl : C.length ≤ 33554432) (h : ClsAt w lo (.slice ca C.length cc) C) :
    ∃ v1 w1, (Builtin.append_ #[22, 22] 22 #[.slice none 0 0, .slice ca C.length cc]).run Tryd.prog w = .ok v1 w1 ∧ OwnC w1 w.heap.size lo v1 C ∧ Fr (fun _ => True) w w1 := by
  obtain ⟨i0, hi0, hz0, hz1, hz2⟩ := info31
  by_cases hne : C = []
  · subst hne
    cases ca with
    | none =>
      refine ⟨.slice none 0 0, w, ?_, ⟨⟨[], World.ownsRow_nil _ _ _ _, ClsV.nil _ _⟩, hlo, by simp⟩, Fr.refl _ _⟩
      simp [Builtin.append_, run_underlying Tryd.underlying22, sizeOf, typeInfo, hi0, Builtin.lenOf, Builtin.firstCells]
    | some p =>
      obtain ⟨v1, w1, h1, h2, h3, _, _⟩ := run_append_own_at (P := Tryd.prog) w w.heap.size 22 22 23 i0 _ 1 24 Tryd.underlying22 hi0 hz0 hz1 hz2 rfl (by decide) (.slice none 0 0) 0 [] (World.ownsRow_nil _ _ _ _) p 0 cc [] rfl (by simp) (by simp) (by unfold maxLen; omega) (by omega) (Nat.le_refl _)
      exact ⟨v1, w1, h1, ⟨⟨[], h2, ClsV.nil _ _⟩, hlo, by simp⟩, ⟨h3.os, h3.tape, h3.output, h3.size, fun k hk _ => h3.block k hk (by simp [Value.ownBlock])⟩⟩
  · obtain ⟨p, vs, rfl, hcv, hcell⟩ := h.vals hne
    obtain ⟨v1, w1, h1, h2, h3, _, _⟩ := run_append_own_at (P := Tryd.prog) w w.heap.size 22 22 23 i0 _ 1 24 Tryd.underlying22 hi0 hz0 hz1 hz2 rfl (by decide) (.slice none 0 0) 0 [] (World.ownsRow_nil _ _ _ _) p C.length cc vs (by rw [hcv.len]; omega) hcell hcv.one (by unfold maxLen; omega) (by omega) (Nat.le_refl _)
    have f : Fr (fun _ => True) w w1 := ⟨h3.os, h3.tape, h3.output, h3.size, fun k hk _ => h3.block k hk (by simp [Value.ownBlock])⟩
    refine ⟨v1, w1, h1, ⟨⟨vs, ?_, hcv.of (f.mono fun _ _ => trivial)⟩, hlo, by omega⟩, f⟩
    simpa using h2

end Go.Proofs.YtbicefgjompnoaaDoor.Sx
