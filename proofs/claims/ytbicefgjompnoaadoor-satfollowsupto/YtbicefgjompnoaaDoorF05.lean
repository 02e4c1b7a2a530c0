/- Makes, Models: values that make clauses true, by the reference. -/
import Derived.Test.YtbicefgjompnoaaDoorF04
import Derived.Laws.BitsLemmas
import Derived.Deep.DeepCutAuto
namespace Go.Proofs.YtbicefgjompnoaaDoor.Sx
open Go.RowKit Go.Sort

structure BoolsAt (w : World) (lo : Nat) (v : Value) (l : List Bool) : Prop where
  ex : ∃ a cap, v = .slice a l.length cap ∧ (l = [] ∨ ∃ p : Addr, a = some p ∧ p.block < lo ∧ ∀ i x, l[i]? = some x → w.cell? (p.add i) = some (.bool x))
  big : l.length ≤ 1000000000000
theorem BoolsAt.of {w w' : World} {lo : Nat} {v : Value} {l : List Bool} (h : BoolsAt w lo v l) (f : Fr (· < lo) w w') : BoolsAt w' lo v l := by
  obtain ⟨a, cap, e, q⟩ := h.ex
  refine ⟨⟨a, cap, e, ?_⟩, h.big⟩
  rcases q with q | ⟨p, e1, e2, e3⟩
  · exact .inl q
  · refine .inr ⟨p, e1, e2, fun i x hx => ?_⟩
    have hb : (p.add i).block = p.block := by unfold Addr.add; split <;> rfl
    exact (World.cell?_of_block (w := w) (f.block _ (World.block_lt_of_cell? w _ (e3 i x hx)) (by rw [hb]; exact e2))).trans (e3 i x hx)
theorem BoolsAt.cell {w w' : World} {lo : Nat} {o : Option Addr} {k cap : Nat} {l : List Bool} (h : BoolsAt w lo (.slice o k cap) l) (f : Fr (fun _ => True) w w') {i : Nat} (hi : i < l.length) : ∃ p, o = some p ∧ w'.cell? (p.add i) = some (.bool l[i]) ∧ w'.drew.cell? (p.add i) = some (.bool l[i]) := by
  have h1 := h.of (f.mono fun _ _ => trivial)
  have h2 := h1.of (Fr.refl _ w').drew
  obtain ⟨a, c, e, q⟩ := h1.ex
  obtain ⟨a2, c2, e2, q2⟩ := h2.ex
  cases e
  cases e2
  rcases q with q | ⟨p, rfl, _, q⟩
  · rw [q] at hi; simp at hi
  rcases q2 with q2 | ⟨p2, e3, _, q2⟩
  · rw [q2] at hi; simp at hi
  cases e3
  exact ⟨p, rfl, q i _ (List.getElem?_eq_getElem hi), q2 i _ (List.getElem?_eq_getElem hi)⟩

/-- is a literal true with these values? -/
def litP (m : List Bool) (l : Int) : Bool := decide (0 < l.natAbs) && (decide (l.natAbs ≤ m.length) && (m.getD (l.natAbs - 1) false == decide (0 < l)))

set_option maxRecDepth 100000 in
set_option maxHeartbeats 1000000 in
theorem size_min (w : World) : Calls Tryd.prog 41 #[.int .i64 (-9223372036854775808)] w fun e w' => e = .returned (.int .i64 (-9223372036854775808)) ∧ w' = w := by
  have mo := follows
  go_enter Tryd.func41, Tryd.ntmps41
  go_wp2_with fail
  go_ret
  have e : wrap64 9223372036854775808 = -9223372036854775808 := by kernel_rfl
  exact ⟨by show Ending.returned (.int .i64 (wrap64 9223372036854775808)) = _; rw [e], rfl⟩

end Go.Proofs.YtbicefgjompnoaaDoor.Sx
/- The program: what is wrong with clauses. -/
namespace Go.Proofs.YtbicefgjompnoaaDoor.Sx
open Go.RowKit Go.Sort

set_option maxRecDepth 100000 in
set_option maxHeartbeats 1000000 in
theorem areLiterals_any (w : World) (n lo : Nat) (v : Value) (l : List Int) (hn : n ≤ 16777216) (h : IntsAt w lo v l) : Calls Tryd.prog 28 #[.int .i64 (n : Int), v] w fun e w' => e = .returned (.bool (l.all (isLit n))) ∧ w' = w := by
  have mo := follows
  obtain ⟨a, cc, rfl, hrow⟩ := h.ex
  have hbig := h.big
  have HR : Hid (l = [] ∨ ∃ p : Addr, a = some p ∧ p.block < lo ∧ ∀ i x, l[i]? = some x → w.cell? (p.add i) = some (.int .i64 x)) := hrow
  obtain ⟨R, hR⟩ : ∃ R, l.all (isLit n) = R := ⟨_, rfl⟩
  rw [hR]
  clear h hrow
  go_enter Tryd.func28, Tryd.ntmps28
  go_wp2_with fail
  go_loopg [9] (l.length) (fun k s9 wr => ∃ j : Nat, s9 = .int .i64 (j : Int) ∧ j + k = l.length ∧ wr = w ∧ Hid ((l.drop j).all (isLit n) = R))
  case atStart => exact ⟨0, rfl, by omega, rfl, hR⟩
  case round =>
    obtain ⟨j, rfl, hjk, rfl, HU⟩ := hrel
    by_cases hj : j < l.length
    · obtain ⟨k, rfl⟩ : ∃ k, gk = k + 1 := ⟨gk - 1, by omega⟩
      obtain ⟨x, hx⟩ : ∃ x, l[j] = x := ⟨_, rfl⟩
      obtain ⟨p, rfl, _, hp⟩ : ∃ p : Addr, a = some p ∧ p.block < lo ∧ ∀ i x, l[i]? = some x → wr.cell? (p.add i) = some (.int .i64 x) := by
        rcases HR.out with q | q
        · rw [q] at hj; simp at hj
        · exact q
      have cj := hp j x (by rw [List.getElem?_eq_getElem hj, hx])
      have hd : l.drop j = x :: l.drop (j + 1) := by rw [List.drop_eq_getElem_cons hj, hx]
      have j0 : (0 : Int) ≤ (j : Int) := by omega
      have j1 : (j : Int) < (l.length : Int) := by omega
      have hu := HU.out
      rw [hd, List.all_cons] at hu
      clear HU hp
      by_cases hb : LitN n x
      · rw [isLit_iff.2 hb, Bool.true_and] at hu
        have HQ : Hid ((l.drop (j + 1)).all (isLit n) = R) := hu
        unfold LitN at hb
        obtain ⟨b0, b1⟩ := hb
        have e0 : (x == 0) = false := by simpa using b0
        have e1 : ¬ x < -(n : Int) := by omega
        have e2 : ¬ (n : Int) < x := by omega
        clear hu hR
        go_wp2_with fail
        go_roundg k
        case measure => omega
        case rel => exact ⟨j + 1, by simp, by omega, rfl, HQ⟩
      · have hf : isLit n x = false := by
          cases h : isLit n x with
          | false => rfl
          | true => exact absurd (isLit_iff.1 h) hb
        rw [hf, Bool.false_and] at hu
        have HQ : Hid (false = R) := hu
        clear hu hR
        by_cases b0 : x = 0
        · subst b0
          go_wp2_with fail
          go_ret
          exact ⟨by rw [← HQ.out]; rfl, rfl⟩
        · have e0 : (x == 0) = false := by simpa using b0
          by_cases b1 : x < -(n : Int)
          · go_wp2_with fail
            go_ret
            exact ⟨by rw [← HQ.out]; rfl, rfl⟩
          · have b2 : (n : Int) < x := by unfold LitN at hb; omega
            go_wp2_with fail
            go_ret
            exact ⟨by rw [← HQ.out]; rfl, rfl⟩
    · have j1 : ¬ (j : Int) < (l.length : Int) := by omega
      obtain rfl : j = l.length := by omega
      have hu := HU.out
      rw [List.drop_length] at hu
      have HQ : Hid (true = R) := hu
      clear hu HU hR
      go_wp2_with fail
      go_ret
      exact ⟨by rw [← HQ.out]; rfl, rfl⟩

end Go.Proofs.YtbicefgjompnoaaDoor.Sx
/- The program: fault. -/
namespace Go.Proofs.YtbicefgjompnoaaDoor.Sx
open Go.RowKit Go.Sort

/-- an error's value -/
def errV (k : Nat) : Value := if k = 0 then .nilIface else .iface 58 (.int .i64 (k : Int))

set_option maxRecDepth 100000 in
set_option maxHeartbeats 1000000 in
theorem fault_any (w : World) (n : Int) (lo : Nat) (v : Value) (C : List (List Int)) (h : ClsAt w lo v C) : Calls Tryd.prog 13 #[.int .i64 n, v, .slice none 0 0] w fun e w' => e = .returned (errV (faultR n C)) ∧ w' = w := by
  have mo := follows
  obtain ⟨a, cc, rfl, hrow⟩ := h.ex
  have hbig := h.big
  have HR : Hid (C = [] ∨ ∃ p : Addr, a = some p ∧ p.block < lo ∧ ∀ i c, C[i]? = some c → ∃ u, w.cell? (p.add i) = some u ∧ IntsAt w lo u c) := hrow
  obtain ⟨R, hR⟩ : ∃ R, faultR n C = R := ⟨_, rfl⟩
  rw [hR]
  clear h hrow
  unfold faultR at hR
  by_cases h1 : n < 0
  · rw [if_pos (.inl h1)] at hR
    subst hR
    go_enter Tryd.func13, Tryd.ntmps13
    go_wp2_with fail
    go_ret
    exact ⟨rfl, rfl⟩
  by_cases h2 : 16777216 < n
  · rw [if_pos (.inr h2)] at hR
    subst hR
    go_enter Tryd.func13, Tryd.ntmps13
    go_wp2_with fail
    go_ret
    exact ⟨rfl, rfl⟩
  rw [if_neg (by omega)] at hR
  obtain ⟨N, rfl⟩ : ∃ N : Nat, n = (N : Int) := ⟨n.toNat, by omega⟩
  have hN : N ≤ 16777216 := by omega
  by_cases h3 : 33554432 < C.length
  · rw [if_pos h3] at hR
    subst hR
    have h4 : (33554432 : Int) < (C.length : Int) := by omega
    go_enter Tryd.func13, Tryd.ntmps13
    go_wp2_with fail
    go_ret
    exact ⟨rfl, rfl⟩
  rw [if_neg h3, Int.toNat_natCast] at hR
  have h4 : ¬ (33554432 : Int) < (C.length : Int) := by omega
  have HR0 : Hid ((if C.all (fun c => c.all (isLit N)) then 0 else 5) = R) := hR
  clear hR
  go_enter Tryd.func13, Tryd.ntmps13
  go_wp2_with fail
  go_loopg [22] (C.length) (fun k s22 wr => ∃ j : Nat, s22 = .int .i64 (j : Int) ∧ j + k = C.length ∧ wr = w ∧ Hid ((if (C.drop j).all (fun c => c.all (isLit N)) then 0 else 5) = R))
  case atStart => exact ⟨0, rfl, by omega, rfl, HR0⟩
  case round =>
    clear HR0
    obtain ⟨j, rfl, hjk, rfl, HU⟩ := hrel
    by_cases hj : j < C.length
    · obtain ⟨k, rfl⟩ : ∃ k, gk = k + 1 := ⟨gk - 1, by omega⟩
      obtain ⟨x, hx⟩ : ∃ x, C[j] = x := ⟨_, rfl⟩
      obtain ⟨p, rfl, _, hp⟩ : ∃ p : Addr, a = some p ∧ p.block < lo ∧ ∀ i c, C[i]? = some c → ∃ u, wr.cell? (p.add i) = some u ∧ IntsAt wr lo u c := by
        rcases HR.out with q | q
        · rw [q] at hj; simp at hj
        · exact q
      obtain ⟨u, cj, hui⟩ := hp j x (by rw [List.getElem?_eq_getElem hj, hx])
      have hd : C.drop j = x :: C.drop (j + 1) := by rw [List.drop_eq_getElem_cons hj, hx]
      have j0 : (0 : Int) ≤ (j : Int) := by omega
      have j1 : (j : Int) < (C.length : Int) := by omega
      have HL : Hid (Calls _ _ _ _ _) := areLiterals_any wr N lo u x hN hui
      have hu := HU.out
      rw [hd, List.all_cons] at hu
      cases hb : x.all (isLit N) with
      | true =>
        rw [hb] at HL hu
        rw [Bool.true_and] at hu
        have HQ : Hid ((if (C.drop (j + 1)).all (fun c => c.all (isLit N)) then 0 else 5) = R) := hu
        clear hu HU hp hui
        go_wp2_with (go_at_call 28; refine HL.out.mono ?_; rintro e w' ⟨rfl, hw⟩; replace hw := hw.symm; subst hw)
        go_roundg k
        case measure => omega
        case rel => exact ⟨j + 1, by simp, by omega, rfl, HQ⟩
      | false =>
        rw [hb] at HL hu
        rw [Bool.false_and] at hu
        have HQ : Hid (5 = R) := hu
        clear hu HU hp hui
        go_wp2_with (go_at_call 28; refine HL.out.mono ?_; rintro e w' ⟨rfl, hw⟩; replace hw := hw.symm; subst hw)
        go_ret
        exact ⟨by rw [← HQ.out]; rfl, rfl⟩
    · have j1 : ¬ (j : Int) < (C.length : Int) := by omega
      obtain rfl : j = C.length := by omega
      have hu := HU.out
      rw [List.drop_length] at hu
      have HQ : Hid (0 = R) := hu
      have HL : Hid (Calls _ _ _ _ _) := areLiterals_any wr N 0 (.slice none 0 0) [] hN ⟨⟨none, 0, rfl, .inl rfl⟩, by simp⟩
      clear hu HU
      go_wp2_with (go_at_call 28; refine HL.out.mono ?_; rintro e w' ⟨rfl, hw⟩; replace hw := hw.symm; subst hw)
      go_ret
      exact ⟨by rw [← HQ.out]; rfl, rfl⟩


end Go.Proofs.YtbicefgjompnoaaDoor.Sx
/- The program: literals as numbers. -/
namespace Go.Proofs.YtbicefgjompnoaaDoor.Sx
open Go.RowKit Go.Sort

/-- a literal's opposite -/
def opp (l : Nat) : Nat := if l % 2 = 0 then l + 1 else l - 1

theorem xor_one (l : Nat) : l ^^^ 1 = opp l := by
  have h1 := Nat.div_add_mod (l ^^^ 1) 2
  have h2 : (l ^^^ 1) / 2 = l / 2 ^^^ 1 / 2 := Nat.xor_div_two
  have h3 : (l ^^^ 1) % 2 = 1 ↔ ¬ (l % 2 = 1 ↔ 1 % 2 = 1) := Nat.xor_mod_two_eq_one
  have h4 : l / 2 ^^^ 1 / 2 = l / 2 := by simp
  rw [h4] at h2
  unfold opp
  split
  · have : (l ^^^ 1) % 2 = 1 := h3.2 (by omega)
    omega
  · have : ¬ (l ^^^ 1) % 2 = 1 := fun q => (h3.1 q) (by omega)
    omega
theorem bits_opp (l : Nat) (h : l < 1073741824) : bits .xor .i32 (l : Int) 1 = (opp l : Int) := by
  have ho : opp l < 1073741825 := by unfold opp; split <;> omega
  have h1 : (BitVec.ofInt 32 (l : Int)).toNat = l := by
    rw [BitVec.ofInt_natCast, BitVec.toNat_ofNat]; exact Nat.mod_eq_of_lt (by omega)
  have h2 : (BitVec.ofInt 32 (1 : Int)).toNat = 1 := by decide
  show IntKind.i32.wrap ((BitVec.ofInt 32 (l : Int) ^^^ BitVec.ofInt 32 (1 : Int)).toNat : Int) = _
  rw [BitVec.toNat_xor, h1, h2, xor_one]
  rw [IntKind.wrap_i32]
  omega

set_option maxRecDepth 100000 in
set_option maxHeartbeats 1000000 in
theorem opposite_any (w : World) (l : Nat) (h : l < 1073741824) : Calls Tryd.prog 33 #[.int .i32 (l : Int)] w fun e w' => e = .returned (.int .i32 (opp l : Int)) ∧ w' = w := by
  have mo := follows
  go_enter Tryd.func33, Tryd.ntmps33
  go_wp2_with fail
  go_ret
  exact ⟨by rw [← bits_opp l h]; rfl, rfl⟩

set_option maxRecDepth 100000 in
set_option maxHeartbeats 1000000 in
theorem place_any (w : World) (l : Nat) : Calls Tryd.prog 35 #[.int .i32 (l : Int)] w fun e w' => e = .returned (.int .i32 ((l / 2 : Nat) : Int)) ∧ w' = w := by
  have mo := follows
  go_enter Tryd.func35, Tryd.ntmps35
  go_wp2_with fail
  go_ret
  exact ⟨rfl, rfl⟩

end Go.Proofs.YtbicefgjompnoaaDoor.Sx
/- Places of variables (plain). -/
namespace Go.Proofs.YtbicefgjompnoaaDoor.Sx
open Go.RowKit Go.Sort

/-- one variable that is heard -/
def hear1 (s : List Nat × List Nat) (v : Nat) : List Nat × List Nat := if s.1.getD v 0 = 0 then (s.1.set v (s.2.length + 1), s.2 ++ [v]) else s
/-- a list of literals that is heard -/
def hearP (s : List Nat × List Nat) (l : List Int) : List Nat × List Nat := l.foldl (fun s x => hear1 s x.natAbs) s

/-- places (by variable: one more than its place) and variables (by place) go together -/
structure NmOK (n : Nat) (s : List Nat × List Nat) : Prop where
  len : s.1.length = n + 1
  back : ∀ v k, s.1.getD v 0 = k + 1 → s.2[k]? = some v
  there : ∀ k v, s.2[k]? = some v → s.1.getD v 0 = k + 1 ∧ v ≤ n ∧ 0 < v
theorem NmOK.nil (n : Nat) : NmOK n (List.replicate (n + 1) 0, []) := by
  refine ⟨by simp, fun v k h => ?_, fun k v h => by simp at h⟩
  have : (List.replicate (n + 1) 0).getD v 0 = 0 := by
    rw [List.getD_eq_getElem?_getD, List.getElem?_replicate]
    split <;> rfl
  rw [this] at h
  omega
theorem NmOK.hear1 {n : Nat} {s : List Nat × List Nat} (h : NmOK n s) {v : Nat} (hv : v ≤ n) (h0 : 0 < v) : NmOK n (hear1 s v) ∧ (Sx.hear1 s v).1.getD v 0 ≠ 0 ∧ ∀ u, s.1.getD u 0 ≠ 0 → (Sx.hear1 s v).1.getD u 0 = s.1.getD u 0 := by
  unfold Sx.hear1
  have hl := h.len
  split
  · rename_i hz
    have hs : ∀ u, (s.1.set v (s.2.length + 1)).getD u 0 = if u = v then s.2.length + 1 else s.1.getD u 0 := fun u => by
      rw [List.getD_eq_getElem?_getD, List.getD_eq_getElem?_getD, List.getElem?_set]
      by_cases e : v = u
      · subst e
        rw [if_pos rfl, if_pos (by omega), if_pos rfl]; rfl
      · rw [if_neg e, if_neg (Ne.symm e)]
    refine ⟨⟨by simp [hl], fun u k hk => ?_, fun k u hk => ?_⟩, ?_, fun u hu => ?_⟩
    · simp only at hk ⊢
      rw [hs] at hk
      split at hk
      · rename_i e
        subst e
        obtain rfl : k = s.2.length := by omega
        simp
      · have q := h.back u k hk
        have : k < s.2.length := (List.getElem?_eq_some_iff.1 q).1
        rw [List.getElem?_append_left this]
        exact q
    · simp only at hk ⊢
      rw [hs]
      by_cases hk2 : k < s.2.length
      · rw [List.getElem?_append_left hk2] at hk
        obtain ⟨q1, q2, q3⟩ := h.there k u hk
        rw [if_neg (fun e => by rw [e, hz] at q1; omega)]
        exact ⟨q1, q2, q3⟩
      · rw [List.getElem?_append_right (by omega)] at hk
        have : k - s.2.length < [v].length := (List.getElem?_eq_some_iff.1 hk).1
        simp at this
        obtain rfl : k = s.2.length := by omega
        simp at hk
        subst hk
        rw [if_pos rfl]
        exact ⟨rfl, hv, h0⟩
    · simp only
      rw [hs, if_pos rfl]
      omega
    · simp only
      rw [hs, if_neg (fun e => hu (by rw [e]; exact hz))]
  · rename_i hz
    exact ⟨h, hz, fun _ _ => rfl⟩
theorem hear_ok {n : Nat} (l : List Int) : ∀ {s : List Nat × List Nat}, NmOK n s → (∀ x ∈ l, LitN n x) → NmOK n (hearP s l) ∧ (∀ x ∈ l, (hearP s l).1.getD x.natAbs 0 ≠ 0) ∧ ∀ u, s.1.getD u 0 ≠ 0 → (hearP s l).1.getD u 0 = s.1.getD u 0 := by
  induction l with
  | nil => intro s h _; exact ⟨h, fun x hx => by simp at hx, fun _ _ => rfl⟩
  | cons x l ih =>
    intro s h hl
    have hx := hl x List.mem_cons_self
    unfold LitN at hx
    obtain ⟨h1, h2, h3⟩ := h.hear1 (v := x.natAbs) (by omega) (by omega)
    obtain ⟨g1, g2, g3⟩ := ih h1 (fun y hy => hl y (List.mem_cons_of_mem _ hy))
    have e : hearP s (x :: l) = hearP (hear1 s x.natAbs) l := rfl
    rw [e]
    refine ⟨g1, fun y hy => ?_, fun u hu => ?_⟩
    · rcases List.mem_cons.1 hy with hy | hy
      · rw [hy, g3 _ h2]; exact h2
      · exact g2 y hy
    · rw [g3 u (by rw [h3 u hu]; exact hu), h3 u hu]

end Go.Proofs.YtbicefgjompnoaaDoor.Sx
/- The program: hear. -/
namespace Go.Proofs.YtbicefgjompnoaaDoor.Sx
open Go.RowKit Go.Sort

theorem info21 : ∃ i0, Tryd.prog.info? 21 = some i0 ∧ i0.zero = some (.int .i32 0) ∧ i0.size = 1 ∧ i0.bytes = 4 := by
  have h : ((Tryd.prog.info? 21).map fun i => (i.zero, i.size, i.bytes)) = some (some (.int .i32 0), 1, 4) := by kernel_rfl
  cases hq : Tryd.prog.info? 21 with
  | none => rw [hq] at h; simp at h
  | some j => rw [hq] at h; simp at h; exact ⟨j, rfl, h.1, h.2.1, h.2.2⟩

def v32 (l : List Nat) : List Value := l.map fun x : Nat => Value.int .i32 (x : Int)
/-- names in memory: places at pb, the struct at fb, variables in a row of their own from base on -/
structure NmAt (w : World) (n pb fb base : Nat) (s : List Nat × List Nat) : Prop where
  ex : ∃ vv, w.heap[fb]? = some (.cells #[.slice (some ⟨pb, 0, none⟩) (n + 1) (n + 1), vv] 64 (0, 0)) ∧ w.ownsRow base 21 1 vv s.2.length (v32 s.2)
  pl : w.heap[pb]? = some (.cells (v32 s.1).toArray 21 (0, 0))
  ok : NmOK n s
  lt : pb < fb ∧ fb < base
  hb : base ≤ w.heap.size
theorem holes : ∀ (n : Nat) (l : List Nat), l.Nodup → (∀ x ∈ l, x < n) → l.length ≤ n := by
  intro n
  induction n with
  | zero =>
    intro l _ h
    cases l with
    | nil => exact Nat.le_refl _
    | cons x l => exact absurd (h x List.mem_cons_self) (by omega)
  | succ n ih =>
    intro l hd h
    have h1 := ih (l.erase n) (hd.erase n) (fun x hx => by
      have q := (hd.mem_erase_iff).1 hx
      have := h x q.2
      have := q.1
      omega)
    rw [List.length_erase] at h1
    split at h1 <;> omega
theorem NmOK.few {n : Nat} {s : List Nat × List Nat} (h : NmOK n s) : s.2.length ≤ n := by
  have hn : (s.2.map fun v => v - 1).Nodup := by
    rw [List.nodup_iff_pairwise_ne, List.pairwise_iff_getElem]
    intro i j hi hj hij e
    simp only [List.length_map] at hi hj
    simp only [List.getElem_map] at e
    have h1 := h.there i _ (List.getElem?_eq_getElem hi)
    have h2 := h.there j _ (List.getElem?_eq_getElem hj)
    have : s.2[i] = s.2[j] := by omega
    rw [this] at h1
    omega
  have hs : ∀ x ∈ (s.2.map fun v => v - 1), x < n := by
    intro x hx
    obtain ⟨v, hv, rfl⟩ := List.mem_map.1 hx
    obtain ⟨k, hk, e⟩ := List.getElem_of_mem hv
    have := h.there k v (by rw [List.getElem?_eq_getElem hk, e])
    omega
  have := holes n _ hn hs
  simpa using this

end Go.Proofs.YtbicefgjompnoaaDoor.Sx
/- The program: hear. -/
namespace Go.Proofs.YtbicefgjompnoaaDoor.Sx
open Go.RowKit Go.Sort

set_option maxRecDepth 100000 in
set_option maxHeartbeats 1000000 in
theorem hear_any (w : World) (n pb fb base lo : Nat) (s : List Nat × List Nat) (lv : Value) (l : List Int) (hn : n ≤ 16777216) (hlo : lo ≤ pb) (h : NmAt w n pb fb base s) (hl : IntsAt w lo lv l) (hL : ∀ x ∈ l, LitN n x) :
    Calls Tryd.prog 29 #[.pointer (some ⟨fb, 0, none⟩), lv] w fun e w' => e = .returned (.tuple #[]) ∧ NmAt w' n pb fb base (hearP s l) ∧ Fr (· < pb) w w' := by
  have mo := follows
  obtain ⟨i0_, hi0, hz0, hz1, hz2⟩ := info21
  obtain ⟨a, cc, rfl, _⟩ := hl.ex
  have hbig := hl.big
  have HI : Hid (IntsAt w lo (.slice a l.length cc) l) := hl
  have HL : Hid (∀ x ∈ l, LitN n x) := hL
  obtain ⟨R, hR⟩ : ∃ R, hearP s l = R := ⟨_, rfl⟩
  rw [hR]
  have HR0 : Hid (hearP s (l.drop 0) = R) := hR
  have N0 : Hid (NmAt w n pb fb base s) := h
  clear hl hL hR h
  go_enter Tryd.func29, Tryd.ntmps29
  go_wp2_with fail
  go_loopg [8] (l.length) (fun k s8 wr => ∃ (j : Nat) (t : List Nat × List Nat), s8 = .int .i64 (j : Int) ∧ j + k = l.length ∧ Hid (NmAt wr n pb fb base t) ∧ Hid (Fr (· < pb) w wr) ∧ Hid (hearP t (l.drop j) = R))
  case atStart => exact ⟨0, s, rfl, by omega, N0, Fr.refl _ _, HR0⟩
  case round =>
    clear N0 HR0
    obtain ⟨j, t, rfl, hjk, NA, F, HU⟩ := hrel
    by_cases hj : j < l.length
    · obtain ⟨k, rfl⟩ : ∃ k, gk = k + 1 := ⟨gk - 1, by omega⟩
      obtain ⟨x, hx⟩ : ∃ x, l[j] = x := ⟨_, rfl⟩
      obtain ⟨a', c', e', hrow⟩ := (HI.out.of (F.out.mono fun k hk => by show k < pb; omega)).ex
      cases e'
      obtain ⟨p, rfl, _, hp⟩ : ∃ p : Addr, a = some p ∧ p.block < lo ∧ ∀ i x, l[i]? = some x → wr.cell? (p.add i) = some (.int .i64 x) := by
        rcases hrow with q | q
        · rw [q] at hj; simp at hj
        · exact q
      have cj := hp j x (by rw [List.getElem?_eq_getElem hj, hx])
      have hd : l.drop j = x :: l.drop (j + 1) := by rw [List.drop_eq_getElem_cons hj, hx]
      have j0 : (0 : Int) ≤ (j : Int) := by omega
      have j1 : (j : Int) < (l.length : Int) := by omega
      have hxl := HL.out x (hx ▸ List.getElem_mem hj)
      unfold LitN at hxl
      obtain ⟨x0, x1, x2⟩ := hxl
      have hu := HU.out
      rw [hd] at hu
      have hu2 : hearP (hear1 t x.natAbs) (l.drop (j + 1)) = R := hu
      have HQ : Hid (hearP (hear1 t x.natAbs) (l.drop (j + 1)) = R) := hu2
      clear HU hrow hp hu hu2
      obtain ⟨vv, hblk, hown⟩ := NA.out.ex
      obtain ⟨va, vc, hvv⟩ : ∃ va vc, vv = .slice va t.2.length vc := by
        rcases hown.2 with ⟨e, hn⟩ | ⟨g', cap', cur, e, _⟩
        · exact ⟨none, 0, by rw [e, hn]⟩
        · exact ⟨_, _, e⟩
      subst hvv
      have c0 := block_cell hblk 0
      have c1 := block_cell hblk 1
      have z1 := frozen_block hblk 1
      have hlt := NA.out.lt
      obtain ⟨y, hxy⟩ : ∃ y : Nat, x.natAbs = y := ⟨_, rfl⟩
      rw [hxy] at HQ
      have hxs : x = (y : Int) ∨ x = -(y : Int) := by omega
      have hyn : y ≤ n := by omega
      have hyp : 0 < y := by omega
      clear hxy
      go_upto_region 3 with fail
      go_cut [5] (fun s5 wx => s5 = .int .i64 (y : Int) ∧ wr = wx)
      case first =>
        rcases hxs with rfl | rfl
        · have hm : max (y : Int) (-(y : Int)) = (y : Int) := by omega
          go_wp2_with fail
          go_meet
          case rel => exact ⟨by first | rfl | rw [hm], rfl⟩
        · have hm : max (-(y : Int)) (y : Int) = (y : Int) := by omega
          go_wp2_with fail
          go_meet
          case rel => exact ⟨by first | rfl | rw [hm] | simp [hm], rfl⟩
      case rest =>
        obtain ⟨rfl, rfl⟩ := hcut
        clear hxs cj x0 x1 x2
        have hy0 : 0 < y := hyp
        have y0 : (0 : Int) ≤ (y : Int) := by omega
        have y1 : (y : Int) < (n : Int) + 1 := by omega
        have yl : y < t.1.length := by rw [NA.out.ok.len]; omega
        obtain ⟨q, hq⟩ : ∃ q, t.1.getD y 0 = q := ⟨_, rfl⟩
        have cy : wr.cell? ⟨pb, y, none⟩ = some (.int .i32 (q : Int)) := by
          rw [block_cell NA.out.pl, ← hq, List.getD_eq_getElem?_getD, List.getElem?_eq_getElem yl]
          simp [v32, yl]
        cases q with
        | zero =>
          have eh : hear1 t y = (t.1.set y (t.2.length + 1), t.2 ++ [y]) := by unfold hear1; rw [if_pos hq]
          rw [eh] at HQ
          have HOA : Hid ((wr.alloc (.cells #[.int .i32 (y : Int)] 21)).ownsRow base 21 1 (.slice va t.2.length vc) t.2.length (v32 t.2)) := hown.alloc _
          have hfew := NA.out.ok.few
          have HB : Hid (wr.heap[fb]? = some (.cells #[.slice (some ⟨pb, 0, none⟩) (n + 1) (n + 1), .slice va t.2.length vc] 64 (0, 0))) := hblk
          clear hown hblk
          have hbz0 : base ≤ (wr.alloc (.cells #[.int .i32 (y : Int)] 21)).heap.size := by have := NA.out.hb; simp; omega
          have hone : ∀ u ∈ [Value.int .i32 (y : Int)], u.oneCell' = true := by
            intro u hu
            simp only [List.mem_cons, List.not_mem_nil, or_false] at hu
            rcases hu with rfl; rfl
          go_wp2_with (at_builtin; refine wpList_append_own_at _ rfl _ _ 50 rfl base 21 i0_ _ 1 4 Tryd.underlying50 hi0 hz0 hz1 hz2 rfl (by decide) (.slice va t.2.length vc) t.2.length _ rfl HOA.out ⟨wr.heap.size, 0, none⟩ 1 1 [.int .i32 (y : Int)] rfl rfl (World.news_of_block (heap_new rfl)) hone (by unfold maxLen; omega) (by omega) hbz0 ?_)
          intro v4 w4 ho4 hg4 _ _
          obtain ⟨v4a, v4c, hv4⟩ : ∃ a c, v4 = .slice a (t.2.length + 1) c := by
            rcases ho4.2 with ⟨e, hn⟩ | ⟨g', cap', cur, e, _⟩
            · omega
            · exact ⟨_, _, e⟩
          subst hv4
          have hbz := NA.out.hb
          have old : ∀ k, k < base → w4.heap[k]? = wr.heap[k]? := fun k hk => (hg4.block k (by simp; omega) (owns_block HOA.out hk)).trans (heap_alloc_old wr _ (by omega))
          have HB4 := (old fb (by omega)).trans HB.out
          have HP4 := (old pb (by omega)).trans NA.out.pl
          have HB5 : (w4.setCell ⟨fb, 1, none⟩ (.slice v4a (t.2.length + 1) v4c)).heap[fb]? = some (.cells #[.slice (some ⟨pb, 0, none⟩) (n + 1) (n + 1), .slice v4a (t.2.length + 1) v4c] 64 (0, 0)) := set_block HB4 1 _
          have HP5 : (w4.setCell ⟨fb, 1, none⟩ (.slice v4a (t.2.length + 1) v4c)).heap[pb]? = some (.cells (v32 t.1).toArray 21 (0, 0)) := (Below.heap_setCell w4 ⟨fb, 1, none⟩ _ pb (by show pb ≠ fb; omega)).trans HP4
          have d0 := block_cell HB5 0
          have d1 := block_cell HB5 1
          have d0d := block_cell (w := (w4.setCell ⟨fb, 1, none⟩ (.slice v4a (t.2.length + 1) v4c)).drew) HB5 0
          have d1d := block_cell (w := (w4.setCell ⟨fb, 1, none⟩ (.slice v4a (t.2.length + 1) v4c)).drew) HB5 1
          have zpd := frozen_block (w := (w4.setCell ⟨fb, 1, none⟩ (.slice v4a (t.2.length + 1) v4c)).drew) HP5 y
          have rpd := block_cell (w := (w4.setCell ⟨fb, 1, none⟩ (.slice v4a (t.2.length + 1) v4c)).drew) HP5 y
          have rp := block_cell HP5 y
          have ey : (v32 t.1).toArray[y]? = some (.int .i32 0) := by
            have e0 : t.1[y]? = some 0 := by
              rw [List.getElem?_eq_getElem yl]
              rw [List.getD_eq_getElem?_getD, List.getElem?_eq_getElem yl] at hq
              exact congrArg some hq
            simp [v32, e0]
          rw [ey] at rp rpd
          have zf := frozen_block HB4 1
          have c41 := block_cell HB4 1
          have c40 := block_cell HB4 0
          have zp := frozen_block HP5 y
          have hps : pb < w4.heap.size := block_lt HP4
          have hF4 : Fr (· < pb) w w4 := (F.out.trans ((Fr.refl _ wr).alloc _)).grown hg4 (fun k hk hq => owns_block HOA.out (by have : k < pb := hq; omega))
          have hN : NmAt ((w4.setCell ⟨fb, 1, none⟩ (.slice v4a (t.2.length + 1) v4c)).setCell ⟨pb, y, none⟩ (.int .i32 ((t.2.length : Int) + 1))) n pb fb base (t.1.set y (t.2.length + 1), t.2 ++ [y]) := by
            have hok := (NA.out.ok.hear1 hyn hy0).1
            rw [eh] at hok
            refine ⟨⟨.slice v4a (t.2.length + 1) v4c, ?_, ?_⟩, ?_, hok, hlt, ?_⟩
            · exact (Below.heap_setCell _ ⟨pb, y, none⟩ _ fb (by show fb ≠ pb; omega)).trans HB5
            · have e1 : (t.2 ++ [y]).length = t.2.length + 1 := by simp
              have e2 : v32 (t.2 ++ [y]) = v32 t.2 ++ [.int .i32 (y : Int)] := by simp [v32]
              show World.ownsRow _ base 21 1 _ (t.2 ++ [y]).length (v32 (t.2 ++ [y]))
              rw [e1, e2]
              refine ⟨ho4.1, ?_⟩
              rcases ho4.2 with q | ⟨g, cap, cur, e, hbg, hg, q⟩
              · exact .inl q
              · refine .inr ⟨g, cap, cur, e, hbg, ?_, q⟩
                rw [Below.heap_setCell _ ⟨pb, y, none⟩ _ g (by show g ≠ pb; omega), Below.heap_setCell _ ⟨fb, 1, none⟩ _ g (by show g ≠ fb; omega)]
                exact hg
            · have := set_block HP5 y (.int .i32 ((t.2.length : Int) + 1))
              rw [this]
              simp [v32, List.map_set]
            · have := hg4.size
              simp at this ⊢
              omega
          have N6 : Hid (NmAt ((w4.setCell ⟨fb, 1, none⟩ (.slice v4a (t.2.length + 1) v4c)).setCell ⟨pb, y, none⟩ (.int .i32 ((t.2.length : Int) + 1))).drew n pb fb base (t.1.set y (t.2.length + 1), t.2 ++ [y])) := ⟨hN.ex, hN.pl, hN.ok, hN.lt, hN.hb⟩
          have F6 : Hid (Fr (· < pb) w ((w4.setCell ⟨fb, 1, none⟩ (.slice v4a (t.2.length + 1) v4c)).setCell ⟨pb, y, none⟩ (.int .i32 ((t.2.length : Int) + 1))).drew) := Fr.drew <| (hF4.set (p := ⟨fb, 1, none⟩) (by show ¬ fb < pb; omega) _).set (p := ⟨pb, y, none⟩) (by show ¬ pb < pb; omega) _
          clear hN hF4 old HB4 HP4 HB5 HP5 ho4 hg4 HB NA F c0 c1 z1
          go_wp2_with fail
          go_big_region_o
          go_wp2_with fail
          go_roundg k
          case measure => omega
          case rel => exact ⟨j + 1, _, by simp, by omega, N6, F6, HQ⟩
        | succ q =>
          have eh : hear1 t y = t := by unfold hear1; rw [if_neg (by omega)]
          rw [eh] at HQ
          have e1 : (((q + 1 : Nat) : Int) == 0) = false := by rw [beq_eq_false_iff_ne]; omega
          have e2 : ((q : Int) + 1 == 0) = false := by rw [beq_eq_false_iff_ne]; omega
          clear hown hblk
          go_wp2_with fail
          go_roundg k
          case measure => omega
          case rel => exact ⟨j + 1, t, by simp, by omega, NA, F, HQ⟩
    · have j1 : ¬ (j : Int) < (l.length : Int) := by omega
      obtain rfl : j = l.length := by omega
      have hu := HU.out
      rw [List.drop_length] at hu
      have HQ : Hid (t = R) := hu
      clear hu HU
      go_wp2_with fail
      go_end0
      exact ⟨rfl, by rw [← HQ.out]; exact NA.out, F.out⟩

end Go.Proofs.YtbicefgjompnoaaDoor.Sx
