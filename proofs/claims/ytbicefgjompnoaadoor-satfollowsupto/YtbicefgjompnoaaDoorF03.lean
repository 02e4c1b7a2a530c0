/- Literals, on both sides; faults. -/
import Derived.Test.YtbicefgjompnoaaDoorF02
import Derived.Deep.AppendLies
namespace Go.Proofs.YtbicefgjompnoaaDoor.Sx
open Go.RowKit Go.Sort

def isLit (n : Nat) (l : Int) : Bool := decide (l ≠ 0) && (decide (-(n : Int) ≤ l) && decide (l ≤ n))
theorem isLit_iff {n : Nat} {l : Int} : isLit n l = true ↔ LitN n l := by simp [isLit, LitN]

set_option maxRecDepth 100000 in
set_option maxHeartbeats 1000000 in
theorem Literal_any (w : World) (n : Nat) (l : Int) (hn : n ≤ 16777216) : Calls Tryd.prog 24 #[.int .i64 (n : Int), .int .i64 l] w fun e w' => e = .returned (.bool (isLit n l)) ∧ w' = w := by
  have mo := follows
  by_cases h0 : l = 0
  · subst h0
    have e : isLit n 0 = false := by simp [isLit]
    rw [e]
    go_enter Tryd.func24, Tryd.ntmps24
    go_wp2_with fail
    go_ret
    exact ⟨rfl, rfl⟩
  · have h1 : (l != 0) = true := by simpa using h0
    by_cases h2 : -(n : Int) ≤ l
    · obtain ⟨b, hb⟩ : ∃ b, decide (l ≤ (n : Int)) = b := ⟨_, rfl⟩
      have e : isLit n l = b := by simp only [isLit, hb, decide_eq_true h0, decide_eq_true h2, Bool.true_and]
      rw [e]
      go_enter Tryd.func24, Tryd.ntmps24
      go_wp2_with fail
      go_ret
      exact ⟨rfl, rfl⟩
    · have e : isLit n l = false := by simp only [isLit, decide_eq_false h2, Bool.false_and, Bool.and_false]
      rw [e]
      go_enter Tryd.func24, Tryd.ntmps24
      go_wp2_with fail
      go_ret
      exact ⟨rfl, rfl⟩

set_option maxRecDepth 100000 in
set_option maxHeartbeats 1000000 in
theorem literals_any (w : World) (n lo : Nat) (v : Value) (l : List Int) (hn : n ≤ 16777216) (h : IntsAt w lo v l) : Calls Tryd.prog 23 #[.int .i64 (n : Int), v] w fun e w' => e = .returned (.bool (l.all (isLit n))) ∧ w' = w := by
  have mo := follows
  obtain ⟨a, cc, rfl, hrow⟩ := h.ex
  have hbig := h.big
  have HR : Hid (l = [] ∨ ∃ p : Addr, a = some p ∧ p.block < lo ∧ ∀ i x, l[i]? = some x → w.cell? (p.add i) = some (.int .i64 x)) := hrow
  obtain ⟨R, hR⟩ : ∃ R, l.all (isLit n) = R := ⟨_, rfl⟩
  rw [hR]
  clear h hrow
  go_enter Tryd.func23, Tryd.ntmps23
  go_wp2_with fail
  go_loopg [5] (l.length) (fun k s5 wr => ∃ j : Nat, s5 = .int .i64 (j : Int) ∧ j + k = l.length ∧ wr = w ∧ Hid ((l.drop j).all (isLit n) = R))
  case atStart => exact ⟨0, rfl, by omega, rfl, hR⟩
  case round =>
    obtain ⟨j, rfl, hjk, rfl, HU⟩ := hrel
    by_cases hj : j < l.length
    · obtain ⟨k, rfl⟩ : ∃ k, gk = k + 1 := ⟨gk - 1, by omega⟩
      obtain ⟨x, hx⟩ : ∃ x, l[j] = x := ⟨_, rfl⟩
      obtain ⟨p, rfl, _, hp⟩ : ∃ p : Addr, a = some p ∧ p.block < lo ∧ ∀ i x, l[i]? = some x → wr.cell? (p.add i) = some (.int .i64 x) := by
        rcases HR.out with q | q
        · rw [q] at hj; simp at hj
        · exact q
      have cj := hp j x (by rw [List.getElem?_eq_getElem hj, hx])
      have hd : l.drop j = x :: l.drop (j + 1) := by rw [List.drop_eq_getElem_cons hj, hx]
      have j0 : (0 : Int) ≤ (j : Int) := by omega
      have j1 : (j : Int) < (l.length : Int) := by omega
      have HL : Hid (Calls _ _ _ _ _) := Literal_any wr n x hn
      have hu := HU.out
      rw [hd, List.all_cons] at hu
      cases hb : isLit n x with
      | true =>
        rw [hb] at HL hu
        have hq : (l.drop (j + 1)).all (isLit n) = R := by simpa using hu
        have HQ : Hid ((l.drop (j + 1)).all (isLit n) = R) := hq
        clear hq
        clear hu HU hp
        go_wp2_with (go_at_call 24; refine HL.out.mono ?_; rintro e w' ⟨rfl, hw⟩; replace hw := hw.symm; subst hw)
        go_roundg k
        case measure => omega
        case rel => exact ⟨j + 1, by simp, by omega, rfl, HQ⟩
      | false =>
        rw [hb] at HL hu
        have hq : R = false := by simpa using hu.symm
        have HQ : Hid (R = false) := hq
        clear hq
        clear hu HU hp
        go_wp2_with (go_at_call 24; refine HL.out.mono ?_; rintro e w' ⟨rfl, hw⟩; replace hw := hw.symm; subst hw)
        go_ret
        exact ⟨by rw [HQ.out]; rfl, rfl⟩
    · have j1 : ¬ (j : Int) < (l.length : Int) := by omega
      obtain rfl : j = l.length := by omega
      have hu := HU.out
      rw [List.drop_length] at hu
      have hq : R = true := by simpa using hu.symm
      have HQ : Hid (R = true) := hq
      clear hq
      clear hu HU
      go_wp2_with fail
      go_ret
      exact ⟨by rw [HQ.out]; rfl, rfl⟩

end Go.Proofs.YtbicefgjompnoaaDoor.Sx
/- Faults of clauses, by the reference. -/
namespace Go.Proofs.YtbicefgjompnoaaDoor.Sx
open Go.RowKit Go.Sort

/-- the fault of n and of clauses -/
def faultR (n : Int) (C : List (List Int)) : Nat := if n < 0 ∨ 16777216 < n then 5 else if 33554432 < C.length then 6 else if C.all (fun c => c.all (isLit n.toNat)) then 0 else 5

set_option maxRecDepth 100000 in
set_option maxHeartbeats 1000000 in
theorem Fault_any (w : World) (n : Int) (lo : Nat) (v : Value) (C : List (List Int)) (h : ClsAt w lo v C) : Calls Tryd.prog 6 #[.int .i64 n, v] w fun e w' => e = .returned (.int .i64 (faultR n C : Int)) ∧ w' = w := by
  have mo := follows
  obtain ⟨a, cc, rfl, hrow⟩ := h.ex
  have hbig := h.big
  have HR : Hid (C = [] ∨ ∃ p : Addr, a = some p ∧ p.block < lo ∧ ∀ i c, C[i]? = some c → ∃ u, w.cell? (p.add i) = some u ∧ IntsAt w lo u c) := hrow
  obtain ⟨R, hR⟩ : ∃ R, faultR n C = R := ⟨_, rfl⟩
  rw [hR]
  clear h hrow
  unfold faultR at hR
  by_cases h1 : n < 0
  · rw [if_pos (.inl h1)] at hR
    subst hR
    go_enter Tryd.func6, Tryd.ntmps6
    go_wp2_with fail
    go_ret
    exact ⟨rfl, rfl⟩
  by_cases h2 : 16777216 < n
  · rw [if_pos (.inr h2)] at hR
    subst hR
    go_enter Tryd.func6, Tryd.ntmps6
    go_wp2_with fail
    go_ret
    exact ⟨rfl, rfl⟩
  rw [if_neg (by omega)] at hR
  obtain ⟨N, rfl⟩ : ∃ N : Nat, n = (N : Int) := ⟨n.toNat, by omega⟩
  have hN : N ≤ 16777216 := by omega
  by_cases h3 : 33554432 < C.length
  · rw [if_pos h3] at hR
    subst hR
    have h4 : (33554432 : Int) < (C.length : Int) := by omega
    go_enter Tryd.func6, Tryd.ntmps6
    go_wp2_with fail
    go_ret
    exact ⟨rfl, rfl⟩
  rw [if_neg h3, Int.toNat_natCast] at hR
  have h4 : ¬ (33554432 : Int) < (C.length : Int) := by omega
  have HR0 : Hid ((if C.all (fun c => c.all (isLit N)) then 0 else 5) = R) := hR
  clear hR
  go_enter Tryd.func6, Tryd.ntmps6
  go_wp2_with fail
  go_loopg [5] (C.length) (fun k s5 wr => ∃ j : Nat, s5 = .int .i64 (j : Int) ∧ j + k = C.length ∧ wr = w ∧ Hid ((if (C.drop j).all (fun c => c.all (isLit N)) then 0 else 5) = R))
  case atStart => exact ⟨0, rfl, by omega, rfl, HR0⟩
  case round =>
    clear HR0
    obtain ⟨j, rfl, hjk, rfl, HU⟩ := hrel
    by_cases hj : j < C.length
    · obtain ⟨k, rfl⟩ : ∃ k, gk = k + 1 := ⟨gk - 1, by omega⟩
      obtain ⟨x, hx⟩ : ∃ x, C[j] = x := ⟨_, rfl⟩
      obtain ⟨p, rfl, _, hp⟩ : ∃ p : Addr, a = some p ∧ p.block < lo ∧ ∀ i c, C[i]? = some c → ∃ u, wr.cell? (p.add i) = some u ∧ IntsAt wr lo u c := by
        rcases HR.out with q | q
        · rw [q] at hj; simp at hj
        · exact q
      obtain ⟨u, cj, hui⟩ := hp j x (by rw [List.getElem?_eq_getElem hj, hx])
      have hd : C.drop j = x :: C.drop (j + 1) := by rw [List.drop_eq_getElem_cons hj, hx]
      have j0 : (0 : Int) ≤ (j : Int) := by omega
      have j1 : (j : Int) < (C.length : Int) := by omega
      have HL : Hid (Calls _ _ _ _ _) := literals_any wr N lo u x hN hui
      have hu := HU.out
      rw [hd, List.all_cons] at hu
      cases hb : x.all (isLit N) with
      | true =>
        rw [hb] at HL hu
        rw [Bool.true_and] at hu
        have HQ : Hid ((if (C.drop (j + 1)).all (fun c => c.all (isLit N)) then 0 else 5) = R) := hu
        clear hu HU hp hui
        go_wp2_with (go_at_call 23; refine HL.out.mono ?_; rintro e w' ⟨rfl, hw⟩; replace hw := hw.symm; subst hw)
        go_roundg k
        case measure => omega
        case rel => exact ⟨j + 1, by simp, by omega, rfl, HQ⟩
      | false =>
        rw [hb] at HL hu
        rw [Bool.false_and] at hu
        have HQ : Hid (5 = R) := hu
        clear hu HU hp hui
        go_wp2_with (go_at_call 23; refine HL.out.mono ?_; rintro e w' ⟨rfl, hw⟩; replace hw := hw.symm; subst hw)
        go_ret
        exact ⟨by rw [← HQ.out]; rfl, rfl⟩
    · have j1 : ¬ (j : Int) < (C.length : Int) := by omega
      obtain rfl : j = C.length := by omega
      have hu := HU.out
      rw [List.drop_length] at hu
      have HQ : Hid (0 = R) := hu
      clear hu HU
      go_wp2_with fail
      go_ret
      exact ⟨by rw [← HQ.out]; rfl, rfl⟩

end Go.Proofs.YtbicefgjompnoaaDoor.Sx
/- Clauses that have the same literals. -/
namespace Go.Proofs.YtbicefgjompnoaaDoor.Sx
open Go.RowKit Go.Sort

def wthn (a b : List Int) : Bool := a.all (fun x => b.any (fun y => x == y))
def alk (a b : List Int) : Bool := wthn a b && wthn b a
theorem wthn_iff {a b : List Int} : wthn a b = true ↔ ∀ x ∈ a, x ∈ b := by
  unfold wthn
  rw [List.all_eq_true]
  constructor
  · intro h x hx
    obtain ⟨y, hy, e⟩ := List.any_eq_true.1 (h x hx)
    rw [eq_of_beq e]
    exact hy
  · intro h x hx
    exact List.any_eq_true.2 ⟨x, h x hx, by simp⟩
theorem alk_iff {a b : List Int} : alk a b = true ↔ ∀ x, x ∈ a ↔ x ∈ b := by
  unfold alk
  rw [Bool.and_eq_true, wthn_iff, wthn_iff]
  exact ⟨fun h x => ⟨h.1 x, h.2 x⟩, fun h => ⟨fun x hx => (h x).1 hx, fun x hx => (h x).2 hx⟩⟩

theorem IntsAt.cell {w w' : World} {lo : Nat} {o : Option Addr} {k cap : Nat} {l : List Int} (h : IntsAt w lo (.slice o k cap) l) (f : Fr (fun _ => True) w w') {i : Nat} (hi : i < l.length) : ∃ p, o = some p ∧ w'.cell? (p.add i) = some (.int .i64 l[i]) ∧ w'.drew.cell? (p.add i) = some (.int .i64 l[i]) := by
  have h1 := h.of (f.mono fun _ _ => trivial)
  have h2 := h1.of (Fr.refl _ w').drew
  obtain ⟨a, c, e, q⟩ := h1.ex
  obtain ⟨a2, c2, e2, q2⟩ := h2.ex
  cases e
  cases e2
  rcases q with q | ⟨p, rfl, _, q⟩
  · rw [q] at hi; simp at hi
  rcases q2 with q2 | ⟨p2, e3, _, q2⟩
  · rw [q2] at hi; simp at hi
  cases e3
  exact ⟨p, rfl, q i _ (List.getElem?_eq_getElem hi), q2 i _ (List.getElem?_eq_getElem hi)⟩

end Go.Proofs.YtbicefgjompnoaaDoor.Sx
/- A list of clauses that a call owns; one that goes. -/
namespace Go.Proofs.YtbicefgjompnoaaDoor.Sx
open Go.RowKit Go.Sort

theorem info31 : ∃ i0, Tryd.prog.info? 23 = some i0 ∧ i0.zero = some (.slice none 0 0) ∧ i0.size = 1 ∧ i0.bytes = 24 := by
  have h : ((Tryd.prog.info? 23).map fun i => (i.zero, i.size, i.bytes)) = some (some (.slice none 0 0), 1, 24) := by kernel_rfl
  cases hq : Tryd.prog.info? 23 with
  | none => rw [hq] at h; simp at h
  | some j => rw [hq] at h; simp at h; exact ⟨j, rfl, h.1, h.2.1, h.2.2⟩

/-- clauses one by one -/
structure ClsV (w : World) (lo : Nat) (vs : List Value) (C : List (List Int)) : Prop where
  len : vs.length = C.length
  at_ : ∀ (i : Nat) c, C[i]? = some c → ∃ u, vs[i]? = some u ∧ IntsAt w lo u c
theorem ClsV.of {w w' : World} {lo : Nat} {vs : List Value} {C : List (List Int)} (h : ClsV w lo vs C) (f : Fr (· < lo) w w') : ClsV w' lo vs C :=
  ⟨h.len, fun i c hc => by obtain ⟨u, hu, q⟩ := h.at_ i c hc; exact ⟨u, hu, q.of f⟩⟩
theorem ClsV.nil (w : World) (lo : Nat) : ClsV w lo [] [] := ⟨rfl, fun i c h => by simp at h⟩
theorem ClsV.app {w : World} {lo : Nat} {vs us : List Value} {C D : List (List Int)} (h : ClsV w lo vs C) (k : ClsV w lo us D) : ClsV w lo (vs ++ us) (C ++ D) := by
  refine ⟨by simp [h.len, k.len], fun i c hc => ?_⟩
  by_cases hi : i < C.length
  · rw [List.getElem?_append_left hi] at hc
    rw [List.getElem?_append_left (by rw [h.len]; exact hi)]
    exact h.at_ i c hc
  · rw [List.getElem?_append_right (by omega)] at hc
    rw [List.getElem?_append_right (by rw [h.len]; omega), h.len]
    exact k.at_ _ c hc
theorem ClsV.take {w : World} {lo : Nat} {vs : List Value} {C : List (List Int)} (h : ClsV w lo vs C) (k : Nat) : ClsV w lo (vs.take k) (C.take k) := by
  refine ⟨by simp [h.len], fun i c hc => ?_⟩
  rw [List.getElem?_take] at hc ⊢
  split at hc
  · rename_i hq; rw [if_pos hq]; exact h.at_ i c hc
  · simp at hc
theorem ClsV.drop {w : World} {lo : Nat} {vs : List Value} {C : List (List Int)} (h : ClsV w lo vs C) (k : Nat) : ClsV w lo (vs.drop k) (C.drop k) := by
  refine ⟨by simp [h.len], fun i c hc => ?_⟩
  rw [List.getElem?_drop] at hc ⊢
  exact h.at_ _ c hc
theorem ClsV.one {w : World} {lo : Nat} {vs : List Value} {C : List (List Int)} (h : ClsV w lo vs C) : ∀ u ∈ vs, u.oneCell' = true := by
  intro u hu
  obtain ⟨i, hi, e⟩ := List.getElem_of_mem hu
  have hi2 : i < C.length := by rw [← h.len]; exact hi
  obtain ⟨u', h1, h2⟩ := h.at_ i _ (List.getElem?_eq_getElem hi2)
  rw [List.getElem?_eq_getElem hi, e] at h1
  cases h1
  obtain ⟨a, c, rfl, _⟩ := h2.ex
  rfl

/-- a list of clauses in a row of the call's own; the clauses lie below lo -/
structure OwnC (w : World) (base lo : Nat) (v : Value) (C : List (List Int)) : Prop where
  ex : ∃ vs, w.ownsRow base 23 1 v C.length vs ∧ ClsV w lo vs C
  lob : lo ≤ base
  big : C.length ≤ 100000000000

theorem OwnC.form {w : World} {base lo : Nat} {v : Value} {C : List (List Int)} (h : OwnC w base lo v C) : ∃ a cap, v = .slice a C.length cap := by
  obtain ⟨vs, ho, _⟩ := h.ex
  rcases ho.2 with ⟨e, hn⟩ | ⟨g', cap', cur, e, _⟩
  · exact ⟨none, 0, by rw [e, hn]⟩
  · exact ⟨_, _, e⟩
theorem Fr.owns {w w' : World} {base e size n : Nat} {v : Value} {xs : List Value} (f : Fr (fun _ => True) w w') (h : w.ownsRow base e size v n xs) : w'.ownsRow base e size v n xs := by
  refine ⟨h.1, ?_⟩
  rcases h.2 with q | ⟨g, cap, cur, e, hb, hg, q⟩
  · exact .inl q
  · exact .inr ⟨g, cap, cur, e, hb, (f.block g (block_lt hg) trivial).trans hg, q⟩
theorem OwnC.of {w w' : World} {base lo : Nat} {v : Value} {C : List (List Int)} (h : OwnC w base lo v C) (f : Fr (fun _ => True) w w') : OwnC w' base lo v C := by
  obtain ⟨vs, ho, hc⟩ := h.ex
  exact ⟨⟨vs, f.owns ho, hc.of (f.mono fun _ _ => trivial)⟩, h.lob, h.big⟩
theorem owns_cells {w : World} {base : Nat} {g n cap : Nat} {vs : List Value} (h : w.ownsRow base 23 1 (.slice (some ⟨g, 0, none⟩) n cap) n vs) {i : Nat} {u : Value} (hu : vs[i]? = some u) : w.cell? ⟨g, i, none⟩ = some u := by
  rcases h.2 with ⟨e, _⟩ | ⟨g', cap', cur, e, hb, hg, _, _, hcs, ht⟩
  · cases e
  · cases e
    rw [block_cell hg]
    rw [← ht, List.getElem?_take] at hu
    split at hu
    · simpa using hu
    · simp at hu
theorem OwnC.cls {w : World} {base lo : Nat} {v : Value} {C : List (List Int)} (h : OwnC w base lo v C) (hb : base ≤ w.heap.size) : ClsAt w w.heap.size v C := by
  obtain ⟨vs, ho, hc⟩ := h.ex
  have hlob := h.lob
  have hbig := h.big
  rcases ho.2 with ⟨e, hn⟩ | ⟨g, cap, cur, rfl, hbg, hg, _⟩
  · exact ⟨⟨none, 0, by rw [e, hn], .inl (List.eq_nil_of_length_eq_zero hn)⟩, by omega⟩
  · refine ⟨⟨_, _, rfl, .inr ⟨_, rfl, block_lt hg, fun i c hi => ?_⟩⟩, by omega⟩
    obtain ⟨u, hu, q⟩ := hc.at_ i c hi
    refine ⟨u, ?_, ?_⟩
    · have hadd : (⟨g, 0, none⟩ : Addr).add i = ⟨g, i, none⟩ := by unfold Addr.add; split <;> simp_all
      rw [hadd]
      exact owns_cells ho hu
    · obtain ⟨a, c2, e, q2⟩ := q.ex
      refine ⟨⟨a, c2, e, ?_⟩, q.big⟩
      rcases q2 with q2 | ⟨p, e1, e2, e3⟩
      · exact .inl q2
      · exact .inr ⟨p, e1, by omega, e3⟩

/-- a clause that goes: the first that has the same literals -/
def goneP (c : List Int) : List (List Int) → List (List Int)
  | [] => []
  | x :: l => if alk x c then l else x :: goneP c l

end Go.Proofs.YtbicefgjompnoaaDoor.Sx
/- gone: a clause that goes out of a list of the call's own. -/
namespace Go.Proofs.YtbicefgjompnoaaDoor.Sx
open Go.RowKit Go.Sort

theorem goneP_len (c : List Int) (l : List (List Int)) : (goneP c l).length ≤ l.length := by
  induction l with
  | nil => exact Nat.le_refl _
  | cons x l ih =>
    unfold goneP
    split
    · simp
    · simp only [List.length_cons]; omega

def GonePost (w : World) (base lo : Nat) (C : List (List Int)) (e : Ending) (w' : World) : Prop := ∃ v, e = .returned v ∧ OwnC w' base lo v C ∧ Fr (fun _ => True) w w'

end Go.Proofs.YtbicefgjompnoaaDoor.Sx
/- Checked, by the reference: plain, and what it holds. -/
namespace Go.Proofs.YtbicefgjompnoaaDoor.Sx
open Go.RowKit Go.Sort

/-- the lines of a proof, one by one -/
def stepsP (n : Nat) : List (Bool × List Int) → List (List Int) → Bool → Bool
  | [], _, s => s
  | (true, c) :: P, L, s => stepsP n P (goneP c L) s
  | (false, c) :: P, L, s => if followP n L (c.map (- ·)) = some none then stepsP n P (L ++ [c]) (s || decide (c.length = 0)) else false

/-- lines in memory, below lo -/
structure LinesAt (w : World) (lo : Nat) (v : Value) (P : List (Bool × List Int)) : Prop where
  ex : ∃ a cap, v = .slice a P.length cap ∧ (P = [] ∨ ∃ b o : Nat, a = some ⟨b, o, none⟩ ∧ b < lo ∧ ∀ i g c, P[i]? = some (g, c) → w.cell? ⟨b, o + i * 2, none⟩ = some (.bool g) ∧ ∃ u, w.cell? ⟨b, o + i * 2 + 1, none⟩ = some u ∧ IntsAt w lo u c)
  big : P.length ≤ 10000000000
theorem LinesAt.of {w w' : World} {lo : Nat} {v : Value} {P : List (Bool × List Int)} (h : LinesAt w lo v P) (f : Fr (· < lo) w w') : LinesAt w' lo v P := by
  obtain ⟨a, cap, e, q⟩ := h.ex
  refine ⟨⟨a, cap, e, ?_⟩, h.big⟩
  rcases q with q | ⟨b, o, e1, e2, e3⟩
  · exact .inl q
  · refine .inr ⟨b, o, e1, e2, fun i g c hc => ?_⟩
    obtain ⟨h1, u, h2, h3⟩ := e3 i g c hc
    refine ⟨?_, u, ?_, h3.of f⟩
    · exact (World.cell?_of_block (w := w) (f.block _ (World.block_lt_of_cell? w _ h1) e2)).trans h1
    · exact (World.cell?_of_block (w := w) (f.block _ (World.block_lt_of_cell? w _ h2) e2)).trans h2
theorem LinesAt.cell {w : World} {lo : Nat} {o : Option Addr} {k cap : Nat} {P : List (Bool × List Int)} (h : LinesAt w lo (.slice o k cap) P) {i : Nat} (hi : i < P.length) : ∃ b off u, o = some ⟨b, off, none⟩ ∧ w.cell? ⟨b, off + i * 2, none⟩ = some (.bool P[i].1) ∧ w.cell? ⟨b, off + i * 2 + 1, none⟩ = some u ∧ IntsAt w lo u P[i].2 := by
  obtain ⟨a, c, e, q⟩ := h.ex
  cases e
  rcases q with q | ⟨b, off, rfl, _, q⟩
  · rw [q] at hi; simp at hi
  · obtain ⟨h1, u, h2, h3⟩ := q i P[i].1 P[i].2 (List.getElem?_eq_getElem hi)
    exact ⟨b, off, u, rfl, h1, h2, h3⟩

/-- numbers in a row of the call's own -/
def OwnI (w : World) (base : Nat) (v : Value) (l : List Int) : Prop := w.ownsRow base 3 1 v l.length (l.map fun x => Value.int .i64 x)
theorem OwnI.form {w : World} {base : Nat} {v : Value} {l : List Int} (h : OwnI w base v l) : ∃ a cap, v = .slice a l.length cap := by
  rcases h.2 with ⟨e, hn⟩ | ⟨g', cap', cur, e, _⟩
  · exact ⟨none, 0, by rw [e, hn]⟩
  · exact ⟨_, _, e⟩
theorem OwnI.ints {w : World} {base : Nat} {v : Value} {l : List Int} (h : OwnI w base v l) (hb : l.length ≤ 1000000000000) : IntsAt w w.heap.size v l := by
  rcases h.2 with ⟨e, hn⟩ | ⟨g, cap, cur, rfl, hbg, hg, _, _, _, ht⟩
  · exact ⟨⟨none, 0, by rw [e, hn], .inl (List.eq_nil_of_length_eq_zero hn)⟩, hb⟩
  · refine ⟨⟨_, _, rfl, .inr ⟨_, rfl, block_lt hg, fun i x hx => ?_⟩⟩, hb⟩
    have hadd : (⟨g, 0, none⟩ : Addr).add i = ⟨g, i, none⟩ := by unfold Addr.add; split <;> simp_all
    rw [hadd, block_cell hg]
    have h2 : (l.map fun x => Value.int .i64 x)[i]? = some (.int .i64 x) := by simp [hx]
    rw [← ht, List.getElem?_take] at h2
    split at h2
    · simpa using h2
    · simp at h2
theorem ClsAt.vals {w : World} {lo : Nat} {a : Option Addr} {k cap : Nat} {C : List (List Int)} (h : ClsAt w lo (.slice a k cap) C) (hne : C ≠ []) : ∃ p vs, a = some p ∧ ClsV w lo vs C ∧ ∀ (i : Nat) u, vs[i]? = some u → w.cell? (p.add i) = some u := by
  obtain ⟨a', c', e, q⟩ := h.ex
  cases e
  rcases q with q | ⟨p, rfl, _, q⟩
  · exact absurd q hne
  have : ∀ i : Nat, ∃ u, ∀ c, C[i]? = some c → w.cell? (p.add i) = some u ∧ IntsAt w lo u c := fun i => by
    cases hi : C[i]? with
    | none => exact ⟨.slice none 0 0, fun c hc => by cases hc⟩
    | some c =>
      obtain ⟨u, h1, h2⟩ := q i c hi
      exact ⟨u, fun c' hc => by cases hc; exact ⟨h1, h2⟩⟩
  refine ⟨p, (List.range C.length).map fun i => (this i).choose, rfl, ⟨by simp, fun i c hc => ?_⟩, fun i u hu => ?_⟩
  · have hi : i < C.length := (List.getElem?_eq_some_iff.1 hc).1
    exact ⟨(this i).choose, by simp [hi], ((this i).choose_spec c hc).2⟩
  · have hi : i < C.length := by have := (List.getElem?_eq_some_iff.1 hu).1; simpa using this
    have hu' : (this i).choose = u := by simpa [hi] using hu
    rw [← hu']
    exact ((this i).choose_spec C[i] (List.getElem?_eq_getElem hi)).1

/-- what is true of a proof, whatever else: faults aside -/
def checkedP (n : Int) (C : List (List Int)) (P : List (Bool × List Int)) : Bool := if faultR n C = 0 then (if P.all (fun l => l.2.all (isLit n.toNat)) then stepsP n.toNat P C false else false) else false

end Go.Proofs.YtbicefgjompnoaaDoor.Sx
