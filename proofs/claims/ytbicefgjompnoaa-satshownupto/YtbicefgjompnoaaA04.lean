/- Makes, Models: values that make clauses true, by the reference. -/
import Derived.Laws.BitsLemmas
import Derived.Test.YtbicefgjompnoaaA03
namespace Go.Proofs.Ytbicefgjompnoaa.Sx
open Go.RowKit Go.Sort

structure BoolsAt (w : World) (lo : Nat) (v : Value) (l : List Bool) : Prop where
  ex : ∃ a cap, v = .slice a l.length cap ∧ (l = [] ∨ ∃ p : Addr, a = some p ∧ p.block < lo ∧ ∀ i x, l[i]? = some x → w.cell? (p.add i) = some (.bool x))
  big : l.length ≤ 1000000000000
theorem BoolsAt.of {w w' : World} {lo : Nat} {v : Value} {l : List Bool} (h : BoolsAt w lo v l) (f : Fr (· < lo) w w') : BoolsAt w' lo v l := by
  obtain ⟨a, cap, e, q⟩ := h.ex
  refine ⟨⟨a, cap, e, ?_⟩, h.big⟩
  rcases q with q | ⟨p, e1, e2, e3⟩
  · exact .inl q
  · refine .inr ⟨p, e1, e2, fun i x hx => ?_⟩
    have hb : (p.add i).block = p.block := by unfold Addr.add; split <;> rfl
    exact (World.cell?_of_block (w := w) (f.block _ (World.block_lt_of_cell? w _ (e3 i x hx)) (by rw [hb]; exact e2))).trans (e3 i x hx)
theorem BoolsAt.cell {w w' : World} {lo : Nat} {o : Option Addr} {k cap : Nat} {l : List Bool} (h : BoolsAt w lo (.slice o k cap) l) (f : Fr (fun _ => True) w w') {i : Nat} (hi : i < l.length) : ∃ p, o = some p ∧ w'.cell? (p.add i) = some (.bool l[i]) ∧ w'.drew.cell? (p.add i) = some (.bool l[i]) := by
  have h1 := h.of (f.mono fun _ _ => trivial)
  have h2 := h1.of (Fr.refl _ w').drew
  obtain ⟨a, c, e, q⟩ := h1.ex
  obtain ⟨a2, c2, e2, q2⟩ := h2.ex
  cases e
  cases e2
  rcases q with q | ⟨p, rfl, _, q⟩
  · rw [q] at hi; simp at hi
  rcases q2 with q2 | ⟨p2, e3, _, q2⟩
  · rw [q2] at hi; simp at hi
  cases e3
  exact ⟨p, rfl, q i _ (List.getElem?_eq_getElem hi), q2 i _ (List.getElem?_eq_getElem hi)⟩

/-- is a literal true with these values? -/
def litP (m : List Bool) (l : Int) : Bool := decide (0 < l.natAbs) && (decide (l.natAbs ≤ m.length) && (m.getD (l.natAbs - 1) false == decide (0 < l)))

set_option maxRecDepth 100000 in
set_option maxHeartbeats 1000000 in
theorem size_min (w : World) : Calls Try.prog 49 #[.int .i64 (-9223372036854775808)] w fun e w' => e = .returned (.int .i64 (-9223372036854775808)) ∧ w' = w := by
  have mo := follows
  go_enter Try.func49, Try.ntmps49
  go_wp2_with fail
  go_ret
  have e : wrap64 9223372036854775808 = -9223372036854775808 := by kernel_rfl
  exact ⟨by show Ending.returned (.int .i64 (wrap64 9223372036854775808)) = _; rw [e], rfl⟩

set_option maxRecDepth 100000 in
set_option maxHeartbeats 1000000 in
theorem Makes_any (w : World) (la lb : Nat) (va vb : Value) (c : List Int) (m : List Bool) (h64 : ∀ l ∈ c, -9223372036854775808 ≤ l ∧ l ≤ 9223372036854775807) (ha : IntsAt w la va c) (hb : BoolsAt w lb vb m) : Calls Try.prog 25 #[va, vb] w fun e w' => e = .returned (.bool (c.any (litP m))) ∧ Fr (fun _ => True) w w' := by
  have mo := follows
  obtain ⟨pa, cc, hva, _⟩ := ha.ex
  obtain ⟨pb, cd, hvb, _⟩ := hb.ex
  subst hva
  subst hvb
  have hbig := ha.big
  have hbib := hb.big
  have HA : Hid (IntsAt w la (.slice pa c.length cc) c) := ha
  have HB : Hid (BoolsAt w lb (.slice pb m.length cd) m) := hb
  have H64 : Hid (∀ l ∈ c, -9223372036854775808 ≤ l ∧ l ≤ 9223372036854775807) := h64
  obtain ⟨R, hR⟩ : ∃ R, c.any (litP m) = R := ⟨_, rfl⟩
  rw [hR]
  clear ha hb h64
  have HR0 : Hid (c.any (litP m) = R) := hR
  clear hR
  go_enter Try.func25, Try.ntmps25
  go_wp2_with fail
  go_loopg [5] (c.length) (fun k s5 wr => ∃ j : Nat, s5 = .int .i64 (j : Int) ∧ j + k = c.length ∧ Hid (Fr (fun _ => True) w wr) ∧ Hid ((c.drop j).any (litP m) = R))
  case atStart => exact ⟨0, rfl, by omega, Fr.refl _ _, HR0⟩
  case round =>
    clear HR0
    obtain ⟨j, rfl, hjk, F, HU⟩ := hrel
    by_cases hj : j < c.length
    · obtain ⟨k, rfl⟩ : ∃ k, gk = k + 1 := ⟨gk - 1, by omega⟩
      obtain ⟨x, hx⟩ : ∃ x, c[j] = x := ⟨_, rfl⟩
      have hd : c.drop j = x :: c.drop (j + 1) := by rw [List.drop_eq_getElem_cons hj, hx]
      have j0 : (0 : Int) ≤ (j : Int) := by omega
      have j1 : (j : Int) < (c.length : Int) := by omega
      obtain ⟨p, hpa, cj, cjd⟩ := HA.out.cell F.out hj
      subst hpa
      rw [hx] at cj cjd
      have hxr := H64.out x (hx ▸ List.getElem_mem hj)
      have hu := HU.out
      rw [hd, List.any_cons] at hu
      clear HU
      have FD : Hid (Fr (fun _ => True) w wr.drew) := F.out.drew
      by_cases hm : x = -9223372036854775808
      · subst hm
        have e : litP m (-9223372036854775808) = false := by
          have : decide ((-9223372036854775808 : Int).natAbs ≤ m.length) = false := by
            rw [decide_eq_false_iff_not]; show ¬ (9223372036854775808 ≤ m.length); omega
          unfold litP
          rw [this, Bool.false_and, Bool.and_false]
        rw [e, Bool.false_or] at hu
        have HQ : Hid ((c.drop (j + 1)).any (litP m) = R) := hu
        have HS : Hid (Calls _ _ _ _ _) := size_min wr
        clear hu F
        go_wp2_with (go_at_call 49; refine HS.out.mono ?_; rintro e w' ⟨rfl, hw⟩; replace hw := hw.symm; subst hw)
        go_big_region_o
        go_wp2_with fail
        go_roundg k
        case measure => omega
        case rel => exact ⟨j + 1, by simp, by omega, FD, HQ⟩
      · have HS : Hid (Calls _ _ _ _ _) := size_any wr x (by omega) (by omega)
        by_cases h0 : 0 < x.natAbs
        · by_cases h1 : x.natAbs ≤ m.length
          · obtain ⟨q, hq⟩ : ∃ q, m[x.natAbs - 1]'(by omega) = q := ⟨_, rfl⟩
            obtain ⟨p2, hpb, ci, cid⟩ := HB.out.cell F.out (i := x.natAbs - 1) (by omega)
            subst hpb
            rw [hq] at ci cid
            have e : litP m x = (q == decide (0 < x)) := by
              unfold litP
              rw [decide_eq_true h0, decide_eq_true h1, List.getD_eq_getElem?_getD, List.getElem?_eq_getElem (by omega), hq]
              rfl
            rw [e] at hu
            obtain ⟨z, hz⟩ : ∃ z : Nat, x.natAbs = z + 1 := ⟨x.natAbs - 1, by omega⟩
            rw [hz] at HS ci cid
            rw [Nat.add_sub_cancel] at ci cid
            rw [Int.natCast_add, Int.natCast_one] at HS
            have z0 : (0 : Int) < (z : Int) + 1 := by omega
            have z1 : (z : Int) + 1 ≤ (m.length : Int) := by omega
            have z2 : (0 : Int) ≤ (z : Int) := by omega
            have z3 : (z : Int) < (m.length : Int) := by omega
            cases hb : (q == decide (0 < x)) with
            | true =>
              rw [hb, Bool.true_or] at hu
              have HQ : Hid (true = R) := hu
              clear hu F
              go_wp2_with (go_at_call 49; refine HS.out.mono ?_; rintro e w' ⟨rfl, hw⟩; replace hw := hw.symm; subst hw)
              go_big_region_o
              go_wp2_with fail
              go_ret
              exact ⟨by rw [← HQ.out]; rfl, FD.out⟩
            | false =>
              rw [hb, Bool.false_or] at hu
              have HQ : Hid ((c.drop (j + 1)).any (litP m) = R) := hu
              clear hu F
              go_wp2_with (go_at_call 49; refine HS.out.mono ?_; rintro e w' ⟨rfl, hw⟩; replace hw := hw.symm; subst hw)
              go_big_region_o
              go_wp2_with fail
              go_roundg k
              case measure => omega
              case rel => exact ⟨j + 1, by simp, by omega, FD, HQ⟩
          · have e : litP m x = false := by
              unfold litP
              rw [decide_eq_false h1, Bool.false_and, Bool.and_false]
            rw [e, Bool.false_or] at hu
            have HQ : Hid ((c.drop (j + 1)).any (litP m) = R) := hu
            have z0 : (0 : Int) < (x.natAbs : Int) := by omega
            have z1 : ¬ (x.natAbs : Int) ≤ (m.length : Int) := by omega
            clear hu F
            go_wp2_with (go_at_call 49; refine HS.out.mono ?_; rintro e w' ⟨rfl, hw⟩; replace hw := hw.symm; subst hw)
            go_big_region_o
            go_wp2_with fail
            go_roundg k
            case measure => omega
            case rel => exact ⟨j + 1, by simp, by omega, FD, HQ⟩
        · have e : litP m x = false := by
            unfold litP
            rw [decide_eq_false h0, Bool.false_and]
          rw [e, Bool.false_or] at hu
          have HQ : Hid ((c.drop (j + 1)).any (litP m) = R) := hu
          obtain rfl : x = 0 := by omega
          clear hu F
          go_wp2_with (go_at_call 49; refine HS.out.mono ?_; rintro e w' ⟨rfl, hw⟩; replace hw := hw.symm; subst hw)
          go_big_region_o
          go_wp2_with fail
          go_roundg k
          case measure => omega
          case rel => exact ⟨j + 1, by simp, by omega, FD, HQ⟩
    · have j1 : ¬ (j : Int) < (c.length : Int) := by omega
      obtain rfl : j = c.length := by omega
      have hu := HU.out
      rw [List.drop_length] at hu
      have HQ : Hid (false = R) := hu
      clear hu HU
      go_wp2_with fail
      go_ret
      exact ⟨by rw [← HQ.out]; rfl, F.out⟩

set_option maxRecDepth 100000 in
set_option maxHeartbeats 1000000 in
theorem Models_any (w : World) (la lb : Nat) (va vb : Value) (C : List (List Int)) (m : List Bool) (h64 : ∀ c ∈ C, ∀ l ∈ c, -9223372036854775808 ≤ l ∧ l ≤ 9223372036854775807) (ha : ClsAt w la va C) (hb : BoolsAt w lb vb m) : Calls Try.prog 10 #[va, vb] w fun e w' => e = .returned (.bool (C.all fun c => c.any (litP m))) ∧ Fr (fun _ => True) w w' := by
  have mo := follows
  obtain ⟨pa, cc, hva, _⟩ := ha.ex
  subst hva
  have hbig := ha.big
  have HA : Hid (ClsAt w la (.slice pa C.length cc) C) := ha
  have HB : Hid (BoolsAt w lb vb m) := hb
  have H64 : Hid (∀ c ∈ C, ∀ l ∈ c, -9223372036854775808 ≤ l ∧ l ≤ 9223372036854775807) := h64
  obtain ⟨R, hR⟩ : ∃ R, (C.all fun c => c.any (litP m)) = R := ⟨_, rfl⟩
  rw [hR]
  clear ha hb h64
  have HR0 : Hid ((C.all fun c => c.any (litP m)) = R) := hR
  clear hR
  go_enter Try.func10, Try.ntmps10
  go_wp2_with fail
  go_loopg [5] (C.length) (fun k s5 wr => ∃ j : Nat, s5 = .int .i64 (j : Int) ∧ j + k = C.length ∧ Hid (Fr (fun _ => True) w wr) ∧ Hid (((C.drop j).all fun c => c.any (litP m)) = R))
  case atStart => exact ⟨0, rfl, by omega, Fr.refl _ _, HR0⟩
  case round =>
    clear HR0
    obtain ⟨j, rfl, hjk, F, HU⟩ := hrel
    by_cases hj : j < C.length
    · obtain ⟨k, rfl⟩ : ∃ k, gk = k + 1 := ⟨gk - 1, by omega⟩
      obtain ⟨x, hx⟩ : ∃ x, C[j] = x := ⟨_, rfl⟩
      have hd : C.drop j = x :: C.drop (j + 1) := by rw [List.drop_eq_getElem_cons hj, hx]
      have j0 : (0 : Int) ≤ (j : Int) := by omega
      have j1 : (j : Int) < (C.length : Int) := by omega
      obtain ⟨a', c', e', hrow⟩ := (HA.out.of (F.out.mono fun _ _ => trivial)).ex
      cases e'
      obtain ⟨p, rfl, _, hp⟩ : ∃ p : Addr, pa = some p ∧ p.block < la ∧ ∀ i c, C[i]? = some c → ∃ u, wr.cell? (p.add i) = some u ∧ IntsAt wr la u c := by
        rcases hrow with q | q
        · rw [q] at hj; simp at hj
        · exact q
      obtain ⟨u, cj, hui⟩ := hp j x (by rw [List.getElem?_eq_getElem hj, hx])
      have HM : Hid (Calls _ _ _ _ _) := Makes_any wr la lb u vb x m (H64.out x (hx ▸ List.getElem_mem hj)) hui (HB.out.of (F.out.mono fun _ _ => trivial))
      have hu := HU.out
      rw [hd, List.all_cons] at hu
      clear HU hp hrow hui
      cases hb : x.any (litP m) with
      | true =>
        rw [hb] at HM hu
        rw [Bool.true_and] at hu
        have HQ : Hid (((C.drop (j + 1)).all fun c => c.any (litP m)) = R) := hu
        clear hu
        go_wp2_with fail
        refine HM.out.mono ?_
        rintro e w1 ⟨rfl, f1⟩
        have F1 : Hid (Fr (fun _ => True) w w1) := F.out.trans f1
        clear f1 HM F cj
        go_wp2_with fail
        go_roundg k
        case measure => omega
        case rel => exact ⟨j + 1, by simp, by omega, F1, HQ⟩
      | false =>
        rw [hb] at HM hu
        rw [Bool.false_and] at hu
        have HQ : Hid (false = R) := hu
        clear hu
        go_wp2_with fail
        refine HM.out.mono ?_
        rintro e w1 ⟨rfl, f1⟩
        have F1 : Hid (Fr (fun _ => True) w w1) := F.out.trans f1
        clear f1 HM F cj
        go_wp2_with fail
        go_ret
        exact ⟨by rw [← HQ.out]; rfl, F1.out⟩
    · have j1 : ¬ (j : Int) < (C.length : Int) := by omega
      obtain rfl : j = C.length := by omega
      have hu := HU.out
      rw [List.drop_length] at hu
      have HQ : Hid (true = R) := hu
      clear hu HU
      go_wp2_with fail
      go_ret
      exact ⟨by rw [← HQ.out]; rfl, F.out⟩

end Go.Proofs.Ytbicefgjompnoaa.Sx
/- The program: what is wrong with clauses. -/
namespace Go.Proofs.Ytbicefgjompnoaa.Sx
open Go.RowKit Go.Sort

set_option maxRecDepth 100000 in
set_option maxHeartbeats 1000000 in
theorem areLiterals_any (w : World) (n lo : Nat) (v : Value) (l : List Int) (hn : n ≤ 16777216) (h : IntsAt w lo v l) : Calls Try.prog 12 #[.int .i64 (n : Int), v] w fun e w' => e = .returned (.bool (l.all (isLit n))) ∧ w' = w := by
  have mo := follows
  obtain ⟨a, cc, rfl, hrow⟩ := h.ex
  have hbig := h.big
  have HR : Hid (l = [] ∨ ∃ p : Addr, a = some p ∧ p.block < lo ∧ ∀ i x, l[i]? = some x → w.cell? (p.add i) = some (.int .i64 x)) := hrow
  obtain ⟨R, hR⟩ : ∃ R, l.all (isLit n) = R := ⟨_, rfl⟩
  rw [hR]
  clear h hrow
  go_enter Try.func12, Try.ntmps12
  go_wp2_with fail
  go_loopg [9] (l.length) (fun k s9 wr => ∃ j : Nat, s9 = .int .i64 (j : Int) ∧ j + k = l.length ∧ wr = w ∧ Hid ((l.drop j).all (isLit n) = R))
  case atStart => exact ⟨0, rfl, by omega, rfl, hR⟩
  case round =>
    obtain ⟨j, rfl, hjk, rfl, HU⟩ := hrel
    by_cases hj : j < l.length
    · obtain ⟨k, rfl⟩ : ∃ k, gk = k + 1 := ⟨gk - 1, by omega⟩
      obtain ⟨x, hx⟩ : ∃ x, l[j] = x := ⟨_, rfl⟩
      obtain ⟨p, rfl, _, hp⟩ : ∃ p : Addr, a = some p ∧ p.block < lo ∧ ∀ i x, l[i]? = some x → wr.cell? (p.add i) = some (.int .i64 x) := by
        rcases HR.out with q | q
        · rw [q] at hj; simp at hj
        · exact q
      have cj := hp j x (by rw [List.getElem?_eq_getElem hj, hx])
      have hd : l.drop j = x :: l.drop (j + 1) := by rw [List.drop_eq_getElem_cons hj, hx]
      have j0 : (0 : Int) ≤ (j : Int) := by omega
      have j1 : (j : Int) < (l.length : Int) := by omega
      have hu := HU.out
      rw [hd, List.all_cons] at hu
      clear HU hp
      by_cases hb : LitN n x
      · rw [isLit_iff.2 hb, Bool.true_and] at hu
        have HQ : Hid ((l.drop (j + 1)).all (isLit n) = R) := hu
        unfold LitN at hb
        obtain ⟨b0, b1⟩ := hb
        have e0 : (x == 0) = false := by simpa using b0
        have e1 : ¬ x < -(n : Int) := by omega
        have e2 : ¬ (n : Int) < x := by omega
        clear hu hR
        go_wp2_with fail
        go_roundg k
        case measure => omega
        case rel => exact ⟨j + 1, by simp, by omega, rfl, HQ⟩
      · have hf : isLit n x = false := by
          cases h : isLit n x with
          | false => rfl
          | true => exact absurd (isLit_iff.1 h) hb
        rw [hf, Bool.false_and] at hu
        have HQ : Hid (false = R) := hu
        clear hu hR
        by_cases b0 : x = 0
        · subst b0
          go_wp2_with fail
          go_ret
          exact ⟨by rw [← HQ.out]; rfl, rfl⟩
        · have e0 : (x == 0) = false := by simpa using b0
          by_cases b1 : x < -(n : Int)
          · go_wp2_with fail
            go_ret
            exact ⟨by rw [← HQ.out]; rfl, rfl⟩
          · have b2 : (n : Int) < x := by unfold LitN at hb; omega
            go_wp2_with fail
            go_ret
            exact ⟨by rw [← HQ.out]; rfl, rfl⟩
    · have j1 : ¬ (j : Int) < (l.length : Int) := by omega
      obtain rfl : j = l.length := by omega
      have hu := HU.out
      rw [List.drop_length] at hu
      have HQ : Hid (true = R) := hu
      clear hu HU hR
      go_wp2_with fail
      go_ret
      exact ⟨by rw [← HQ.out]; rfl, rfl⟩

end Go.Proofs.Ytbicefgjompnoaa.Sx
/- The program: fault. -/
namespace Go.Proofs.Ytbicefgjompnoaa.Sx
open Go.RowKit Go.Sort

/-- an error's value -/
def errV (k : Nat) : Value := if k = 0 then .nilIface else .iface 55 (.int .i64 (k : Int))

set_option maxRecDepth 100000 in
set_option maxHeartbeats 1000000 in
theorem fault_any (w : World) (n : Int) (lo : Nat) (v : Value) (C : List (List Int)) (h : ClsAt w lo v C) : Calls Try.prog 11 #[.int .i64 n, v, .slice none 0 0] w fun e w' => e = .returned (errV (faultR n C)) ∧ w' = w := by
  have mo := follows
  obtain ⟨a, cc, rfl, hrow⟩ := h.ex
  have hbig := h.big
  have HR : Hid (C = [] ∨ ∃ p : Addr, a = some p ∧ p.block < lo ∧ ∀ i c, C[i]? = some c → ∃ u, w.cell? (p.add i) = some u ∧ IntsAt w lo u c) := hrow
  obtain ⟨R, hR⟩ : ∃ R, faultR n C = R := ⟨_, rfl⟩
  rw [hR]
  clear h hrow
  unfold faultR at hR
  by_cases h1 : n < 0
  · rw [if_pos (.inl h1)] at hR
    subst hR
    go_enter Try.func11, Try.ntmps11
    go_wp2_with fail
    go_ret
    exact ⟨rfl, rfl⟩
  by_cases h2 : 16777216 < n
  · rw [if_pos (.inr h2)] at hR
    subst hR
    go_enter Try.func11, Try.ntmps11
    go_wp2_with fail
    go_ret
    exact ⟨rfl, rfl⟩
  rw [if_neg (by omega)] at hR
  obtain ⟨N, rfl⟩ : ∃ N : Nat, n = (N : Int) := ⟨n.toNat, by omega⟩
  have hN : N ≤ 16777216 := by omega
  by_cases h3 : 33554432 < C.length
  · rw [if_pos h3] at hR
    subst hR
    have h4 : (33554432 : Int) < (C.length : Int) := by omega
    go_enter Try.func11, Try.ntmps11
    go_wp2_with fail
    go_ret
    exact ⟨rfl, rfl⟩
  rw [if_neg h3, Int.toNat_natCast] at hR
  have h4 : ¬ (33554432 : Int) < (C.length : Int) := by omega
  have HR0 : Hid ((if C.all (fun c => c.all (isLit N)) then 0 else 5) = R) := hR
  clear hR
  go_enter Try.func11, Try.ntmps11
  go_wp2_with fail
  go_loopg [22] (C.length) (fun k s22 wr => ∃ j : Nat, s22 = .int .i64 (j : Int) ∧ j + k = C.length ∧ wr = w ∧ Hid ((if (C.drop j).all (fun c => c.all (isLit N)) then 0 else 5) = R))
  case atStart => exact ⟨0, rfl, by omega, rfl, HR0⟩
  case round =>
    clear HR0
    obtain ⟨j, rfl, hjk, rfl, HU⟩ := hrel
    by_cases hj : j < C.length
    · obtain ⟨k, rfl⟩ : ∃ k, gk = k + 1 := ⟨gk - 1, by omega⟩
      obtain ⟨x, hx⟩ : ∃ x, C[j] = x := ⟨_, rfl⟩
      obtain ⟨p, rfl, _, hp⟩ : ∃ p : Addr, a = some p ∧ p.block < lo ∧ ∀ i c, C[i]? = some c → ∃ u, wr.cell? (p.add i) = some u ∧ IntsAt wr lo u c := by
        rcases HR.out with q | q
        · rw [q] at hj; simp at hj
        · exact q
      obtain ⟨u, cj, hui⟩ := hp j x (by rw [List.getElem?_eq_getElem hj, hx])
      have hd : C.drop j = x :: C.drop (j + 1) := by rw [List.drop_eq_getElem_cons hj, hx]
      have j0 : (0 : Int) ≤ (j : Int) := by omega
      have j1 : (j : Int) < (C.length : Int) := by omega
      have HL : Hid (Calls _ _ _ _ _) := areLiterals_any wr N lo u x hN hui
      have hu := HU.out
      rw [hd, List.all_cons] at hu
      cases hb : x.all (isLit N) with
      | true =>
        rw [hb] at HL hu
        rw [Bool.true_and] at hu
        have HQ : Hid ((if (C.drop (j + 1)).all (fun c => c.all (isLit N)) then 0 else 5) = R) := hu
        clear hu HU hp hui
        go_wp2_with (go_at_call 12; refine HL.out.mono ?_; rintro e w' ⟨rfl, hw⟩; replace hw := hw.symm; subst hw)
        go_roundg k
        case measure => omega
        case rel => exact ⟨j + 1, by simp, by omega, rfl, HQ⟩
      | false =>
        rw [hb] at HL hu
        rw [Bool.false_and] at hu
        have HQ : Hid (5 = R) := hu
        clear hu HU hp hui
        go_wp2_with (go_at_call 12; refine HL.out.mono ?_; rintro e w' ⟨rfl, hw⟩; replace hw := hw.symm; subst hw)
        go_ret
        exact ⟨by rw [← HQ.out]; rfl, rfl⟩
    · have j1 : ¬ (j : Int) < (C.length : Int) := by omega
      obtain rfl : j = C.length := by omega
      have hu := HU.out
      rw [List.drop_length] at hu
      have HQ : Hid (0 = R) := hu
      have HL : Hid (Calls _ _ _ _ _) := areLiterals_any wr N 0 (.slice none 0 0) [] hN ⟨⟨none, 0, rfl, .inl rfl⟩, by simp⟩
      clear hu HU
      go_wp2_with (go_at_call 12; refine HL.out.mono ?_; rintro e w' ⟨rfl, hw⟩; replace hw := hw.symm; subst hw)
      go_ret
      exact ⟨by rw [← HQ.out]; rfl, rfl⟩


end Go.Proofs.Ytbicefgjompnoaa.Sx
/- The program: literals as numbers. -/
namespace Go.Proofs.Ytbicefgjompnoaa.Sx
open Go.RowKit Go.Sort

/-- a literal's opposite -/
def opp (l : Nat) : Nat := if l % 2 = 0 then l + 1 else l - 1

theorem xor_one (l : Nat) : l ^^^ 1 = opp l := by
  have h1 := Nat.div_add_mod (l ^^^ 1) 2
  have h2 : (l ^^^ 1) / 2 = l / 2 ^^^ 1 / 2 := Nat.xor_div_two
  have h3 : (l ^^^ 1) % 2 = 1 ↔ ¬ (l % 2 = 1 ↔ 1 % 2 = 1) := Nat.xor_mod_two_eq_one
  have h4 : l / 2 ^^^ 1 / 2 = l / 2 := by simp
  rw [h4] at h2
  unfold opp
  split
  · have : (l ^^^ 1) % 2 = 1 := h3.2 (by omega)
    omega
  · have : ¬ (l ^^^ 1) % 2 = 1 := fun q => (h3.1 q) (by omega)
    omega
theorem bits_opp (l : Nat) (h : l < 1073741824) : bits .xor .i32 (l : Int) 1 = (opp l : Int) := by
  have ho : opp l < 1073741825 := by unfold opp; split <;> omega
  have h1 : (BitVec.ofInt 32 (l : Int)).toNat = l := by
    rw [BitVec.ofInt_natCast, BitVec.toNat_ofNat]; exact Nat.mod_eq_of_lt (by omega)
  have h2 : (BitVec.ofInt 32 (1 : Int)).toNat = 1 := by decide
  show IntKind.i32.wrap ((BitVec.ofInt 32 (l : Int) ^^^ BitVec.ofInt 32 (1 : Int)).toNat : Int) = _
  rw [BitVec.toNat_xor, h1, h2, xor_one]
  rw [IntKind.wrap_i32]
  omega

set_option maxRecDepth 100000 in
set_option maxHeartbeats 1000000 in
theorem opposite_any (w : World) (l : Nat) (h : l < 1073741824) : Calls Try.prog 33 #[.int .i32 (l : Int)] w fun e w' => e = .returned (.int .i32 (opp l : Int)) ∧ w' = w := by
  have mo := follows
  go_enter Try.func33, Try.ntmps33
  go_wp2_with fail
  go_ret
  exact ⟨by rw [← bits_opp l h]; rfl, rfl⟩

set_option maxRecDepth 100000 in
set_option maxHeartbeats 1000000 in
theorem place_any (w : World) (l : Nat) : Calls Try.prog 55 #[.int .i32 (l : Int)] w fun e w' => e = .returned (.int .i32 ((l / 2 : Nat) : Int)) ∧ w' = w := by
  have mo := follows
  go_enter Try.func55, Try.ntmps55
  go_wp2_with fail
  go_ret
  exact ⟨rfl, rfl⟩

end Go.Proofs.Ytbicefgjompnoaa.Sx
/- Places of variables (plain). -/
namespace Go.Proofs.Ytbicefgjompnoaa.Sx
open Go.RowKit Go.Sort

/-- one variable that is heard -/
def hear1 (s : List Nat × List Nat) (v : Nat) : List Nat × List Nat := if s.1.getD v 0 = 0 then (s.1.set v (s.2.length + 1), s.2 ++ [v]) else s
/-- a list of literals that is heard -/
def hearP (s : List Nat × List Nat) (l : List Int) : List Nat × List Nat := l.foldl (fun s x => hear1 s x.natAbs) s

/-- places (by variable: one more than its place) and variables (by place) go together -/
structure NmOK (n : Nat) (s : List Nat × List Nat) : Prop where
  len : s.1.length = n + 1
  back : ∀ v k, s.1.getD v 0 = k + 1 → s.2[k]? = some v
  there : ∀ k v, s.2[k]? = some v → s.1.getD v 0 = k + 1 ∧ v ≤ n ∧ 0 < v
theorem NmOK.nil (n : Nat) : NmOK n (List.replicate (n + 1) 0, []) := by
  refine ⟨by simp, fun v k h => ?_, fun k v h => by simp at h⟩
  have : (List.replicate (n + 1) 0).getD v 0 = 0 := by
    rw [List.getD_eq_getElem?_getD, List.getElem?_replicate]
    split <;> rfl
  rw [this] at h
  omega
theorem NmOK.hear1 {n : Nat} {s : List Nat × List Nat} (h : NmOK n s) {v : Nat} (hv : v ≤ n) (h0 : 0 < v) : NmOK n (hear1 s v) ∧ (Sx.hear1 s v).1.getD v 0 ≠ 0 ∧ ∀ u, s.1.getD u 0 ≠ 0 → (Sx.hear1 s v).1.getD u 0 = s.1.getD u 0 := by
  unfold Sx.hear1
  have hl := h.len
  split
  · rename_i hz
    have hs : ∀ u, (s.1.set v (s.2.length + 1)).getD u 0 = if u = v then s.2.length + 1 else s.1.getD u 0 := fun u => by
      rw [List.getD_eq_getElem?_getD, List.getD_eq_getElem?_getD, List.getElem?_set]
      by_cases e : v = u
      · subst e
        rw [if_pos rfl, if_pos (by omega), if_pos rfl]; rfl
      · rw [if_neg e, if_neg (Ne.symm e)]
    refine ⟨⟨by simp [hl], fun u k hk => ?_, fun k u hk => ?_⟩, ?_, fun u hu => ?_⟩
    · simp only at hk ⊢
      rw [hs] at hk
      split at hk
      · rename_i e
        subst e
        obtain rfl : k = s.2.length := by omega
        simp
      · have q := h.back u k hk
        have : k < s.2.length := (List.getElem?_eq_some_iff.1 q).1
        rw [List.getElem?_append_left this]
        exact q
    · simp only at hk ⊢
      rw [hs]
      by_cases hk2 : k < s.2.length
      · rw [List.getElem?_append_left hk2] at hk
        obtain ⟨q1, q2, q3⟩ := h.there k u hk
        rw [if_neg (fun e => by rw [e, hz] at q1; omega)]
        exact ⟨q1, q2, q3⟩
      · rw [List.getElem?_append_right (by omega)] at hk
        have : k - s.2.length < [v].length := (List.getElem?_eq_some_iff.1 hk).1
        simp at this
        obtain rfl : k = s.2.length := by omega
        simp at hk
        subst hk
        rw [if_pos rfl]
        exact ⟨rfl, hv, h0⟩
    · simp only
      rw [hs, if_pos rfl]
      omega
    · simp only
      rw [hs, if_neg (fun e => hu (by rw [e]; exact hz))]
  · rename_i hz
    exact ⟨h, hz, fun _ _ => rfl⟩
theorem hear_ok {n : Nat} (l : List Int) : ∀ {s : List Nat × List Nat}, NmOK n s → (∀ x ∈ l, LitN n x) → NmOK n (hearP s l) ∧ (∀ x ∈ l, (hearP s l).1.getD x.natAbs 0 ≠ 0) ∧ ∀ u, s.1.getD u 0 ≠ 0 → (hearP s l).1.getD u 0 = s.1.getD u 0 := by
  induction l with
  | nil => intro s h _; exact ⟨h, fun x hx => by simp at hx, fun _ _ => rfl⟩
  | cons x l ih =>
    intro s h hl
    have hx := hl x List.mem_cons_self
    unfold LitN at hx
    obtain ⟨h1, h2, h3⟩ := h.hear1 (v := x.natAbs) (by omega) (by omega)
    obtain ⟨g1, g2, g3⟩ := ih h1 (fun y hy => hl y (List.mem_cons_of_mem _ hy))
    have e : hearP s (x :: l) = hearP (hear1 s x.natAbs) l := rfl
    rw [e]
    refine ⟨g1, fun y hy => ?_, fun u hu => ?_⟩
    · rcases List.mem_cons.1 hy with hy | hy
      · rw [hy, g3 _ h2]; exact h2
      · exact g2 y hy
    · rw [g3 u (by rw [h3 u hu]; exact hu), h3 u hu]

end Go.Proofs.Ytbicefgjompnoaa.Sx
/- The program: hear. -/
namespace Go.Proofs.Ytbicefgjompnoaa.Sx
open Go.RowKit Go.Sort

theorem info21 : ∃ i0, Try.prog.info? 21 = some i0 ∧ i0.zero = some (.int .i32 0) ∧ i0.size = 1 ∧ i0.bytes = 4 := by
  have h : ((Try.prog.info? 21).map fun i => (i.zero, i.size, i.bytes)) = some (some (.int .i32 0), 1, 4) := by kernel_rfl
  cases hq : Try.prog.info? 21 with
  | none => rw [hq] at h; simp at h
  | some j => rw [hq] at h; simp at h; exact ⟨j, rfl, h.1, h.2.1, h.2.2⟩

def v32 (l : List Nat) : List Value := l.map fun x : Nat => Value.int .i32 (x : Int)
/-- names in memory: places at pb, the struct at fb, variables in a row of their own from base on -/
structure NmAt (w : World) (n pb fb base : Nat) (s : List Nat × List Nat) : Prop where
  ex : ∃ vv, w.heap[fb]? = some (.cells #[.slice (some ⟨pb, 0, none⟩) (n + 1) (n + 1), vv] 58 (0, 0)) ∧ w.ownsRow base 21 1 vv s.2.length (v32 s.2)
  pl : w.heap[pb]? = some (.cells (v32 s.1).toArray 21 (0, 0))
  ok : NmOK n s
  lt : pb < fb ∧ fb < base
  hb : base ≤ w.heap.size
theorem holes : ∀ (n : Nat) (l : List Nat), l.Nodup → (∀ x ∈ l, x < n) → l.length ≤ n := by
  intro n
  induction n with
  | zero =>
    intro l _ h
    cases l with
    | nil => exact Nat.le_refl _
    | cons x l => exact absurd (h x List.mem_cons_self) (by omega)
  | succ n ih =>
    intro l hd h
    have h1 := ih (l.erase n) (hd.erase n) (fun x hx => by
      have q := (hd.mem_erase_iff).1 hx
      have := h x q.2
      have := q.1
      omega)
    rw [List.length_erase] at h1
    split at h1 <;> omega
theorem NmOK.few {n : Nat} {s : List Nat × List Nat} (h : NmOK n s) : s.2.length ≤ n := by
  have hn : (s.2.map fun v => v - 1).Nodup := by
    rw [List.nodup_iff_pairwise_ne, List.pairwise_iff_getElem]
    intro i j hi hj hij e
    simp only [List.length_map] at hi hj
    simp only [List.getElem_map] at e
    have h1 := h.there i _ (List.getElem?_eq_getElem hi)
    have h2 := h.there j _ (List.getElem?_eq_getElem hj)
    have : s.2[i] = s.2[j] := by omega
    rw [this] at h1
    omega
  have hs : ∀ x ∈ (s.2.map fun v => v - 1), x < n := by
    intro x hx
    obtain ⟨v, hv, rfl⟩ := List.mem_map.1 hx
    obtain ⟨k, hk, e⟩ := List.getElem_of_mem hv
    have := h.there k v (by rw [List.getElem?_eq_getElem hk, e])
    omega
  have := holes n _ hn hs
  simpa using this

end Go.Proofs.Ytbicefgjompnoaa.Sx
