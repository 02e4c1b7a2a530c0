/- The reference: how many literals of a clause are open. -/
import Derived.Test.YtbicefgjompnoaaDoorF00
namespace Go.Proofs.YtbicefgjompnoaaDoor.Sx
open Go.RowKit Go.Sort

set_option maxRecDepth 100000 in
set_option maxHeartbeats 1000000 in
theorem unit_any (w : World) (n b cap lo : Nat) (val : List Int) (cv : Value) (c : List Int) (hn : n ≤ 16777216) (hc : ∀ l ∈ c, LitN n l) (hv : val.length = n + 1) (h3 : ∀ l, vAt val l = 1 ∨ vAt val l = 0 ∨ vAt val l = -1) (h : ValB w b val) (hC : IntsAt w lo cv c) :
    Calls Tryd.prog 27 #[.slice (some ⟨b, 0, none⟩) (n + 1) cap, cv] w fun e w' => e = .returned (.tuple #[.int .i64 (unitP val c 0).1, .int .i64 ((unitP val c 0).2 : Int)]) ∧ Fr (fun _ => True) w w' := by
  have mo := follows
  obtain ⟨U, hU⟩ : ∃ U, unitP val c 0 = U := ⟨_, rfl⟩
  rw [hU]
  obtain ⟨a, cc, rfl, hrow⟩ := hC.ex
  have hbig := hC.big
  have HV : Hid (ValB w b val) := h
  have HR : Hid (c = [] ∨ ∃ p : Addr, a = some p ∧ p.block < lo ∧ ∀ i x, c[i]? = some x → w.cell? (p.add i) = some (.int .i64 x)) := hrow
  clear h hC hrow
  go_enter Tryd.func27, Tryd.ntmps27
  go_wp2_with fail
  go_loopg [6, 7] (c.length) (fun k s6 s7 wr => ∃ (j : Nat) (o : Int), s7 = .int .i64 (j : Int) ∧ s6 = .int .i64 o ∧ j + k = c.length ∧ wr = w ∧ Hid (unitP val (c.drop j) o = U))
  case atStart => exact ⟨0, 0, rfl, rfl, by omega, rfl, hU⟩
  case round =>
    obtain ⟨j, o, rfl, rfl, hjk, rfl, HU⟩ := hrel
    by_cases hj : j < c.length
    · obtain ⟨k, rfl⟩ : ∃ k, gk = k + 1 := ⟨gk - 1, by omega⟩
      obtain ⟨l, hl⟩ : ∃ l, c[j] = l := ⟨_, rfl⟩
      have hmem : l ∈ c := hl ▸ List.getElem_mem hj
      have hL := hc l hmem
      have hL' := hL
      unfold LitN at hL'
      obtain ⟨p, rfl, _, hp⟩ : ∃ p : Addr, a = some p ∧ p.block < lo ∧ ∀ i x, c[i]? = some x → wr.cell? (p.add i) = some (.int .i64 x) := by
        rcases HR.out with q | q
        · rw [q] at hj; simp at hj
        · exact q
      have cj := hp j l (by rw [List.getElem?_eq_getElem hj, hl])
      have hi : l.natAbs < val.length := by omega
      have cv := HV.out.cell (List.getElem?_eq_getElem hi)
      obtain ⟨x, hx⟩ : ∃ x, val[l.natAbs] = x := ⟨_, rfl⟩
      rw [hx] at cv
      have hxv : vAt val l = if l < 0 then -x else x := by unfold vAt; rw [List.getD_eq_getElem?_getD, List.getElem?_eq_getElem hi, hx]; rfl
      have hx3 := h3 l
      have hd : c.drop j = l :: c.drop (j + 1) := by rw [List.drop_eq_getElem_cons hj, hl]
      have HS : Hid (Calls _ _ _ _ _) := size_any wr l (by omega) (by omega)
      have j0 : (0 : Int) ≤ (j : Int) := by omega
      have j1 : (j : Int) < (c.length : Int) := by omega
      have i1 : (l.natAbs : Int) < ((n + 1 : Nat) : Int) := by omega
      have i2 : (l.natAbs : Int) < (n : Int) + 1 := by omega
      have i0 : (0 : Int) ≤ (l.natAbs : Int) := by omega
      have hu := HU.out
      rw [hd] at hu
      unfold unitP at hu
      by_cases q1 : 0 < vAt val l
      · rw [if_pos q1] at hu
        have HQ : Hid ((0, 2) = U) := hu
        clear hu HU
        by_cases hneg : l < 0
        · rw [if_pos hneg] at hxv
          have q2 : 0 < -x := by omega
          obtain rfl : x = -1 := by omega
          go_wp2_with (go_at_call 41; refine HS.out.mono ?_; rintro e w' ⟨rfl, hw⟩; replace hw := hw.symm; subst hw)
          exact bodyPost_ret (v := .tuple #[.int .i64 0, .int .i64 2]) (by simp [results, Tryd.results27, go_sem]) rfl ⟨by rw [← HQ.out]; rfl, Fr.refl _ _⟩
        · rw [if_neg hneg] at hxv
          obtain rfl : x = 1 := by omega
          go_wp2_with (go_at_call 41; refine HS.out.mono ?_; rintro e w' ⟨rfl, hw⟩; replace hw := hw.symm; subst hw)
          exact bodyPost_ret (v := .tuple #[.int .i64 0, .int .i64 2]) (by simp [results, Tryd.results27, go_sem]) rfl ⟨by rw [← HQ.out]; rfl, Fr.refl _ _⟩
      rw [if_neg q1] at hu
      by_cases q2 : vAt val l = 0
      · have hx0 : x = 0 := by rw [hxv] at q2; split at q2 <;> omega
        subst hx0
        rw [if_pos q2] at hu
        by_cases q3 : o ≠ 0 ∧ l ≠ o
        · rw [if_pos ⟨q2, q3⟩] at hu
          have HQ : Hid ((0, 2) = U) := hu
          have o1 : (o != 0) = true := by simpa using q3.1
          have o2 : (l != o) = true := by simpa using q3.2
          clear hu HU
          by_cases hneg : l < 0
          · go_wp2_with (go_at_call 41; refine HS.out.mono ?_; rintro e w' ⟨rfl, hw⟩; replace hw := hw.symm; subst hw)
            exact bodyPost_ret (v := .tuple #[.int .i64 0, .int .i64 2]) (by simp [results, Tryd.results27, go_sem]) rfl ⟨by rw [← HQ.out]; rfl, Fr.refl _ _⟩
          · go_wp2_with (go_at_call 41; refine HS.out.mono ?_; rintro e w' ⟨rfl, hw⟩; replace hw := hw.symm; subst hw)
            exact bodyPost_ret (v := .tuple #[.int .i64 0, .int .i64 2]) (by simp [results, Tryd.results27, go_sem]) rfl ⟨by rw [← HQ.out]; rfl, Fr.refl _ _⟩
        · rw [if_neg (fun q => q3 q.2)] at hu
          have HQ : Hid (unitP val (c.drop (j + 1)) l = U) := hu
          clear hu HU
          by_cases o1 : o = 0
          · subst o1
            by_cases hneg : l < 0
            · go_wp2_with (go_at_call 41; refine HS.out.mono ?_; rintro e w' ⟨rfl, hw⟩; replace hw := hw.symm; subst hw)
              go_roundg k
              case measure => omega
              case rel => exact ⟨j + 1, l, by simp, rfl, by omega, rfl, HQ⟩
            · go_wp2_with (go_at_call 41; refine HS.out.mono ?_; rintro e w' ⟨rfl, hw⟩; replace hw := hw.symm; subst hw)
              go_roundg k
              case measure => omega
              case rel => exact ⟨j + 1, l, by simp, rfl, by omega, rfl, HQ⟩
          · have o2 : (o != 0) = true := by simpa using o1
            obtain rfl : l = o := by rcases Classical.em (l = o) with e | e; exact e; exact absurd ⟨o1, e⟩ q3
            by_cases hneg : l < 0
            · go_wp2_with (go_at_call 41; refine HS.out.mono ?_; rintro e w' ⟨rfl, hw⟩; replace hw := hw.symm; subst hw)
              go_roundg k
              case measure => omega
              case rel => exact ⟨j + 1, l, by simp, rfl, by omega, rfl, HQ⟩
            · go_wp2_with (go_at_call 41; refine HS.out.mono ?_; rintro e w' ⟨rfl, hw⟩; replace hw := hw.symm; subst hw)
              go_roundg k
              case measure => omega
              case rel => exact ⟨j + 1, l, by simp, rfl, by omega, rfl, HQ⟩
      · rw [if_neg (fun q => q2 q.1), if_neg q2] at hu
        have HQ : Hid (unitP val (c.drop (j + 1)) o = U) := hu
        clear hu HU
        by_cases hneg : l < 0
        · rw [if_pos hneg] at hxv
          obtain rfl : x = 1 := by omega
          go_wp2_with (go_at_call 41; refine HS.out.mono ?_; rintro e w' ⟨rfl, hw⟩; replace hw := hw.symm; subst hw)
          go_roundg k
          case measure => omega
          case rel => exact ⟨j + 1, o, by simp, rfl, by omega, rfl, HQ⟩
        · rw [if_neg hneg] at hxv
          obtain rfl : x = -1 := by omega
          go_wp2_with (go_at_call 41; refine HS.out.mono ?_; rintro e w' ⟨rfl, hw⟩; replace hw := hw.symm; subst hw)
          go_roundg k
          case measure => omega
          case rel => exact ⟨j + 1, o, by simp, rfl, by omega, rfl, HQ⟩
    · have j1 : ¬ (j : Int) < (c.length : Int) := by omega
      obtain rfl : j = c.length := by omega
      have hu := HU.out
      rw [List.drop_length] at hu
      unfold unitP at hu
      by_cases o1 : o = 0
      · subst o1
        rw [if_pos rfl] at hu
        have HQ : Hid ((0, 0) = U) := hu
        clear hu HU
        go_wp2_with fail
        exact bodyPost_ret (v := .tuple #[.int .i64 0, .int .i64 0]) (by simp [results, Tryd.results27, go_sem]) rfl ⟨by rw [← HQ.out]; rfl, Fr.refl _ _⟩
      · rw [if_neg o1] at hu
        have HQ : Hid ((o, 1) = U) := hu
        have o2 : (o == 0) = false := by simpa using o1
        clear hu HU
        go_wp2_with fail
        exact bodyPost_ret (v := .tuple #[.int .i64 o, .int .i64 1]) (by simp [results, Tryd.results27, go_sem]) rfl ⟨by rw [← HQ.out]; rfl, Fr.refl _ _⟩

end Go.Proofs.YtbicefgjompnoaaDoor.Sx
