/- slices.SortStableFunc of literals: one behind many goes to its place. -/
import Derived.Test.YtbicefgjompnoaaA39
import Derived.Outline
import Derived.Deep.Cut
import Derived.Deep.CutRange
namespace Go.Proofs.Ytbicefgjompnoaa.Sx
open Go.RowKit Go.Sort

set_option maxRecDepth 100000 in
set_option maxHeartbeats 4000000 in
theorem sym_last (w W0 : World) (g K px : Nat) (tr : Nat → Int) (len cap a m : Nat) (d : Array Nat) (hC : CmpAt W0 g K px tr) (hK : ∀ t, t < len → d[t]! < K) (hW : Fr (· ≠ g) W0 w) (hd : len ≤ d.size) (hrow : LRow w g d) (hl : len ≤ 4294967296) (h2 : a + 1 < m) (h3 : m + 1 ≤ len) (hs : Srt (cS tr) d a m) :
    Calls Try.prog 79 #[.slice (some ⟨g, 0, none⟩) len cap, .int .i64 a, .int .i64 m, .int .i64 ((m + 1 : Nat) : Int), .func (.func 43) #[] #[.pointer (some ⟨px, 0, none⟩)]] w fun e w' => e = .returned (.tuple #[]) ∧ ∃ d' : Array Nat, Stb (cS tr) a (m + 1) d d' ∧ Srt (cS tr) d' a (m + 1) ∧ LRow w' g d' ∧ Fr (· ≠ g) w w' := by
  have H0 : Hid (LRow w g d) := hrow
  have HB : Hid (Fr (· ≠ g) W0 w) := hW
  have HS : Hid (Srt (cS tr) d a m) := hs
  have HCM : Hid (CmpAt W0 g K px tr) := hC
  have HK : Hid (∀ t, t < len → d[t]! < K) := hK
  clear hrow hW hs hC hK
  have mo := follows
  obtain ⟨zm, hzm⟩ : ∃ z, z = d[m]! := ⟨_, rfl⟩
  have HZM : Hid (zm = d[m]!) := hzm
  obtain ⟨b, hb⟩ : ∃ b, b = m + 1 := ⟨_, rfl⟩
  rw [← hb]
  have b1 : ((m : Int) - (a : Int) == 1) = false := by simp; omega
  have b2 : ((b : Int) - (m : Int) == 1) = true := by simp; omega
  have HBM : Hid (b = m + 1) := hb
  have hmb : m < b := by omega
  have hbl : b ≤ len := by omega
  have hal : a < len := by omega
  clear hb hzm
  go_enter Try.func79, Try.ntmps79
  go_wp2_with fail
  go_loopw [14, 15] (fun s t wr => ∃ (i j : Nat), s = .int .i64 i ∧ t = .int .i64 j ∧ a ≤ i ∧ i ≤ j ∧ j ≤ m ∧ Hid (∀ t, a ≤ t → t < i → 0 ≤ (cS tr) zm d[t]!) ∧ Hid (∀ t, j ≤ t → t < m → (cS tr) zm d[t]! < 0) ∧ Hid (Grew w wr)) (fun s t _ => (intOf t).toNat - (intOf s).toNat)
  case atStart => exact ⟨a, m, rfl, rfl, Nat.le_refl _, by omega, Nat.le_refl _, fun t h1 h2 => by omega, fun t h1 h2 => by omega, Grew.refl w⟩
  case round =>
    obtain ⟨i, j, rfl, rfl, hi, hij, hj, HLo, HHi, HG⟩ := hrel
    by_cases hlt : i < j
    · obtain ⟨h, hh⟩ : ∃ h, h = (i + j) / 2 := ⟨_, rfl⟩
      have x1 := LRow.grown (H0.out.of (P := fun _ => True) (Fr.grew HG.out) trivial) h (by omega)
      have y1 := LRow.grown (H0.out.of (P := fun _ => True) (Fr.grew HG.out) trivial) m (by omega)
      rw [← HZM.out] at y1
      have ea : (((i : Int) + (j : Int)) / 2).toNat = h := by omega
      have pa : (0 : Int) ≤ ((i : Int) + (j : Int)) / 2 := by omega
      have ba : ((i : Int) + (j : Int)) / 2 < (len : Int) := by omega
      have ra : IntKind.i64.wrap (((i : Int) + (j : Int)) / 2) = ((i : Int) + (j : Int)) / 2 := by rw [IntKind.wrap_i64]; omega
      have ec : ((m : Int)).toNat = m := by omega
      have pc : (0 : Int) ≤ (m : Int) := by omega
      have bc : (m : Int) < (len : Int) := by omega
      have rc : IntKind.i64.wrap ((m : Int)) = (m : Int) := by rw [IntKind.wrap_i64]; omega
      have hzK : zm < K := by rw [HZM.out]; exact HK.out m (by omega)
      have HC : Hid (∀ q os, Calls Try.prog 43 #[.int .i32 ((zm : Nat) : Int), .int .i32 ((d[h]! : Nat) : Int), .pointer (some ⟨px, 0, none⟩)] (grow (wr.drewN q) os) fun e w' => e = .returned (.int .i64 (tr d[h]! - tr zm)) ∧ Grew (grow (wr.drewN q) os) w') := fun q os => HCM.out _ (HB.out.trans (Fr.grew (HG.out.grown q os))) _ _ hzK (HK.out h (by omega))
      have cI : (cS tr) zm d[h]! < 0 ↔ tr d[h]! - tr zm < 0 := cS_lt tr _ _
      have HLt : Hid (tr d[h]! - tr zm < 0 → ∀ t, h ≤ t → t < m → (cS tr) zm d[t]! < 0) := by
        intro q t q1 q2
        have cI := cI
        exact lt_le (ordS tr) (cI.2 q) (HS.out.le (ordS tr) (by omega) q1 q2)
      have HGe : Hid (0 ≤ tr d[h]! - tr zm → ∀ t, a ≤ t → t < h + 1 → 0 ≤ (cS tr) zm d[t]!) := by
        intro q t q1 q2
        have cI := cI
        by_cases q3 : (cS tr) zm d[t]! < 0
        · have := lt_le (ordS tr) q3 (HS.out.le (ordS tr) q1 (show t ≤ h by omega) (by omega))
          omega
        · omega
      clear cI hzK
      generalize tr d[h]! - tr zm = cv at HC HLt HGe
      generalize d[h]! = zh at x1 HC
      have hh1 : i ≤ h := by omega
      have hh2 : h < j := by omega
      have HH : Hid (h = (i + j) / 2) := hh
      clear hh
      by_cases hc : cv < 0
      · have hcb : decide (cv < 0) = true := by simp [hc]
        go_wp2_with fail
        go_quiet_grown (first | (go_at_call 43; refine Calls.grown_of (HC.out _ _)))
        have G1 : Hid (Grew w (grow (wr.drewN nq) osq)) := HG.out.grown _ _
        clear x1 y1 HG HC ea pa ba ra ec pc bc rc
        generalize grow (wr.drewN nq) osq = W1 at G1 ⊢
        clear nq osq
        go_wp2_with fail
        go_roundw
        case rel => exact ⟨i, h, rfl, by rw [show ((i : Int) + (j : Int)) / 2 = ((h : Nat) : Int) from by have := HH.out; omega], hi, by omega, by omega, HLo, HLt.out hc, G1⟩
        case measure => have := HH.out; simp [intOf]; omega
      · have hcb : decide (cv < 0) = false := by simp [hc]
        go_wp2_with fail
        go_quiet_grown (first | (go_at_call 43; refine Calls.grown_of (HC.out _ _)))
        have G1 : Hid (Grew w (grow (wr.drewN nq) osq)) := HG.out.grown _ _
        clear x1 y1 HG HC ea pa ba ra ec pc bc rc
        generalize grow (wr.drewN nq) osq = W1 at G1 ⊢
        clear nq osq
        go_wp2_with fail
        go_roundw
        case rel => exact ⟨h + 1, j, by rw [show ((i : Int) + (j : Int)) / 2 + 1 = ((h + 1 : Nat) : Int) from by have := HH.out; omega], rfl, by omega, by omega, hj, HGe.out (by omega), HHi, G1⟩
        case measure => have := HH.out; simp [intOf]; omega
    · obtain rfl : i = j := by omega
      have HR1 : Hid (LRow wr g d) := H0.out.of (P := fun _ => True) (Fr.grew HG.out) trivial
      have HF1 : Hid (Fr (· ≠ g) w wr) := Fr.grew HG.out
      have HRT : Hid (RotL d d m m (m + 1)) := RotL.same_l d m (m + 1) (by omega) (by omega)
      go_wp2_with fail
      go_loopw [17] (fun s wr => ∃ (k : Nat) (e : Array Nat), s = .int .i64 k ∧ i ≤ k ∧ k ≤ m ∧ Hid (RotL d e k m (m + 1)) ∧ Hid (LRow wr g e) ∧ Hid (Fr (· ≠ g) w wr)) (fun s _ => (intOf s).toNat)
      case atStart => exact ⟨m, d, rfl, by omega, Nat.le_refl _, HRT, HR1, HF1⟩
      case round =>
        clear HR1 HF1 HRT
        obtain ⟨k, e, rfl, hak, hki, HRT, HR, HF⟩ := hrel
        by_cases hlt2 : i < k
        · obtain ⟨q, rfl⟩ : ∃ q, k = q + 1 := ⟨k - 1, by omega⟩
          have SR : Hid (RotL d _ q m (m + 1)) := HRT.out.down
          obtain ⟨k, hk⟩ : ∃ k, k = q + 1 := ⟨_, rfl⟩
          rw [← hk] at SR
          rw [show ((q + 1 : Nat) : Int) = (q : Int) + 1 from by omega]
          have hes : e.size = d.size := HRT.out.size
          obtain ⟨x, hx⟩ : ∃ x, e[k]! = x := ⟨_, rfl⟩
          have Hx : Hid (e[k]! = x) := hx
          obtain ⟨y, hy⟩ : ∃ y, e[q]! = y := ⟨_, rfl⟩
          have Hy : Hid (e[q]! = y) := hy
          clear hx hy
          have cc0 := HR.out.cell (i := k) (by omega)
          have cd0 := HR.out.drew.cell (i := k) (by omega)
          have cz0 := HR.out.free k
          have cy0 := HR.out.drew.free k
          rw [Hx.out] at cc0 cd0
          have cc1 := HR.out.cell (i := q) (by omega)
          have cd1 := HR.out.drew.cell (i := q) (by omega)
          have cz1 := HR.out.free q
          have cy1 := HR.out.drew.free q
          rw [Hy.out] at cc1 cd1
          have ea : ((q : Int) + 1).toNat = k := by omega
          have pa : (0 : Int) ≤ (q : Int) + 1 := by omega
          have ba : (q : Int) + 1 < (len : Int) := by omega
          have ra : IntKind.i64.wrap ((q : Int) + 1) = (q : Int) + 1 := by rw [IntKind.wrap_i64]; omega
          have ec : ((q : Int)).toNat = q := by omega
          have pc : (0 : Int) ≤ (q : Int) := by omega
          have bc : (q : Int) < (len : Int) := by omega
          have rc : IntKind.i64.wrap ((q : Int)) = (q : Int) := by rw [IntKind.wrap_i64]; omega
          have lt2 : (i : Int) < (q : Int) + 1 := by omega
          have SW : Hid (LRow (swL wr g k q x y) g (swp e k q)) := by rw [← Hx.out, ← Hy.out]; exact HR.out.swap _ _
          have SF : Hid (Fr (· ≠ g) w (swL wr g k q x y)) := HF.out.swapL _ _ _ _
          have hkq : q < k := by omega
          clear hk HR HF HRT hes Hx Hy
          generalize swp e k q = e2 at SW SR
          go_wp2_with fail
          go_big_region_o
          go_wp2_with fail
          go_roundw
          case rel => exact ⟨q, e2, by go_num, by omega, by omega, SR, SW, SF⟩
          case measure => simp [intOf]
        · obtain rfl : k = i := by omega
          have HFin : Hid (Stb (cS tr) a (m + 1) d e ∧ Srt (cS tr) e a (m + 1)) := by
            have hz := HZM.out
            exact merge_last (ordS tr) HS.out hi hki (fun t q1 q2 => by rw [← hz]; have := HLo.out t q1 q2; omega) (fun t q1 q2 => by rw [← hz]; exact HHi.out t q1 q2) HRT.out
          go_wp2_with fail
          refine bodyPost_ret (results_none rfl _ _ _) rfl ?_
          rw [HBM.out]
          exact ⟨rfl, e, HFin.out.1, HFin.out.2, HR.out, HF.out⟩
end Go.Proofs.Ytbicefgjompnoaa.Sx
/- slices.SortStableFunc of literals: two sorted neighbours are merged. -/
namespace Go.Proofs.Ytbicefgjompnoaa.Sx
open Go.RowKit Go.Sort

theorem RotL.allK {K s m t len : Nat} {d e : Array Nat} (h : RotL d e s m t) (ht : t ≤ len) (hK : ∀ i, i < len → d[i]! < K) : ∀ i, i < len → e[i]! < K := by
  intro i hi
  have hle := h.le
  by_cases q1 : i < s ∨ t ≤ i
  · rw [h.out i q1]; exact hK i hi
  · by_cases q2 : i < s + (t - m)
    · rw [h.lo i (by omega) q2]; exact hK _ (by omega)
    · rw [h.hi i (by omega) (by omega)]; exact hK _ (by omega)
theorem Stb.allK {c : Nat → Nat → Int} {K a b len : Nat} {d e : Array Nat} (h : Stb c a b d e) (hb : b ≤ len) (hK : ∀ t, t < len → d[t]! < K) : ∀ t, t < len → e[t]! < K := by
  intro t ht
  by_cases q : a ≤ t ∧ t < b
  · obtain ⟨j, _, h2, h3⟩ := h.mem t q.1 q.2
    rw [h3]; exact hK j (by omega)
  · rw [h.out t (by omega)]; exact hK t ht

/-- the contract of symMerge, at rows of so many -/
def SymOK (W0 : World) (g K px : Nat) (tr : Nat → Int) (len cap f : Nat) : Prop := ∀ (w : World) (a m b : Nat) (d : Array Nat), b - a ≤ f → (∀ t, t < len → d[t]! < K) → Fr (· ≠ g) W0 w → len ≤ d.size → LRow w g d → a < m → m < b → b ≤ len → Srt (cS tr) d a m → Srt (cS tr) d m b →
  Calls Try.prog 79 #[.slice (some ⟨g, 0, none⟩) len cap, .int .i64 a, .int .i64 m, .int .i64 b, .func (.func 43) #[] #[.pointer (some ⟨px, 0, none⟩)]] w fun e w' => e = .returned (.tuple #[]) ∧ ∃ d' : Array Nat, Stb (cS tr) a b d d' ∧ Srt (cS tr) d' a b ∧ LRow w' g d' ∧ Fr (· ≠ g) w w'

/-- the search's end -/
theorem found_of {α : Type} [Inhabited α] {c : α → α → Int} (O : Ord3 c) {d : Array α} {a m b mid s s0 r0 : Nat} (hmid : mid = (a + b) / 2) (h1 : a < m) (h2 : m < b) (hs0 : s0 = if m > mid then mid + m - b else a) (hr0 : r0 = if m > mid then mid else m) (hs1 : s0 ≤ s) (hs2 : s ≤ r0)
    (lo : s0 < s → 0 ≤ c d[mid + m - 1 - (s - 1)]! d[s - 1]!) (hi : s < r0 → c d[mid + m - 1 - s]! d[s]! < 0) : Found c d a m b mid s (mid + m - s) := by
  by_cases q : m > mid
  · rw [if_pos q] at hs0 hr0
    refine ⟨hmid, by omega, by omega, by omega, by omega, by omega, fun p1 p2 => ?_, fun p1 p2 => ?_⟩
    · have := hi (by omega)
      rwa [show mid + m - 1 - s = mid + m - s - 1 from by omega] at this
    · have := lo (by omega)
      rw [show mid + m - 1 - (s - 1) = mid + m - s from by omega, O.anti] at this
      omega
  · rw [if_neg q] at hs0 hr0
    refine ⟨hmid, by omega, by omega, by omega, by omega, by omega, fun p1 p2 => ?_, fun p1 p2 => ?_⟩
    · have := hi (by omega)
      rwa [show mid + m - 1 - s = mid + m - s - 1 from by omega] at this
    · have := lo (by omega)
      rw [show mid + m - 1 - (s - 1) = mid + m - s from by omega, O.anti] at this
      omega

set_option maxRecDepth 100000 in
set_option maxHeartbeats 8000000 in
theorem sym_gen (W0 : World) (g K px : Nat) (tr : Nat → Int) (hC : CmpAt W0 g K px tr) (len cap f : Nat) (hl : len ≤ 4294967296) (IH : SymOK W0 g K px tr len cap f) (w : World) (a m b : Nat) (d : Array Nat) (hf : b - a ≤ f + 1) (hK : ∀ t, t < len → d[t]! < K) (hW : Fr (· ≠ g) W0 w) (hd : len ≤ d.size) (hrow : LRow w g d) (h1 : a + 1 < m) (h2 : m + 1 < b) (h3 : b ≤ len) (hs1 : Srt (cS tr) d a m) (hs2 : Srt (cS tr) d m b) :
    Calls Try.prog 79 #[.slice (some ⟨g, 0, none⟩) len cap, .int .i64 a, .int .i64 m, .int .i64 b, .func (.func 43) #[] #[.pointer (some ⟨px, 0, none⟩)]] w fun e w' => e = .returned (.tuple #[]) ∧ ∃ d' : Array Nat, Stb (cS tr) a b d d' ∧ Srt (cS tr) d' a b ∧ LRow w' g d' ∧ Fr (· ≠ g) w w' := by
  have H0 : Hid (LRow w g d) := hrow
  have HB : Hid (Fr (· ≠ g) W0 w) := hW
  have HS1 : Hid (Srt (cS tr) d a m) := hs1
  have HS2 : Hid (Srt (cS tr) d m b) := hs2
  have HIH : Hid (SymOK W0 g K px tr len cap f) := IH
  have HCM : Hid (CmpAt W0 g K px tr) := hC
  have HK : Hid (∀ t, t < len → d[t]! < K) := hK
  clear hrow hW hs1 hs2 IH hC hK
  have mo := follows
  have b1 : ((m : Int) - (a : Int) == 1) = false := by simp; omega
  have b2 : ((b : Int) - (m : Int) == 1) = false := by simp; omega
  obtain ⟨mid, hmid⟩ : ∃ q, q = (a + b) / 2 := ⟨_, rfl⟩
  have ez : ((a : Int) + (b : Int)) / 2 = (mid : Int) := by omega
  obtain ⟨s0, hs0⟩ : ∃ q, q = if m > mid then mid + m - b else a := ⟨_, rfl⟩
  obtain ⟨r0, hr0⟩ : ∃ q, q = if m > mid then mid else m := ⟨_, rfl⟩
  have m1 : a < mid := by omega
  have m2 : mid < b := by omega
  have bs0 : a ≤ s0 := by rw [hs0]; split <;> omega
  have br0 : r0 ≤ m := by rw [hr0]; split <;> omega
  have bsr : s0 ≤ r0 := by rw [hs0, hr0]; split <;> omega
  have bsn : mid + m ≤ s0 + b := by rw [hs0]; split <;> omega
  have HMID : Hid (mid = (a + b) / 2) := hmid
  have HS0 : Hid _ := hs0
  have HR0 : Hid _ := hr0
  -- the rest, behind the search
  clear hmid hs0 hr0
  have HF0 : Hid (∀ s, s0 ≤ s → s ≤ r0 → _ → _ → Found (cS tr) d a m b mid s _) := fun s q1 q2 q3 q4 =>
    found_of (ordS tr) HMID.out (by omega) (by omega) HS0.out HR0.out q1 q2 q3 q4
  have bc1 : ∀ c, s0 ≤ c → c < r0 → m ≤ mid + m - 1 - c ∧ mid + m - 1 - c < b := by
    intro c q1 q2
    have e1 := HS0.out
    have e2 := HR0.out
    split at e1 <;> rename_i q
    · rw [if_pos q] at e2; omega
    · rw [if_neg q] at e2; omega
  have BC : Hid _ := bc1
  clear bc1
  go_enter Try.func79, Try.ntmps79
  go_upto_if 140 with fail
  go_cut [20, 21] from 141 (fun s20 s21 wx => s20 = .int .i64 (s0 : Int) ∧ s21 = .int .i64 (r0 : Int) ∧ w = wx)
  case first =>
    by_cases hq : mid < m
    · have e0 : (mid : Int) + (m : Int) - (b : Int) = (s0 : Int) := by have := HS0.out; rw [if_pos hq] at this; omega
      have e1 : (mid : Int) = (r0 : Int) := by have := HR0.out; rw [if_pos hq] at this; omega
      have E0 : Hid (_ + _ - _ = _ ∧ _ = _) := ⟨e0, e1⟩
      have hqb : decide ((mid : Int) < (m : Int)) = true := by simp; omega
      clear e0 e1
      go_wp2_with fail
      go_meet
      exact ⟨by rw [E0.out.1], by rw [E0.out.2], rfl⟩
    · have e0 : (a : Int) = (s0 : Int) := by have := HS0.out; rw [if_neg hq] at this; omega
      have e1 : (m : Int) = (r0 : Int) := by have := HR0.out; rw [if_neg hq] at this; omega
      have E0 : Hid (_ = _ ∧ _ = _) := ⟨e0, e1⟩
      have hqb : decide ((mid : Int) < (m : Int)) = false := by simp; omega
      clear e0 e1
      go_wp2_with fail
      go_meet
      exact ⟨by rw [E0.out.1], by rw [E0.out.2], rfl⟩
  case rest =>
    obtain ⟨rfl, rfl, rfl⟩ := hcut
    go_wp2_with fail
    go_loopw [20, 21] (fun x y wr => ∃ (s r : Nat), x = .int .i64 s ∧ y = .int .i64 r ∧ s0 ≤ s ∧ s ≤ r ∧ r ≤ r0 ∧ Hid (s0 < s → 0 ≤ (cS tr) d[mid + m - 1 - (s - 1)]! d[s - 1]!) ∧ Hid (r < r0 → (cS tr) d[mid + m - 1 - r]! d[r]! < 0) ∧ Hid (Grew w wr)) (fun x y _ => (intOf y).toNat - (intOf x).toNat)
    case atStart => exact ⟨s0, r0, rfl, rfl, Nat.le_refl _, bsr, Nat.le_refl _, fun q => by omega, fun q => by omega, Grew.refl _⟩
    case round =>
      obtain ⟨s, r, rfl, rfl, q1, q2, q3, HLo, HHi, HG⟩ := hrel
      by_cases hlt : s < r
      · obtain ⟨c, hc⟩ : ∃ c, c = (s + r) / 2 := ⟨_, rfl⟩
        obtain ⟨p, hp⟩ : ∃ p, p = mid + m - 1 - c := ⟨_, rfl⟩
        have hpb := BC.out c (by omega) (by omega)
        rw [← hp] at hpb
        have x1 := LRow.grown (H0.out.of (P := fun _ => True) (Fr.grew HG.out) trivial) p (by omega)
        have y1 := LRow.grown (H0.out.of (P := fun _ => True) (Fr.grew HG.out) trivial) c (by omega)
        have eqc : ((s : Int) + (r : Int)) / 2 = (c : Int) := by omega
        have eqp : (mid : Int) + (m : Int) - 1 - (c : Int) = (p : Int) := by omega
        have bp : p < len := by omega
        have rp : IntKind.i64.wrap (p : Int) = (p : Int) := by rw [IntKind.wrap_i64]; omega
        have bc : c < len := by omega
        have HC : Hid (∀ q os, Calls Try.prog 43 #[.int .i32 ((d[p]! : Nat) : Int), .int .i32 ((d[c]! : Nat) : Int), .pointer (some ⟨px, 0, none⟩)] (grow (wr.drewN q) os) fun e w' => e = .returned (.int .i64 (tr d[c]! - tr d[p]!)) ∧ Grew (grow (wr.drewN q) os) w') := fun q os => HCM.out _ (HB.out.trans (Fr.grew (HG.out.grown q os))) _ _ (HK.out p (by omega)) (HK.out c (by omega))
        have cI : (cS tr) d[p]! d[c]! < 0 ↔ tr d[c]! - tr d[p]! < 0 := cS_lt tr _ _
        have HLt : Hid (tr d[c]! - tr d[p]! < 0 → (cS tr) d[mid + m - 1 - c]! d[c]! < 0) := by rw [← hp]; exact cI.2
        have HGe : Hid (0 ≤ tr d[c]! - tr d[p]! → 0 ≤ (cS tr) d[mid + m - 1 - (c + 1 - 1)]! d[c + 1 - 1]!) := by rw [Nat.add_sub_cancel, ← hp]; intro q; have := cI; omega
        clear cI
        generalize tr d[c]! - tr d[p]! = cv at HC HLt HGe
        generalize d[p]! = zp at x1 HC
        generalize d[c]! = zc at y1 HC
        have hh1 : s ≤ c := by omega
        have hh2 : c < r := by omega
        have HH : Hid (c = (s + r) / 2) := hc
        clear hc hp
        by_cases hv : cv < 0
        · have hcb : decide (cv < 0) = true := by simp [hv]
          go_wp2_with fail
          go_quiet_grown (first | (go_at_call 43; refine Calls.grown_of (HC.out _ _)))
          have G1 : Hid (Grew w (grow (wr.drewN nq) osq)) := HG.out.grown _ _
          clear x1 y1 HG HC
          generalize grow (wr.drewN nq) osq = W1 at G1 ⊢
          clear nq osq
          go_wp2_with fail
          go_roundw
          case rel => exact ⟨s, c, rfl, rfl, q1, by omega, by omega, HLo, fun _ => HLt.out hv, G1⟩
          case measure => have := HH.out; simp [intOf]; omega
        · have hcb : decide (cv < 0) = false := by simp [hv]
          go_wp2_with fail
          go_quiet_grown (first | (go_at_call 43; refine Calls.grown_of (HC.out _ _)))
          have G1 : Hid (Grew w (grow (wr.drewN nq) osq)) := HG.out.grown _ _
          clear x1 y1 HG HC
          generalize grow (wr.drewN nq) osq = W1 at G1 ⊢
          clear nq osq
          go_wp2_with fail
          go_roundw
          case rel => exact ⟨c + 1, r, by go_num, rfl, by omega, by omega, q3, fun _ => HGe.out (by omega), HHi, G1⟩
          case measure => have := HH.out; simp [intOf]; omega
      · obtain rfl : s = r := by omega
        obtain ⟨t, ht⟩ : ∃ t, t = mid + m - s := ⟨_, rfl⟩
        have F : Found (cS tr) d a m b mid s t := by rw [ht]; exact HF0.out s q1 q3 HLo.out HHi.out
        have f1 := F.sum; have f2 := F.s1; have f3 := F.s2; have f4 := F.t1; have f5 := F.t2
        have HFd : Hid (Found (cS tr) d a m b mid s t) := F
        have HTT : Hid (t = mid + m - s) := ht
        have HSM : Hid (s + t = mid + m) := f1
        have e1 : (mid : Int) + (m : Int) - (s : Int) = (t : Int) := by omega
        have P0 : Hid (LRow wr g d) := H0.out.of (P := fun _ => True) (Fr.grew HG.out) trivial
        have F0 : Hid (Fr (· ≠ g) w wr) := Fr.grew HG.out
        have ts1 : t ≤ mid + m := by omega
        have ts2 : (s < m → mid < t) ∧ (m < t → s < mid) ∧ (s ≤ mid) ∧ (mid ≤ t) := by omega
        have TS : Hid _ := ts2
        clear F ht f1 HG ts2
        go_upto_region 39 with fail
        go_cut [24, 185] from 178 (fun s24 sc wx => s24 = .int .i64 (t : Int) ∧ sc = .bool (decide (s < m ∧ m < t)) ∧ wr = wx)
        case first =>
          rcases (show (s < m ∧ m < t) ∨ (s < m ∧ ¬ m < t) ∨ ¬ s < m from by omega) with ⟨c1, c2⟩ | ⟨c1, c2⟩ | c1
          · have d1 : decide ((s : Int) < (m : Int)) = true := by simp; omega
            have d2 : decide ((m : Int) < (t : Int)) = true := by simp; omega
            have HD : Hid (decide (s < m ∧ m < t) = true) := decide_eq_true ⟨c1, c2⟩
            go_wp2_with fail
            go_meet
            exact ⟨rfl, by rw [HD.out], rfl⟩
          · have d1 : decide ((s : Int) < (m : Int)) = true := by simp; omega
            have d2 : decide ((m : Int) < (t : Int)) = false := by simp; omega
            have HD : Hid (decide (s < m ∧ m < t) = false) := decide_eq_false (fun q => c2 q.2)
            go_wp2_with fail
            go_meet
            exact ⟨rfl, by rw [HD.out], rfl⟩
          · have d1 : decide ((s : Int) < (m : Int)) = false := by simp; omega
            have HD : Hid (decide (s < m ∧ m < t) = false) := decide_eq_false (fun q => c1 q.1)
            go_wp2_with fail
            go_meet
            exact ⟨rfl, by rw [HD.out], rfl⟩
        case rest =>
          obtain ⟨rfl, rfl, rfl⟩ := hcut
          go_upto_if 185 with fail
          go_cut [185] from 186 (fun _ wx => ∃ d1 : Array Nat, Hid (RotL d d1 s m t) ∧ Hid (LRow wx g d1) ∧ Hid (Fr (· ≠ g) w wx))
          case first =>
            by_cases c1 : s < m ∧ m < t
            · have HD : Hid _ := decide_eq_true c1
              have HC : Hid (Calls _ 86 #[_, _, _, _, _] wr _) := rotate_any wr g len cap s m t (.func (.func 43) #[] #[.pointer (some ⟨px, 0, none⟩)]) d hd P0.out hl c1.1 c1.2 (by omega)
              rw [HD.out]
              clear c1
              go_wp2_with fail
              refine HC.out.mono ?_
              rintro x w1 ⟨rfl, d1, hr1, hf1, hrot⟩
              have R1 : Hid (LRow w1 g d1) := hr1
              have F1 : Hid _ := F0.out.trans hf1
              have RT : Hid (RotL d d1 s m t) := hrot
              clear hr1 hf1 hrot
              go_wp2_with fail
              go_meet
              exact ⟨d1, RT, R1, F1⟩
            · have HD : Hid _ := decide_eq_false c1
              have RT : Hid (RotL d d s m t) := by
                rcases (show s = m ∨ m = t from by omega) with q | q
                · subst q; exact RotL.same_l d s t f4 (by omega)
                · subst q; exact RotL.same_r d s m f3 (by omega)
              rw [HD.out]
              clear c1
              go_wp2_with fail
              go_meet
              exact ⟨d, RT, P0, F0⟩
          case rest =>
            clear P0 F0
            obtain ⟨d1, RT, P0, F0⟩ := hcut
            generalize wc = W1 at P0 F0 ⊢
            have PT : Hid _ := rot_parts HS1.out HS2.out HFd.out RT.out
            have hd1 : len ≤ d1.size := by rw [RT.out.size]; exact hd
            have HK1 : Hid (∀ t, t < len → d1[t]! < K) := RT.out.allK (by omega) HK.out
            go_upto_region 41 with fail
            go_cut [199] from 192 (fun sc wx => sc = .bool (decide (a < s ∧ s < mid)) ∧ W1 = wx)
            case first =>
              rcases (show (a < s ∧ s < mid) ∨ (a < s ∧ ¬ s < mid) ∨ ¬ a < s from by omega) with ⟨c1, c2⟩ | ⟨c1, c2⟩ | c1
              · have d1 : decide ((a : Int) < (s : Int)) = true := by simp; omega
                have d2 : decide ((s : Int) < (mid : Int)) = true := by simp; omega
                have HD : Hid (decide (a < s ∧ s < mid) = true) := decide_eq_true ⟨c1, c2⟩
                go_wp2_with fail
                go_meet
                exact ⟨by rw [HD.out], rfl⟩
              · have d1 : decide ((a : Int) < (s : Int)) = true := by simp; omega
                have d2 : decide ((s : Int) < (mid : Int)) = false := by simp; omega
                have HD : Hid (decide (a < s ∧ s < mid) = false) := decide_eq_false (fun q => c2 q.2)
                go_wp2_with fail
                go_meet
                exact ⟨by rw [HD.out], rfl⟩
              · have d1 : decide ((a : Int) < (s : Int)) = false := by simp; omega
                have HD : Hid (decide (a < s ∧ s < mid) = false) := decide_eq_false (fun q => c1 q.1)
                go_wp2_with fail
                go_meet
                exact ⟨by rw [HD.out], rfl⟩
            case rest =>
              obtain ⟨rfl, rfl⟩ := hcut
              go_upto_if 199 with fail
              go_cut [199] from 200 (fun _ wx => ∃ d2 : Array Nat, Hid (Stb (cS tr) a mid d1 d2 ∧ Srt (cS tr) d2 a mid) ∧ Hid (LRow wx g d2) ∧ Hid (Fr (· ≠ g) w wx))
              case first =>
                by_cases c1 : a < s ∧ s < mid
                · have HD : Hid _ := decide_eq_true c1
                  have HC : Hid (Calls _ 79 #[_, _, _, _, _] W1 _) := HIH.out W1 a s mid d1 (by omega) HK1.out (HB.out.trans F0.out) hd1 P0.out c1.1 c1.2 (by omega) PT.out.1 PT.out.2.1
                  rw [HD.out]
                  clear c1
                  go_wp2_with fail
                  refine HC.out.mono ?_
                  rintro x w1 ⟨rfl, d2, hs2, ho2, hr2, hf2⟩
                  have R2 : Hid (LRow w1 g d2) := hr2
                  have F2 : Hid _ := F0.out.trans hf2
                  have S2 : Hid (_ ∧ _) := ⟨hs2, ho2⟩
                  clear hr2 hf2 hs2 ho2
                  go_wp2_with fail
                  go_meet
                  exact ⟨d2, S2, R2, F2⟩
                · have HD : Hid _ := decide_eq_false c1
                  have S2 : Hid (Stb (cS tr) a mid d1 d1 ∧ _) := ⟨Stb.refl _ _ _ _, Srt.join0 PT.out.1 PT.out.2.1 (by have := TS.out.2.2.1; omega)⟩
                  rw [HD.out]
                  clear c1
                  go_wp2_with fail
                  go_meet
                  exact ⟨d1, S2, P0, F0⟩
              case rest =>
                clear P0 F0
                obtain ⟨d2, S2, P0, F0⟩ := hcut
                generalize wc = W2 at P0 F0 ⊢
                have hd2 : len ≤ d2.size := by rw [S2.out.1.size]; exact hd1
                have HK2 : Hid (∀ t, t < len → d2[t]! < K) := S2.out.1.allK (by omega) HK1.out
                have P2 : Hid (_ ∧ _) := ⟨PT.out.2.2.1.keep fun i q1 _ => S2.out.1.out i (.inr q1), PT.out.2.2.2.keep fun i q1 _ => S2.out.1.out i (.inr (by have := TS.out.2.2.2; omega))⟩
                by_cases c1 : mid < t ∧ t < b
                · have e1 : decide ((mid : Int) < (t : Int)) = true := by simp; omega
                  have e2 : decide ((t : Int) < (b : Int)) = true := by simp; omega
                  have HC : Hid (Calls _ 79 #[_, _, _, _, _] W2 _) := HIH.out W2 mid t b d2 (by omega) HK2.out (HB.out.trans F0.out) hd2 P0.out c1.1 c1.2 h3 P2.out.1 P2.out.2
                  obtain ⟨c2, c3⟩ := c1
                  go_wp2_with fail
                  refine HC.out.mono ?_
                  rintro x w1 ⟨rfl, d3, hs3, ho3, hr3, hf3⟩
                  have R3 : Hid (LRow w1 g d3) := hr3
                  have F3 : Hid _ := F0.out.trans hf3
                  have HFin : Hid _ := merge_halves (ordS tr) HS1.out HS2.out HFd.out RT.out S2.out.1 S2.out.2 hs3 ho3
                  clear hr3 hf3 hs3 ho3
                  go_wp2_with fail
                  go_end0
                  exact ⟨rfl, d3, HFin.out.1, HFin.out.2, R3.out, F3.out⟩
                · have HFin : Hid _ := merge_halves (ordS tr) HS1.out HS2.out HFd.out RT.out S2.out.1 S2.out.2 (Stb.refl _ _ _ _) (Srt.join0 P2.out.1 P2.out.2 (by have := TS.out.2.2.2; omega))
                  rcases (show (mid < t ∧ ¬ t < b) ∨ ¬ mid < t from by omega) with ⟨c2, c3⟩ | c2
                  · have e1 : decide ((mid : Int) < (t : Int)) = true := by simp; omega
                    have e2 : decide ((t : Int) < (b : Int)) = false := by simp; omega
                    clear c1
                    go_wp2_with fail
                    go_end0
                    exact ⟨rfl, d2, HFin.out.1, HFin.out.2, P0.out, F0.out⟩
                  · have e1 : decide ((mid : Int) < (t : Int)) = false := by simp; omega
                    clear c1
                    go_wp2_with fail
                    go_end0
                    exact ⟨rfl, d2, HFin.out.1, HFin.out.2, P0.out, F0.out⟩

theorem symMerge_any (W0 : World) (g K px : Nat) (tr : Nat → Int) (hC : CmpAt W0 g K px tr) (len cap : Nat) (hl : len ≤ 4294967296) : ∀ f, SymOK W0 g K px tr len cap f
  | 0 => fun w a m b d hf _ _ _ _ h1 h2 _ _ _ => by omega
  | f + 1 => fun w a m b d hf hK hW hd hrow h1 h2 h3 hs1 hs2 => by
    by_cases q1 : a + 1 = m
    · subst q1
      exact sym_first w W0 g K px tr len cap a b d hC hK hW hd hrow hl h2 h3 hs2
    · by_cases q2 : m + 1 = b
      · subst q2
        exact sym_last w W0 g K px tr len cap a m d hC hK hW hd hrow hl (by omega) h3 hs1
      · exact sym_gen W0 g K px tr hC len cap f hl (symMerge_any W0 g K px tr hC len cap hl f) w a m b d hf hK hW hd hrow (by omega) (by omega) h3 hs1 hs2

end Go.Proofs.Ytbicefgjompnoaa.Sx
