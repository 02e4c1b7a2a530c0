/- slices.Sort of literals: pdqsort. -/
import Derived.Test.YtbicefgjompnoaaDoorF11
namespace Go.Proofs.YtbicefgjompnoaaDoor.Sx
open Go.RowKit Go.Sort

set_option maxRecDepth 100000 in
set_option maxHeartbeats 8000000 in
theorem pdq_any (g len cap : Nat) (hl : len ≤ 4294967296) : ∀ (N : Nat) (w : World) (a b lim : Nat) (d : Array Nat), b - a ≤ N → LRow w g d → len ≤ d.size → b ≤ len → a ≤ b → lim ≤ 100 →
    Calls Tryd.prog 69 #[.slice (some ⟨g, 0, none⟩) len cap, .int .i64 a, .int .i64 b, .int .i64 lim] w (RowPost w g (pdq ltN d a b lim true true)) := by
  intro N
  induction N with
  | zero =>
    intro w a b lim d hN h hd hb hab hlim
    have mo := follows
    obtain rfl : a = b := by omega
    have HC : Hid (Calls _ _ _ _ _) := insSort_any w g len cap a a d h hl hd hb (Nat.le_refl _)
    have e : pdq ltN d a a lim true true = insertionSort ltN d a a := by unfold pdq; rw [if_pos (by omega)]
    rw [e]
    generalize insertionSort ltN d a a = R at HC ⊢
    have i1 : (a : Int) - (a : Int) ≤ 12 := by omega
    clear h e
    go_enter Tryd.func69, Tryd.ntmps69
    go_wp2_with fail
    go_loopg [1, 2, 3, 8, 9] (0) (fun k s1 s2 s3 s8 s9 wr => s1 = .int .i64 (a : Int) ∧ s2 = .int .i64 (a : Int) ∧ s3 = .int .i64 (lim : Int) ∧ s8 = .bool true ∧ s9 = .bool true ∧ wr = w)
    case atStart => exact ⟨rfl, rfl, rfl, rfl, rfl, rfl⟩
    case round =>
      obtain ⟨rfl, rfl, rfl, rfl, rfl, rfl⟩ := hrel
      go_wp2_with (go_at_call 71; refine HC.out.mono ?_; rintro e w' ⟨rfl, h1, h2⟩)
      go_end0
      exact ⟨rfl, h1, h2⟩
  | succ N ih =>
    intro w a b lim d hN h hd hb hab hlim
    have mo := follows
    obtain ⟨R, hR⟩ : ∃ R, pdq ltN d a b lim true true = R := ⟨_, rfl⟩
    rw [hR]
    have HR0 : Hid (pdq ltN d a b lim true true = R) := hR
    have HL0 : Hid (LRow w g d) := h
    have IH : Hid (∀ (w : World) (a b lim : Nat) (d : Array Nat), b - a ≤ N → LRow w g d → len ≤ d.size → b ≤ len → a ≤ b → lim ≤ 100 → Calls Tryd.prog 69 #[.slice (some ⟨g, 0, none⟩) len cap, .int .i64 a, .int .i64 b, .int .i64 lim] w (RowPost w g (pdq ltN d a b lim true true))) := ih
    clear hR h ih
    go_enter Tryd.func69, Tryd.ntmps69
    go_wp2_with fail
    go_loopg [1, 2, 3, 8, 9] (b - a + 1) (fun k s1 s2 s3 s8 s9 wr => ∃ (a' b' l' : Nat) (wb wp : Bool) (e : Array Nat), s1 = .int .i64 (a' : Int) ∧ s2 = .int .i64 (b' : Int) ∧ s3 = .int .i64 (l' : Int) ∧ s8 = .bool wb ∧ s9 = .bool wp ∧ b' - a' + 1 ≤ k ∧ b' - a' ≤ N + 1 ∧ a' ≤ b' ∧ b' ≤ len ∧ l' ≤ 100 ∧ e.size = d.size ∧ Hid (LRow wr g e) ∧ Hid (Fr (· ≠ g) w wr) ∧ Hid (pdq ltN e a' b' l' wb wp = R))
    case atStart => exact ⟨a, b, lim, true, true, d, rfl, rfl, rfl, rfl, rfl, by omega, by omega, hab, hb, hlim, rfl, HL0, Fr.refl _ _, HR0⟩
    case round =>
      clear HL0 HR0
      obtain ⟨a', b', l', wb, wp, e, rfl, rfl, rfl, rfl, rfl, hk, hN', hab', hb', hl', he, HL, HF, HR⟩ := hrel
      by_cases h12 : b' - a' ≤ 12
      · have hu := HR.out
        unfold pdq at hu
        rw [if_pos h12] at hu
        subst hu
        have HC : Hid (Calls _ _ _ _ _) := insSort_any wr g len cap a' b' e HL.out hl (by omega) hb' hab'
        have i1 : (b' : Int) - (a' : Int) ≤ 12 := by omega
        clear HR
        generalize insertionSort ltN e a' b' = R at HC ⊢
        go_wp2_with (go_at_call 71; refine HC.out.mono ?_; rintro e w' ⟨rfl, h1, h2⟩)
        go_end0
        exact ⟨rfl, h1, HF.out.trans h2⟩
      have i1 : ¬ (b' : Int) - (a' : Int) ≤ 12 := by omega
      obtain ⟨n, hn⟩ : ∃ n, b' = a' + n := ⟨b' - a', by omega⟩
      by_cases h0 : l' = 0
      · have hu := HR.out
        unfold pdq at hu
        rw [if_neg h12, if_pos h0] at hu
        subst hu
        subst h0
        have HC : Hid (Calls _ _ _ _ _) := heapSort_any wr g len cap a' n e HL.out hl (by omega) (by omega) (by omega)
        rw [← hn] at HC
        clear HR hn
        generalize heapSort ltN e a' b' = R at HC ⊢
        go_wp2_with (go_at_call 72; refine HC.out.mono ?_; rintro e w' ⟨rfl, h1, h2⟩)
        go_end0
        exact ⟨rfl, h1, HF.out.trans h2⟩
      have i2 : ((l' : Int) == 0) = false := by rw [beq_eq_false_iff_ne]; omega
      obtain ⟨d1, e1⟩ : ∃ d1, (if !wb then breakPatterns e a' b' else e) = d1 := ⟨_, rfl⟩
      obtain ⟨l1, e2⟩ : ∃ l1, (if !wb then l' - 1 else l') = l1 := ⟨_, rfl⟩
      have s1 : d1.size = d.size := by rw [← e1]; split; exact ((breakPatterns_holds e a' b' hab' (by omega)).1).trans he; exact he
      have hl1 : l1 ≤ 100 := by rw [← e2]; split <;> omega
      obtain ⟨p, hi, e3⟩ : ∃ p hi, choosePivot ltN d1 a' b' = (p, hi) := ⟨_, _, rfl⟩
      have hp := choosePivot_holds ltN d1 a' b' (by omega)
      rw [e3] at hp
      obtain ⟨d2, e4⟩ : ∃ d2, (if hi = .decreasing then reverseRange d1 a' b' else d1) = d2 := ⟨_, rfl⟩
      have s2 : d2.size = d.size := by rw [← e4]; split; exact ((reverseRange_holds d1 a' b' hab' (by omega)).1).trans s1; exact s1
      obtain ⟨pv, e5⟩ : ∃ pv, (if hi = .decreasing then (b' - 1) - (p - a') else p) = pv := ⟨_, rfl⟩
      have hpv : a' ≤ pv ∧ pv < b' := by rw [← e5]; simp only at hp; split <;> omega
      obtain ⟨hq, e6⟩ : ∃ hq, (if hi = .decreasing then Hint.increasing else hi) = hq := ⟨_, rfl⟩
      obtain ⟨d3, done, e7⟩ : ∃ d3 done, (if wb && wp && hq = .increasing then partialInsertionSort ltN d2 a' b' else (d2, false)) = (d3, done) := ⟨_, _, rfl⟩
      have s3 : d3.size = d.size := by
        have : d3 = (if wb && wp && hq = .increasing then partialInsertionSort ltN d2 a' b' else (d2, false)).1 := by rw [e7]
        rw [this]
        split
        · exact (size_partialIns a' b' 5 (a' + 1) d2).trans s2
        · exact s2
      have hu := HR.out
      rw [pdq_eq h12 h0 e1 e2 e3 e4 e5 e6 e7] at hu
      have HU : Hid _ := hu
      have E1 : Hid ((if !wb then breakPatterns e a' b' else e) = d1) := e1
      have E2 : Hid ((if !wb then l' - 1 else l') = l1) := e2
      have E3 : Hid (choosePivot ltN d1 a' b' = (p, hi)) := e3
      have E4 : Hid ((if hi = .decreasing then reverseRange d1 a' b' else d1) = d2) := e4
      have E5 : Hid ((if hi = .decreasing then (b' - 1) - (p - a') else p) = pv) := e5
      have E6 : Hid ((if hi = .decreasing then Hint.increasing else hi) = hq) := e6
      have E7 : Hid ((if wb && wp && hq = .increasing then partialInsertionSort ltN d2 a' b' else (d2, false)) = (d3, done)) := e7
      have HP : Hid (a' ≤ p ∧ p < b') := hp
      have HN : Hid (b' = a' + n) := hn
      clear hu HR e1 e2 e3 e4 e5 e6 e7 hp hn
      go_upto_if 35 with fail
      go_cut [3] (fun s3 wc => s3 = .int .i64 (l1 : Int) ∧ Hid (LRow wc g d1) ∧ Hid (Fr (· ≠ g) w wc))
      case first =>
        cases wb with
        | true =>
          have q1 : e = d1 := by simpa using E1.out
          have q2 : l' = l1 := by simpa using E2.out
          subst q1
          subst q2
          go_wp2_with fail
          go_meet
          case rel => exact ⟨rfl, HL, HF⟩
        | false =>
          have q1 : breakPatterns e a' b' = d1 := by simpa using E1.out
          have q2 : l' - 1 = l1 := by simpa using E2.out
          have HC := breakPat_any wr g len cap a' n e HL.out hl (by omega) (by have := HN.out; omega) (by have := HN.out; omega)
          rw [← HN.out, q1] at HC
          have q3 : (l' : Int) - 1 = (l1 : Int) := by omega
          clear q1 q2
          go_wp2_with (go_at_call 73; refine HC.mono ?_; rintro e w' ⟨rfl, h1, h2⟩)
          have HL2 : Hid (LRow w' g d1) := h1
          have HF2 : Hid (Fr (· ≠ g) w w') := HF.out.trans h2
          clear h1 h2 HL HF HC
          go_wp2_with fail
          go_meet
          case rel => exact ⟨rfl, HL2, HF2⟩
      case rest =>
        clear HL HF
        obtain ⟨rfl, HL, HF⟩ := hcut
        have HC := choosePivot_any wc g len cap a' n d1 HL.out hl (by omega) (by have := HN.out; omega) (by have := HN.out; omega)
        rw [← HN.out, E3.out] at HC
        simp only at HC
        have HC2 : Hid (Calls Tryd.prog 74 #[.slice (some ⟨g, 0, none⟩) len cap, .int .i64 (a' : Int), .int .i64 (b' : Int)] wc fun e w' => e = .returned (.tuple #[.int .i64 (p : Int), .int .i64 (hintN hi)]) ∧ Fr (fun _ => True) wc w') := HC
        obtain ⟨hv, hhv⟩ : ∃ hv, hintN hi = hv := ⟨_, rfl⟩
        rw [hhv] at HC2
        have HHV : Hid (hintN hi = hv) := hhv
        clear HC hhv
        go_upto_if 50 with (go_at_call 74; refine HC2.out.mono ?_; rintro e w1 ⟨rfl, h1⟩)
        have HLa : Hid (LRow w1 g d1) := HL.out.of h1 trivial
        have HFa : Hid (Fr (· ≠ g) w w1) := HF.out.trans (h1.mono fun _ _ => trivial)
        clear HL HF h1 HC2
        go_cut [11, 12] (fun s11 s12 wc => s11 = .int .i64 (pv : Int) ∧ s12 = .int .i64 (hintN hq) ∧ Hid (LRow wc g d2) ∧ Hid (Fr (· ≠ g) w wc))
        case first =>
          by_cases hdec : hi = .decreasing
          · subst hdec
            obtain rfl : 2 = hv := HHV.out
            have q4 : reverseRange d1 a' b' = d2 := by simpa using E4.out
            have q5 : (b' - 1) - (p - a') = pv := by simpa using E5.out
            have q6 : Hint.increasing = hq := by simpa using E6.out
            subst q6
            have HC := revRange_any w1 g len cap a' b' d1 HLa.out hl (by omega) hb' (by omega)
            rw [q4] at HC
            have hpp := HP.out
            have q7 : (b' : Int) - 1 - ((p : Int) - (a' : Int)) = (pv : Int) := by omega
            clear q4 q5
            go_wp2_with (go_at_call 75; refine HC.mono ?_; rintro e w' ⟨rfl, h1, h2⟩)
            have HL2 : Hid (LRow w' g d2) := h1
            have HF2 : Hid (Fr (· ≠ g) w w') := HFa.out.trans h2
            clear h1 h2 HLa HFa HC
            go_wp2_with fail
            go_meet
            case rel => exact ⟨rfl, rfl, HL2, HF2⟩
          · have q4 : d1 = d2 := by have := E4.out; rwa [if_neg hdec] at this
            have q5 : p = pv := by have := E5.out; rwa [if_neg hdec] at this
            have q6 : hi = hq := by have := E6.out; rwa [if_neg hdec] at this
            subst q4
            subst q5
            subst q6
            have hv2 : (hv == 2) = false := by rw [← HHV.out]; cases hi with | unknown => rfl | increasing => rfl | decreasing => exact absurd rfl hdec
            go_wp2_with fail
            go_meet
            case rel => exact ⟨rfl, by rw [HHV.out], HLa, HFa⟩
        case rest =>
          clear HLa HFa HHV
          obtain ⟨rfl, rfl, HL, HF⟩ := hcut
          obtain ⟨B, hB⟩ : ∃ B, (wb && wp && decide (hq = .increasing)) = B := ⟨_, rfl⟩
          have HB : Hid ((wb && wp && decide (hq = .increasing)) = B) := hB
          clear hB
          go_upto_region 15 with fail
          go_cut [68] (fun s wd => s = .bool B ∧ wc = wd)
          case first =>
            have hBo := HB.out
            cases wb <;> cases wp <;> cases hq <;> (simp at hBo; subst hBo) <;> (go_wp2_with fail; go_meet; case rel => exact ⟨rfl, rfl⟩)
          case rest =>
            obtain ⟨rfl, rfl⟩ := hcut
            go_upto_if 68 with fail
            go_cut [] (fun wd => done = false ∧ Hid (LRow wd g d3) ∧ Hid (Fr (· ≠ g) w wd))
            case first =>
              cases B with
              | false =>
                have q7 := E7.out
                rw [HB.out] at q7
                simp only [Bool.false_eq_true, if_false, Prod.mk.injEq] at q7
                obtain ⟨rfl, rfl⟩ := q7
                go_wp2_with fail
                go_meet
                case rel => exact ⟨by simp, HL, HF⟩
              | true =>
                have q7 := E7.out
                rw [HB.out] at q7
                simp only [if_true] at q7
                have HC := partialIns_any wc g len cap a' b' d2 HL.out hl (by omega) hb' (by omega)
                rw [q7] at HC
                simp only at HC
                have HU2 := HU.out
                cases done with
                | true =>
                  simp only [if_true] at HU2
                  subst HU2
                  clear HU E7
                  go_wp2_with (go_at_call 76; refine HC.mono ?_; rintro e w' ⟨rfl, h1, h2⟩)
                  go_end0
                  exact ⟨rfl, h1, HF.out.trans h2⟩
                | false =>
                  clear q7 HU2
                  go_wp2_with (go_at_call 76; refine HC.mono ?_; rintro e w' ⟨rfl, h1, h2⟩)
                  have HL2 : Hid (LRow w' g d3) := h1
                  have HF2 : Hid (Fr (· ≠ g) w w') := HF.out.trans h2
                  clear h1 h2 HL HF HC
                  go_meet
                  case rel => exact ⟨by simp, HL2, HF2⟩
            case rest =>
              clear HL HF
              obtain ⟨rfl, HL, HF⟩ := hcut
              have hu := HU.out
              simp only [Bool.false_eq_true, if_false] at hu
              clear HU E1 E2 E3 E4 E5 E6 E7 HB HP
              obtain ⟨G, hG⟩ : ∃ G, (decide (a' > 0) && !ltN d3[a' - 1]! d3[pv]!) = G := ⟨_, rfl⟩
              rw [hG] at hu
              have HG : Hid ((decide (a' > 0) && !ltN d3[a' - 1]! d3[pv]!) = G) := hG
              have HU : Hid _ := hu
              have p2 : (pv : Int) < (len : Int) := by omega
              clear hu hG
              go_upto_region 17 with fail
              go_cut [87] (fun s we => s = .bool G ∧ Hid (LRow we g d3) ∧ Hid (Fr (· ≠ g) w we))
              case first =>
                have hG := HG.out
                by_cases ha0 : a' > 0
                · obtain ⟨m, hm⟩ : ∃ m, a' = m + 1 := ⟨a' - 1, by omega⟩
                  rw [show a' - 1 = m from by omega] at hG
                  have a0 : (0 : Int) < (a' : Int) := by omega
                  have a1 : (a' : Int) - 1 = (m : Int) := by omega
                  have a2 : (m : Int) < (len : Int) := by omega
                  have c0 := HL.out.cell (i := m) (by omega)
                  have c1 := HL.out.cell (i := pv) (by omega)
                  obtain ⟨x, hx⟩ : ∃ x, d3[m]! = x := ⟨_, rfl⟩
                  obtain ⟨y, hy⟩ : ∃ y, d3[pv]! = y := ⟨_, rfl⟩
                  rw [hx] at c0 hG
                  rw [hy] at c1 hG
                  clear hx hy hm
                  simp only [ha0, decide_true, Bool.true_and] at hG
                  cases hlt : ltN x y with
                  | true =>
                    rw [hlt] at hG
                    subst hG
                    have HC : Hid (∀ w, Calls Tryd.prog 77 #[.int .i32 (x : Int), .int .i32 (y : Int)] w fun e w' => e = .returned (.bool true) ∧ w' = w) := fun w => by rw [← hlt]; exact less_any w x y
                    clear hlt
                    go_wp2_with fail
                    go_quiet ((go_at_call 77; exact Calls.quiet_of_same (HC.out _)))
                    go_wp2_with fail
                    go_meet
                    case rel => exact ⟨rfl, HL.out.drewN _, HF.out.drewN _⟩
                  | false =>
                    rw [hlt] at hG
                    subst hG
                    have HC : Hid (∀ w, Calls Tryd.prog 77 #[.int .i32 (x : Int), .int .i32 (y : Int)] w fun e w' => e = .returned (.bool false) ∧ w' = w) := fun w => by rw [← hlt]; exact less_any w x y
                    clear hlt
                    go_wp2_with fail
                    go_quiet ((go_at_call 77; exact Calls.quiet_of_same (HC.out _)))
                    go_wp2_with fail
                    go_meet
                    case rel => exact ⟨rfl, HL.out.drewN _, HF.out.drewN _⟩
                · have a0 : decide ((0 : Int) < (a' : Int)) = false := decide_eq_false (by omega)
                  simp only [ha0, decide_false, Bool.false_and] at hG
                  subst hG
                  go_wp2_with fail
                  go_quiet (fail)
                  go_wp2_with fail
                  go_meet
                  case rel => exact ⟨rfl, HL.out.drewN _, HF.out.drewN _⟩
              case rest =>
                clear HL HF
                obtain ⟨rfl, HL, HF⟩ := hcut
                obtain ⟨k, rfl⟩ : ∃ k, gk = k + 1 := ⟨gk - 1, by omega⟩
                have hu := HU.out
                clear HU HG
                cases G with
                | true =>
                  simp only [if_true] at hu
                  obtain ⟨mid, d4, e8⟩ : ∃ mid d4, partitionEqual ltN d3 a' b' pv = (mid, d4) := ⟨_, _, rfl⟩
                  have hr := partEqual_range (d := d3) (a := a') (b := b') (p := pv) (by omega)
                  have HC := partEqual_any wc g len cap a' b' pv d3 HL.out hl (by omega) hb' hpv.1 hpv.2
                  rw [e8] at hr hu HC
                  simp only at hr hu HC
                  rw [if_pos ⟨hr.1, hr.2.1⟩] at hu
                  have HR : Hid (pdq ltN d4 mid b' l1 wb wp = R) := hu
                  clear hu e8
                  go_wp2_with (go_at_call 78; refine HC.mono ?_; rintro e w' ⟨rfl, h1, h2⟩)
                  have HL2 : Hid (LRow w' g d4) := h1
                  have HF2 : Hid (Fr (· ≠ g) w w') := HF.out.trans h2
                  clear h1 h2 HL HF HC
                  go_wp2_with fail
                  go_roundg k
                  case measure => omega
                  case rel => exact ⟨mid, b', l1, wb, wp, d4, rfl, rfl, rfl, rfl, rfl, by omega, by omega, by omega, hb', hl1, by omega, HL2, HF2, HR⟩
                | false =>
                  simp only [Bool.false_eq_true, if_false] at hu
                  obtain ⟨mid, ap, d4, e8⟩ : ∃ mid ap d4, partition ltN d3 a' b' pv = (mid, ap, d4) := ⟨_, _, _, rfl⟩
                  have hr := partition_holds ltN swoN d3 a' b' pv hpv.1 hpv.2 (by omega)
                  have HC := part_any wc g len cap a' b' pv d3 HL.out hl (by omega) hb' hpv.1 hpv.2
                  rw [e8] at hr hu HC
                  simp only at hr hu HC
                  have hr1 := hr.1
                  have hr2 := hr.2.1
                  have s4 : d4.size = d.size := hr.2.2.1.1.trans s3
                  rw [if_pos ⟨hr1, hr2⟩] at hu
                  clear hr e8
                  have HC2 : Hid (Calls Tryd.prog 79 #[.slice (some ⟨g, 0, none⟩) len cap, .int .i64 (a' : Int), .int .i64 (b' : Int), .int .i64 (pv : Int)] wc fun e w' => e = .returned (.tuple #[.int .i64 (mid : Int), .bool ap]) ∧ LRow w' g d4 ∧ Fr (· ≠ g) wc w') := HC
                  have HU : Hid _ := hu
                  clear HC hu
                  go_upto_region 21 with (go_at_call 79; refine HC2.out.mono ?_; rintro e w1 ⟨rfl, h1, h2⟩)
                  have HL2 : Hid (LRow w1 g d4) := h1
                  have HF2 : Hid (Fr (· ≠ g) w w1) := HF.out.trans h2
                  clear h1 h2 HL HF HC2
                  have hu := HU.out
                  clear HU
                  by_cases hlr : mid - a' < b' - mid
                  · rw [if_pos hlr] at hu
                    have j1 : (mid : Int) - (a' : Int) < (b' : Int) - (mid : Int) := by omega
                    have HC := IH.out w1 a' mid l1 d4 (by omega) HL2.out (by omega) (by omega) hr1 hl1
                    have s5 := size_pdq _ d4 a' mid l1 true true (Nat.le_refl _) hr1 (by omega)
                    generalize pdq ltN d4 a' mid l1 true true = d5 at hu HC s5
                    have HC2 : Hid (Calls _ _ _ _ _) := HC
                    have HR : Hid (pdq ltN d5 (mid + 1) b' l1 (decide (mid - a' ≥ (b' - a') / 8)) ap = R) := hu
                    clear HC hu
                    go_wp2_with (go_at_call 69; refine HC2.out.mono ?_; rintro e w2 ⟨rfl, h1, h2⟩)
                    have HL3 : Hid (LRow w2 g d5) := h1
                    have HF3 : Hid (Fr (· ≠ g) w w2) := HF2.out.trans h2
                    clear h1 h2 HL2 HF2 HC2
                    go_wp2_with fail
                    go_roundg k
                    case measure => omega
                    case rel => exact ⟨mid + 1, b', l1, decide (mid - a' ≥ (b' - a') / 8), ap, d5, by simp, rfl, rfl, by simp only [Value.bool.injEq, decide_eq_decide]; omega, rfl, by omega, by omega, by omega, hb', hl1, by omega, HL3, HF3, HR⟩
                  · rw [if_neg hlr] at hu
                    have j1 : ¬ (mid : Int) - (a' : Int) < (b' : Int) - (mid : Int) := by omega
                    have HC := IH.out w1 (mid + 1) b' l1 d4 (by omega) HL2.out (by omega) (by omega) (by omega) hl1
                    have s5 := size_pdq _ d4 (mid + 1) b' l1 true true (Nat.le_refl _) (by omega) (by omega)
                    generalize pdq ltN d4 (mid + 1) b' l1 true true = d5 at hu HC s5
                    rw [show ((mid + 1 : Nat) : Int) = (mid : Int) + 1 from by omega] at HC
                    have HC2 : Hid (Calls Tryd.prog 69 #[.slice (some ⟨g, 0, none⟩) len cap, .int .i64 ((mid : Int) + 1), .int .i64 (b' : Int), .int .i64 (l1 : Int)] w1 (RowPost w1 g d5)) := HC
                    have HR : Hid (pdq ltN d5 a' mid l1 (decide (b' - mid ≥ (b' - a') / 8)) ap = R) := hu
                    clear HC hu
                    go_wp2_with (go_at_call 69; refine HC2.out.mono ?_; rintro e w2 ⟨rfl, h1, h2⟩)
                    have HL3 : Hid (LRow w2 g d5) := h1
                    have HF3 : Hid (Fr (· ≠ g) w w2) := HF2.out.trans h2
                    clear h1 h2 HL2 HF2 HC2
                    go_wp2_with fail
                    go_roundg k
                    case measure => omega
                    case rel => exact ⟨a', mid, l1, decide (b' - mid ≥ (b' - a') / 8), ap, d5, rfl, rfl, rfl, by simp only [Value.bool.injEq, decide_eq_decide]; omega, rfl, by omega, by omega, by omega, by omega, hl1, by omega, HL3, HF3, HR⟩

end Go.Proofs.YtbicefgjompnoaaDoor.Sx
