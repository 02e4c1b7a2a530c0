/- Rows of pairs: sorted, stably. -/
import Derived.Test.YtbogejmmkohbkaaGreatDoorGS4
import Derived.Test.YtbogejmmkohbkaaGreatDoorGC1
import Derived.Deep.LoopGhost
import Derived.Test.YtbogejmmkohbkaaGreatDoorGS1
import Derived.Lib.SliceRun
namespace Go.Proofs.YtbogejmmkohbkaaGreatDoor.Sx
open Go.RowKit Go.Sort Go.Lib

section
variable {n g : Nat} {W0 : World} [Inhabited (PH n g W0)]
theorem PRow.holds {w : World} {d : Array (PH n g W0)} (h : PRow w g d) : HoldsK encP 2 w g 0 d := by
  intro j hj
  rw [size_flatK] at hj
  rw [get_flatK _ _ _ _ hj, Nat.zero_add]
  obtain ⟨a, b, c, e⟩ := h.2 (j / 2) (by omega)
  rcases Nat.mod_two_eq_zero_or_one j with q | q
  · rw [q, show j = j / 2 * 2 from by omega, show j / 2 * 2 / 2 = j / 2 from by omega]
    exact ⟨a, c⟩
  · rw [q, show j = j / 2 * 2 + 1 from by omega, show (j / 2 * 2 + 1) / 2 = j / 2 from by omega]
    exact ⟨b, e⟩
theorem PRow.of {w : World} {d : Array (PH n g W0)} (h : HoldsK encP 2 w g 0 d) (hg : g < w.heap.size) : PRow w g d := by
  refine ⟨hg, fun i hi => ?_⟩
  have h1 := h (i * 2) (by rw [size_flatK]; omega)
  have h2 := h (i * 2 + 1) (by rw [size_flatK]; omega)
  rw [get_flatK _ _ _ _ (by omega), Nat.zero_add, show i * 2 / 2 = i from by omega, show i * 2 % 2 = 0 from by omega] at h1
  rw [get_flatK _ _ _ _ (by omega), Nat.zero_add, show (i * 2 + 1) / 2 = i from by omega, show (i * 2 + 1) % 2 = 1 from by omega] at h2
  exact ⟨h1.1, h2.1, h1.2, h2.2⟩
theorem fr_sortWorld (w : World) (m : Nat) (dk : Array (PH n g W0)) (os : Array Obj) : Fr (· ≠ g) w (sortWorldK encP 2 w g 0 m dk os) := by
  refine ⟨rfl, rfl, rfl, ?_, fun k hk hkg => ?_⟩
  · show w.heap.size ≤ (grow (putRowK encP 2 (Sort.ahead w m) g 0 dk) os).heap.size
    simp [putRowK, putRow, mapBlock, Sort.ahead]
  · show (grow (putRowK encP 2 (Sort.ahead w m) g 0 dk) os).heap[k]? = _
    rw [heap_grow_old _ _ (by simpa [putRowK, putRow, mapBlock, Sort.ahead] using hk)]
    simp only [putRowK, putRow, mapBlock, Sort.ahead, Array.getElem?_modify]
    rw [if_neg (fun e => hkg e.symm)]

theorem ins_any (w : World) (len cap a b : Nat) (d : Array (PH n g W0)) (hW : Fr (· ≠ g) W0 w) (hd : d.size = len) (hrow : PRow w g d) (hl : len ≤ 4294967296) (h1 : a ≤ b) (h2 : b ≤ len) :
    Calls Tryz.prog 340 #[.slice (some ⟨g, 0, none⟩) len cap, .int .i64 a, .int .i64 b, .func (.func 303) #[] #[]] w fun e w' => e = .returned (.tuple #[]) ∧ ∃ d' : Array (PH n g W0), Stb cP a b d d' ∧ Srt cP d' a b ∧ PRow w' g d' ∧ Fr (· ≠ g) w w' := by
  have eg : ∀ args w, (callFunc 303 args).run Tryz.prog w = .ok (.enter 303 args) w := enters_of Tryz.func303 (by kernel_rfl) rfl
  have hcmp : CmpLays Tryz.prog 303 #[] encP 2 (cP (n := n) (γ := g) (W := W0)) g 0 d.size w := by
    intro m os dk _ a b
    exact cmpP_held _ a b (hW.trans (fr_sortWorld w m dk os))
  have hcon := AnyQ.insertionSortCmpFunc Tryz.insP 2 (fun w => by kernel_rfl) (fun w => by kernel_rfl) encP (fun _ => rfl) (fun x v hv => by
      simp only [encP, List.mem_cons, List.not_mem_nil, or_false] at hv
      rcases hv with rfl | rfl
      · exact x.k.one
      · exact x.u.one) cP 303 #[] g 0 cap a b d w eg hcmp hrow.holds hrow.1 h1 (by omega) (by omega)
  change Calls Tryz.prog 340 _ _ _ at hcon
  rw [hd] at hcon
  refine hcon.mono ?_
  rintro e w' ⟨rfl, q, os, rfl⟩
  have hs := ins_outer (ordP n g W0) a b (b - (a + 1)) (a + 1) d (Nat.le_refl _) (by omega)
  have ho := (insertionSort_holds (lt := ltOf (cP (n := n) (γ := g) (W := W0))) (swo_of (ordP n g W0)) d a b h1 (by omega)).2
  refine ⟨rfl, insertionSort (ltOf cP) d a b, hs, fun i j q1 q2 q3 => ?_, ?_, fr_sortWorld _ _ _ _⟩
  · have := ho i j q1 q2 q3
    simp only [ltOf, decide_eq_false_iff_not] at this
    have := (ordP n g W0).anti (insertionSort (ltOf cP) d a b)[i]! (insertionSort (ltOf cP) d a b)[j]!
    omega
  · exact PRow.of (holdsK_sortWorldK_c encP 2 w g 0 d _ q os hrow.holds hrow.1 hs.size) (Nat.lt_of_lt_of_le hrow.1 (fr_sortWorld w q _ os).size)

set_option maxRecDepth 100000 in
set_option maxHeartbeats 4000000 in
theorem stable_any (w : World) (len cap : Nat) (d : Array (PH n g W0)) (hW : Fr (· ≠ g) W0 w) (hd : d.size = len) (hrow : PRow w g d) (hl : len ≤ 4294967296) :
    Calls Tryz.prog 324 #[.slice (some ⟨g, 0, none⟩) len cap, .int .i64 len, .func (.func 303) #[] #[]] w fun e w' => e = .returned (.tuple #[]) ∧ ∃ d' : Array (PH n g W0), Stb cP 0 len d d' ∧ Srt cP d' 0 len ∧ PRow w' g d' ∧ Fr (· ≠ g) w w' := by
  have H0 : Hid (PRow w g d) := hrow
  have HI : Hid (∀ (W : World) (a b : Nat) (e : Array (PH n g W0)), Fr (· ≠ g) w W → e.size = len → PRow W g e → a ≤ b → b ≤ len → _) := fun W a b e hf he hr q1 q2 => ins_any W len cap a b e (hW.trans hf) he hr hl q1 q2
  have HM : Hid (∀ (W : World) (a m b : Nat) (e : Array (PH n g W0)), Fr (· ≠ g) w W → e.size = len → PRow W g e → a < m → m < b → b ≤ len → Srt cP e a m → Srt cP e m b → _) := fun W a m b e hf he hr q1 q2 q3 q4 q5 => symMerge_any len cap hl (b - a) W a m b e (Nat.le_refl _) (hW.trans hf) he hr q1 q2 q3 q4 q5
  clear hrow hW
  go_enter Tryz.func324, Tryz.ntmps324
  go_wp2_with fail
  go_loopw [7, 8] (fun s t wr => ∃ (q : Nat) (e : Array (PH n g W0)), s = .int .i64 ((q * 20 : Nat) : Int) ∧ t = .int .i64 ((q * 20 + 20 : Nat) : Int) ∧ q * 20 ≤ len ∧ e.size = len ∧ Hid (Done cP e 20 len (q * 20)) ∧ Hid (Stb cP 0 len d e) ∧ Hid (PRow wr g e) ∧ Hid (Fr (· ≠ g) w wr)) (fun s _ _ => len + 20 - (intOf s).toNat)
  case atStart => exact ⟨0, d, rfl, rfl, by omega, hd, Done.start d 20 len, Stb.refl _ _ _ _, H0, Fr.refl _ _⟩
  case round =>
    obtain ⟨q, e, rfl, rfl, hq, he, HD, HSt, HR, HF⟩ := hrel
    by_cases hlt : q * 20 + 20 ≤ len
    · have HC : Hid (Calls Tryz.prog 340 #[.slice (some ⟨g, 0, none⟩) len cap, .int .i64 ((q * 20 : Nat) : Int), .int .i64 ((q * 20 + 20 : Nat) : Int), .func (.func 303) #[] #[]] wr _) := HI.out wr (q * 20) (q * 20 + 20) e HF.out he HR.out (by omega) hlt
      have hm : min (q * 20 + 20) len = q * 20 + 20 := Nat.min_eq_left hlt
      have HMn : Hid (min (q * 20 + 20) len = q * 20 + 20) := hm
      clear hm
      obtain ⟨A, hA⟩ : ∃ A, A = q * 20 := ⟨_, rfl⟩
      rw [← hA] at HC
      have HAA : Hid (A = q * 20) := hA
      rw [← hA] at hlt hq ⊢
      clear hA
      rw [show ((A + 20 : Nat) : Int) = (A : Int) + 20 from by omega] at HC ⊢
      go_wp2_with fail
      refine HC.out.mono ?_
      rintro x w1 ⟨rfl, e1, hs1, ho1, hr1, hf1⟩
      have D1 : Hid (Done cP e1 20 len (q * 20 + 20)) := HD.out.step (by rw [HMn.out, ← HAA.out]; exact hs1) (by rw [HMn.out, ← HAA.out]; exact ho1)
      have S1 : Hid (Stb cP 0 len d e1) := HSt.out.trans (hs1.mono (by omega) (by omega))
      have R1 : Hid (PRow w1 g e1) := hr1
      have F1 : Hid (Fr (· ≠ g) w w1) := HF.out.trans hf1
      have he1 : e1.size = len := hs1.size.trans he
      clear hs1 ho1 hr1 hf1 HC HD HSt HR HF
      go_wp2_with fail
      go_roundw
      case rel => exact ⟨q + 1, e1, by rw [show ((q + 1) * 20 : Nat) = A + 20 from by have := HAA.out; omega]; go_num, by rw [show ((q + 1) * 20 + 20 : Nat) = A + 20 + 20 from by have := HAA.out; omega]; go_num, by have := HAA.out; omega, he1, by rw [show (q + 1) * 20 = q * 20 + 20 from by omega]; exact D1, S1, R1, F1⟩
      case measure => simp [intOf]; omega
    · have HC : Hid (Calls Tryz.prog 340 #[.slice (some ⟨g, 0, none⟩) len cap, .int .i64 ((q * 20 : Nat) : Int), .int .i64 (len : Int), .func (.func 303) #[] #[]] wr _) := HI.out wr (q * 20) len e HF.out he HR.out hq (Nat.le_refl _)
      have hm : min (q * 20 + 20) len = len := Nat.min_eq_right (by omega)
      have HMn : Hid (min (q * 20 + 20) len = len) := hm
      clear hm
      obtain ⟨A, hA⟩ : ∃ A, A = q * 20 := ⟨_, rfl⟩
      rw [← hA] at HC
      have HAA : Hid (A = q * 20) := hA
      rw [← hA] at hlt hq ⊢
      clear hA
      rw [show ((A + 20 : Nat) : Int) = (A : Int) + 20 from by omega]
      go_wp2_with fail
      refine HC.out.mono ?_
      rintro x w1 ⟨rfl, e1, hs1, ho1, hr1, hf1⟩
      have D1 : Hid (Done cP e1 20 len len) := (HD.out.step (by rw [HMn.out, ← HAA.out]; exact hs1) (by rw [HMn.out, ← HAA.out]; exact ho1)).mono (by have := HAA.out; omega)
      have S1 : Hid (Stb cP 0 len d e1) := HSt.out.trans (hs1.mono (by omega) (by omega))
      have R1 : Hid (PRow w1 g e1) := hr1
      have F1 : Hid (Fr (· ≠ g) w w1) := HF.out.trans hf1
      have he1 : e1.size = len := hs1.size.trans he
      clear hs1 ho1 hr1 hf1 HC HD HSt HR HF HMn HAA
      go_wp2_with fail
      go_loopw [6, 7, 8, 9] (fun s _ _ _ wr => ∃ (bs : Nat) (e : Array (PH n g W0)), s = .int .i64 bs ∧ 0 < bs ∧ bs ≤ 2 * len + 20 ∧ e.size = len ∧ Hid (Done cP e bs len len) ∧ Hid (Stb cP 0 len d e) ∧ Hid (PRow wr g e) ∧ Hid (Fr (· ≠ g) w wr)) (fun s _ _ _ _ => 2 * len + 40 - (intOf s).toNat)
      case atStart => exact ⟨20, e1, rfl, by omega, by omega, he1, D1, S1, R1, F1⟩
      case round =>
        clear D1 S1 R1 F1 he1 e1
        obtain ⟨bs, e, rfl, hbs, hbl, he, HD, HSt, HR, HF⟩ := hrel
        by_cases hlt2 : bs < len
        · have HH0 : Hid (Half cP e bs len 0) := Half.start HD.out
          have HZ : Hid (0 = 0 * (2 * bs)) := by show 0 = _; omega
          go_wp2_with fail
          go_loopw [7, 8] (fun s t wr => ∃ (q A : Nat) (e : Array (PH n g W0)), Hid (A = q * (2 * bs)) ∧ s = .int .i64 (A : Int) ∧ t = .int .i64 ((A : Int) + 2 * (bs : Int)) ∧ A ≤ len ∧ e.size = len ∧ Hid (Half cP e bs len q) ∧ Hid (Stb cP 0 len d e) ∧ Hid (PRow wr g e) ∧ Hid (Fr (· ≠ g) w wr)) (fun s _ _ => len + 1 - (intOf s).toNat)
          case atStart => exact ⟨0, 0, e, HZ, rfl, by simp, by omega, he, HH0, HSt, HR, HF⟩
          case round =>
            clear HH0 HZ HSt HR HF HD he e
            obtain ⟨q, A, e, HA, rfl, rfl, hA, he, HH, HSt, HR, HF⟩ := hrel
            have HA1 : Hid ((q + 1) * (2 * bs) = A + 2 * bs) := by show _ = _; rw [HA.out, Nat.add_mul, Nat.one_mul]
            by_cases hlt3 : A + 2 * bs ≤ len
            · have hp := HH.out.parts (by rw [← HA.out]; omega)
              rw [← HA.out, Nat.min_eq_left hlt3] at hp
              have HC : Hid (Calls Tryz.prog 341 #[.slice (some ⟨g, 0, none⟩) len cap, .int .i64 (A : Int), .int .i64 ((A + bs : Nat) : Int), .int .i64 ((A + 2 * bs : Nat) : Int), .func (.func 303) #[] #[]] wr _) := HM.out wr A (A + bs) (A + 2 * bs) e HF.out he HR.out (by omega) (by omega) hlt3 hp.1 hp.2
              rw [show ((A + bs : Nat) : Int) = (A : Int) + (bs : Int) from by omega, show ((A + 2 * bs : Nat) : Int) = (A : Int) + 2 * (bs : Int) from by omega] at HC
              clear hp
              have l3 : (A : Int) + 2 * (bs : Int) ≤ (len : Int) := by omega
              go_wp2_with fail
              refine HC.out.mono ?_
              rintro x w1 ⟨rfl, e1, hs1, ho1, hr1, hf1⟩
              have H1 : Hid (Half cP e1 bs len (q + 1)) := HH.out.step hbs (by rw [← HA.out, Nat.min_eq_left hlt3]; exact hs1) (by rw [← HA.out, Nat.min_eq_left hlt3]; exact ho1)
              have S1 : Hid (Stb cP 0 len d e1) := HSt.out.trans (hs1.mono (by omega) (by omega))
              have R1 : Hid (PRow w1 g e1) := hr1
              have F1 : Hid (Fr (· ≠ g) w w1) := HF.out.trans hf1
              have he1 : e1.size = len := hs1.size.trans he
              clear hs1 ho1 hr1 hf1 HC HH HSt HR HF
              go_wp2_with fail
              go_roundw
              case rel => exact ⟨q + 1, A + 2 * bs, e1, HA1.out.symm, by go_num, by go_num, hlt3, he1, H1, S1, R1, F1⟩
              case measure => simp [intOf]; omega
            · have l3 : ¬ (A : Int) + 2 * (bs : Int) ≤ (len : Int) := by omega
              by_cases hlt4 : A + bs < len
              · have hp := HH.out.parts (by rw [← HA.out]; omega)
                rw [← HA.out, Nat.min_eq_right (by omega)] at hp
                have HC : Hid (Calls Tryz.prog 341 #[.slice (some ⟨g, 0, none⟩) len cap, .int .i64 (A : Int), .int .i64 ((A + bs : Nat) : Int), .int .i64 (len : Int), .func (.func 303) #[] #[]] wr _) := HM.out wr A (A + bs) len e HF.out he HR.out (by omega) hlt4 (Nat.le_refl _) hp.1 hp.2
                rw [show ((A + bs : Nat) : Int) = (A : Int) + (bs : Int) from by omega] at HC
                clear hp
                have l4 : (A : Int) + (bs : Int) < (len : Int) := by omega
                go_wp2_with fail
                refine HC.out.mono ?_
                rintro x w1 ⟨rfl, e1, hs1, ho1, hr1, hf1⟩
                have H1 : Hid (Half cP e1 bs len (q + 1)) := HH.out.step hbs (by rw [← HA.out, Nat.min_eq_right (by omega)]; exact hs1) (by rw [← HA.out, Nat.min_eq_right (by omega)]; exact ho1)
                have D1 : Hid (Done cP e1 (2 * bs) len len) := H1.out.all (by rw [HA1.out]; omega)
                have S1 : Hid (Stb cP 0 len d e1) := HSt.out.trans (hs1.mono (by omega) (by omega))
                have R1 : Hid (PRow w1 g e1) := hr1
                have F1 : Hid (Fr (· ≠ g) w w1) := HF.out.trans hf1
                have he1 : e1.size = len := hs1.size.trans he
                clear hs1 ho1 hr1 hf1 HC HH HSt HR HF H1
                go_wp2_with fail
                go_roundw
                case rel => exact ⟨2 * bs, e1, by go_num, by omega, by omega, he1, D1, S1, R1, F1⟩
                case measure => simp [intOf]; omega
              · have D1 : Hid (Done cP e (2 * bs) len len) := HH.out.finish hbs (by rw [← HA.out]; omega)
                have l4 : ¬ (A : Int) + (bs : Int) < (len : Int) := by omega
                clear HH
                go_wp2_with fail
                go_roundw
                case rel => exact ⟨2 * bs, e, by go_num, by omega, by omega, he, D1, HSt, HR, HF⟩
                case measure => simp [intOf]; omega
        · have HFin : Hid (Srt cP e 0 len) := HD.out.whole (by omega)
          go_wp2_with fail
          go_end0
          exact ⟨rfl, e, HSt.out, HFin.out, HR.out, HF.out⟩

set_option maxRecDepth 100000 in
theorem sortStable_any (w : World) (len cap : Nat) (d : Array (PH n g W0)) (hW : Fr (· ≠ g) W0 w) (hd : d.size = len) (hrow : PRow w g d) (hl : len ≤ 4294967296) :
    Calls Tryz.prog 302 #[.slice (some ⟨g, 0, none⟩) len cap, .func (.func 303) #[] #[]] w fun e w' => e = .returned (.tuple #[]) ∧ ∃ d' : Array (PH n g W0), Stb cP 0 len d d' ∧ Srt cP d' 0 len ∧ PRow w' g d' ∧ Fr (· ≠ g) w w' := by
  have HS : Hid (Calls _ _ _ _ _) := stable_any w len cap d hW hd hrow hl
  clear hW hrow
  go_enter Tryz.func302, Tryz.ntmps302
  go_wp2_with fail
  refine HS.out.mono ?_
  rintro x w1 ⟨rfl, hx⟩
  have HX : Hid (∃ d' : Array (PH n g W0), _) := hx
  clear hx
  go_wp2_with fail
  go_end0
  exact ⟨rfl, HX.out⟩
end
end Go.Proofs.YtbogejmmkohbkaaGreatDoor.Sx

namespace Go.Proofs.YtbogejmmkohbkaaGreatDoor.Sx
open Go.RowKit Go.Sort

/-- a row of pairs, as a list -/
def QRow {n γ : Nat} {W0 : World} (w : World) (g len : Nat) (l : List (PH n γ W0)) : Prop :=
  g < w.heap.size ∧ l.length = len ∧ ∀ (i : Nat) (x : PH n γ W0), l[i]? = some x → w.cell? ⟨g, i * 2, none⟩ = some x.k.v ∧ w.cell? ⟨g, i * 2 + 1, none⟩ = some x.u.v ∧ w.frozen? ⟨g, i * 2, none⟩ = false ∧ w.frozen? ⟨g, i * 2 + 1, none⟩ = false
section
variable {n g : Nat} {W0 : World}
theorem PRow.list [Inhabited (PH n g W0)] {w : World} {d : Array (PH n g W0)} (h : PRow w g d) : QRow w g d.size d.toList := by
  refine ⟨h.1, by simp, fun i x hx => ?_⟩
  have hi : i < d.size := by simpa using (List.getElem?_eq_some_iff.1 hx).1
  have := h.2 i hi
  rw [getElem!_pos d i hi] at this
  simp only [Array.getElem?_toList] at hx
  rw [Array.getElem?_eq_getElem hi] at hx
  simp only [Option.some.injEq] at hx
  rw [← hx]; exact this
theorem QRow.fr {w w' : World} {len : Nat} {l : List (PH n g W0)} (h : QRow w g len l) {P : Nat → Prop} (f : Fr P w w') (hg : P g) : QRow w' g len l := by
  have hb := f.block g h.1 hg
  refine ⟨Nat.lt_of_lt_of_le h.1 f.size, h.2.1, fun i x hx => ?_⟩
  obtain ⟨a, b, c, e⟩ := h.2.2 i x hx
  exact ⟨(World.cell?_of_block (w := w) hb).trans a, (World.cell?_of_block (w := w) hb).trans b, (World.frozen?_of_block (w := w) hb).trans c, (World.frozen?_of_block (w := w) hb).trans e⟩
theorem QRow.set {w : World} {len : Nat} {l : List (PH n g W0)} (h : QRow w g len l) (j : Nat) (hj : j < len) (x : PH n g W0) : QRow ((w.setCell ⟨g, j * 2, none⟩ x.k.v).setCell ⟨g, j * 2 + 1, none⟩ x.u.v) g len (l.set j x) := by
  have off : ∀ (w : World) (o j : Nat) (v : Value), j ≠ o → (w.setCell ⟨g, o, none⟩ v).cell? ⟨g, j, none⟩ = w.cell? ⟨g, j, none⟩ := fun w o j v q => World.cell?_setCell_other _ _ _ _ (fun e => q (congrArg Addr.off e).symm)
  obtain ⟨y, hy⟩ : ∃ y, l[j]? = some y := ⟨_, List.getElem?_eq_getElem (by rw [h.2.1]; exact hj)⟩
  obtain ⟨a, b, c, e⟩ := h.2.2 j y hy
  refine ⟨by simpa using h.1, by simpa using h.2.1, fun t z hz => ?_⟩
  by_cases q : t = j
  · subst q
    rw [List.getElem?_set_self (by rw [h.2.1]; exact hj)] at hz
    simp only [Option.some.injEq] at hz
    subst hz
    exact ⟨by rw [off _ _ _ _ (by omega), World.cell?_setCell_same _ _ _ a], by rw [World.cell?_setCell_same _ _ _ ((off _ _ _ _ (by omega)).trans b)], by simpa using c, by simpa using e⟩
  · rw [List.getElem?_set_ne (Ne.symm q)] at hz
    obtain ⟨a, b, c, e⟩ := h.2.2 t z hz
    exact ⟨by rw [off _ _ _ _ (by omega), off _ _ _ _ (by omega), a], by rw [off _ _ _ _ (by omega), off _ _ _ _ (by omega), b], by simpa using c, by simpa using e⟩
theorem QRow.grown {w : World} {len : Nat} {l : List (PH n g W0)} (h : QRow w g len l) {i : Nat} {x : PH n g W0} (hx : l[i]? = some x) :
    (∀ q os, (grow (w.drewN q) os).cell? ⟨g, i * 2, none⟩ = some x.k.v) ∧ (∀ q os, (grow (w.drewN q) os).cell? ⟨g, i * 2 + 1, none⟩ = some x.u.v) := by
  obtain ⟨a, b, _, _⟩ := h.2.2 i x hx
  exact ⟨cell_grown (w := w) (a := ⟨g, i * 2, none⟩) h.1 a, cell_grown (w := w) (a := ⟨g, i * 2 + 1, none⟩) h.1 b⟩
theorem sameP_held (W : World) (a b : PH n g W0) (hW : Fr (· ≠ g) W0 W) : Calls Tryz.prog 305 #[.agg #[a.k.v, a.u.v], .agg #[b.k.v, b.u.v]] W fun e w' => e = .returned (.bool (cP a b == 0)) ∧ Grew W w' :=
  sameP_any n W a.k.x b.k.x a.k.v b.k.v a.u.v b.u.v ((a.k.h.keep hW).rep _ _ _) ((b.k.h.keep hW).rep _ _ _) a.u.one b.u.one
end

theorem run_clear_P (w : World) (ty : TypeId) (b o n c : Nat) (hn : 0 < n) (hc : ∀ j, j < n * 2 → (w.cell? ⟨b, o + j, none⟩).isSome = true) (hf : ∀ j, j < n * 2 → w.frozen? ⟨b, o + j, none⟩ = false) :
    (Builtin.clear_ #[270] ty #[.slice (some ⟨b, o, none⟩) n c]).run Tryz.prog w = .ok (.tuple #[]) (w.setCells b o (List.replicate (n * 2) .nilIface)) := by
  have hz : (Builtin.zeroCells (Value.agg #[Value.nilIface, Value.nilIface]).cells n).toList = List.replicate (n * 2) .nilIface := by
    simp only [Value.cells, Builtin.zeroCells]
    apply List.ext_getElem
    · simp
    · intro i h1 h2
      simp only [List.getElem_replicate]
      rcases Nat.mod_two_eq_zero_or_one i with q | q <;> simp [q]
  have hst := run_storeCells_cells (P := Tryz.prog) b o (List.replicate (n * 2) .nilIface) 0 w (by simpa using hc) (by simpa using hf) (by intro v hv; rw [List.eq_of_mem_replicate hv]; rfl)
  simp only [Nat.add_zero] at hst
  obtain ⟨m, rfl⟩ : ∃ m, n = m + 1 := ⟨n - 1, by omega⟩
  simp [Builtin.clear_, run_underlying Tryz.underlying270, hz, hst]

set_option maxRecDepth 100000 in
set_option maxHeartbeats 2000000 in
theorem compactP_any (n g : Nat) (W0 w : World) (len cap : Nat) (hs : List (PH n g W0)) (hW : Fr (· ≠ g) W0 w) (hlen : hs.length = len) (hl : len ≤ 4294967296) (hcap : len ≤ cap) (hrow : QRow w g len hs) :
    Calls Tryz.prog 304 #[.slice (some ⟨g, 0, none⟩) len cap, .func (.func 305) #[] #[]] w fun e w' => ∃ rs : List (PH n g W0), rs = compC (fun a b => cP a b == 0) hs ∧ e = .returned (.slice (some ⟨g, 0, none⟩) rs.length cap) ∧
      (∀ (i : Nat) (r : PH n g W0), rs[i]? = some r → w'.cell? ⟨g, i * 2, none⟩ = some r.k.v ∧ w'.cell? ⟨g, i * 2 + 1, none⟩ = some r.u.v) ∧ Fr (· ≠ g) w w' := by
  by_cases h2 : len < 2
  · have HF : Hid (compC (fun a b : PH n g W0 => cP a b == 0) hs = hs) := by
      show _ = _
      match hs, hlen with
      | [], _ => rfl
      | [x], _ => rfl
      | x :: y :: l, hlen => simp at hlen; omega
    have HC : Hid (∀ (i : Nat) (r : PH n g W0), hs[i]? = some r → w.cell? ⟨g, i * 2, none⟩ = some r.k.v ∧ w.cell? ⟨g, i * 2 + 1, none⟩ = some r.u.v) := fun i r hr => ⟨(hrow.2.2 i r hr).1, (hrow.2.2 i r hr).2.1⟩
    clear hrow hW
    go_enter Tryz.func304, Tryz.ntmps304
    go_wp2_with fail
    go_ret
    exact ⟨hs, HF.out.symm, by rw [hlen]; rfl, HC.out, Fr.refl _ _⟩
  · have mo := follows
    have HM : Hid (QRow w g len hs) := hrow
    have HW : Hid (Fr (· ≠ g) W0 w) := hW
    have HS : Hid (∀ (a b : PH n g W0) (W : World), Fr (· ≠ g) w W → _) := fun (a b : PH n g W0) (W : World) (hF : Fr (· ≠ g) w W) =>
      sameP_held W a b (HW.out.trans hF)
    clear hrow hW
    obtain ⟨E, hE⟩ : ∃ E : PH n g W0 → PH n g W0 → Bool, E = fun a b => cP a b == 0 := ⟨_, rfl⟩
    have HE : Hid (∀ (a b : PH n g W0) (W : World), Fr (· ≠ g) w W → Calls Tryz.prog 305 #[.agg #[a.k.v, a.u.v], .agg #[b.k.v, b.u.v]] W fun e w' => e = .returned (.bool (E a b)) ∧ Grew W w') := by rw [hE]; exact HS.out
    clear HS
    rw [← hE]
    clear hE HW
    have st : ∀ a : PH n g W0, (∀ (ad : Addr) (m : Mode) (w : World), Sem.run Tryz.prog (store ad a.k.v m) w = stored Tryz.prog w ad a.k.v m) ∧ ∀ (ad : Addr) (m : Mode) (w : World), Sem.run Tryz.prog (store ad a.u.v m) w = stored Tryz.prog w ad a.u.v m := fun a => ⟨store_one a.k.one, store_one a.u.one⟩
    have ST : Hid _ := st
    clear st
    go_enter Tryz.func304, Tryz.ntmps304
    go_wp2_with fail
    go_loopw [5] (fun i wr => ∃ j : Nat, j + 1 ≤ len ∧ i = .int .i64 ((j : Int) + 1) ∧ Hid (Grew w wr) ∧ Hid (∀ p, hs[j]? = some p → compC E hs = hs.take (j + 1) ++ goC E p (hs.drop (j + 1)))) (fun i _ => len - (intOf i).toNat)
    case atStart => exact ⟨0, by omega, rfl, Grew.refl w, fun p hp => compC_start E hp⟩
    case round =>
      obtain ⟨j, hj, rfl, HG, HQ⟩ := hrel
      by_cases hlt : j + 1 < len
      · obtain ⟨p, hp⟩ : ∃ p, hs[j]? = some p := ⟨_, List.getElem?_eq_getElem (by omega)⟩
        obtain ⟨x, hx⟩ : ∃ x, hs[j + 1]? = some x := ⟨_, List.getElem?_eq_getElem (by omega)⟩
        have HQ' := HQ.out p hp
        rw [goC_step E hx] at HQ'
        have hmr := HM.out.fr (P := fun _ => True) (Fr.grew HG.out) trivial
        obtain ⟨g0, g0'⟩ := hmr.grown hp
        obtain ⟨g1, g1'⟩ := hmr.grown hx
        have HX : Hid (hs[j + 1]? = some x) := hx
        have HPp : Hid (hs[j]? = some p) := hp
        have HEx : Hid (∀ W : World, Fr (· ≠ g) w W → _) := HE.out x p
        have HQQ : Hid (compC E hs = _) := HQ'
        have MR : Hid (QRow wr g len _) := hmr
        clear hp hx HQ' hmr HQ
        have lt' : (j : Int) + 1 < (len : Int) := by omega
        generalize hb : E x p = b at HEx HQQ
        have HEB : Hid (E x p = b) := hb
        clear hb
        obtain ⟨iN, hiN⟩ : ∃ q, q = j + 1 := ⟨_, rfl⟩
        obtain ⟨jN, hjN⟩ : ∃ q, q = j := ⟨_, rfl⟩
        have ea : ((j : Int) + 1).toNat = iN := by omega
        have pa : (0 : Int) ≤ (j : Int) + 1 := by omega
        have ra : IntKind.i64.wrap ((j : Int) + 1) = (j : Int) + 1 := by rw [IntKind.wrap_i64]; omega
        have ec : ((j : Int)).toNat = jN := by omega
        have pc : (0 : Int) ≤ (j : Int) := by omega
        have bc : (j : Int) < (len : Int) := by omega
        have rc : IntKind.i64.wrap ((j : Int)) = (j : Int) := by rw [IntKind.wrap_i64]; omega
        rw [← hiN] at g1 g1'
        rw [← hjN] at g0 g0'
        clear hiN hjN
        go_wp2_with fail
        go_quiet_grown (first | (go_at_call 305; refine Calls.grown_of (HEx.out _ (Fr.grew (HG.out.grown _ _)))))
        clear ea pa ra ec pc bc rc
        have G1 : Hid (Grew w (grow (wr.drewN nq) osq)) := HG.out.grown _ _
        have M1 : Hid (QRow (grow (wr.drewN nq) osq) g len _) := MR.out.fr (P := fun _ => True) (Fr.grew ⟨nq, osq, rfl⟩) trivial
        clear g0 g1 g0' g1' HG MR
        generalize grow (wr.drewN nq) osq = W1 at G1 M1 ⊢
        clear nq osq
        cases b with
        | false =>
          go_wp2_with fail
          go_roundw
          case rel =>
            refine ⟨j + 1, by omega, by go_num, G1, fun q hq => ?_⟩
            have e1 := HX.out
            rw [e1] at hq
            simp only [Option.some.injEq] at hq
            subst hq
            have := HQQ.out
            simp only [Bool.false_eq_true, if_false] at this
            rw [this, List.take_add_one (i := j + 1), e1]
            simp
          case measure => simp [intOf]; omega
        | true =>
          have HQ2 : Hid (compC E hs = hs.take (j + 1) ++ goC E x (hs.drop (j + 1 + 1))) := by have := HQQ.out; show _ = _; simpa using this
          clear HQQ HEx
          go_wp2_with fail
          generalize hL2 : len - (j + 1) = L2
          generalize cap - (j + 1) = C2
          clear HEB
          go_loopw [5, 7] (fun s5 s7 wr => ∃ (kk t : Nat) (ys : List (PH n g W0)), s5 = .int .i64 kk ∧ s7 = .int .i64 ((t : Int) + 1) ∧ t + 1 ≤ L2 ∧ kk ≤ j + 1 + t ∧ ys.length = len ∧ Hid (QRow wr g len ys) ∧ Hid (∀ q, j + 1 + t ≤ q → ys[q]? = hs[q]?) ∧
            Hid (∀ p, hs[j + 1 + t]? = some p → compC E hs = ys.take kk ++ goC E p (hs.drop (j + 1 + t + 1))) ∧ Hid (Fr (· ≠ g) w wr)) (fun _ s7 _ => L2 - (intOf s7).toNat)
          case atStart =>
            refine ⟨j + 1, 0, hs, by go_num, rfl, by omega, by omega, hlen, M1, fun q _ => rfl, fun q hq => ?_, Fr.grew G1.out⟩
            have e1 := HX.out
            rw [Nat.add_zero] at hq
            rw [e1] at hq
            simp only [Option.some.injEq] at hq
            subst hq
            exact HQ2.out
          case round =>
            obtain ⟨kk, t, ys, rfl, rfl, ht, hkk, hyl, MR, HY, HQ, HF⟩ := hrel
            have hgl := MR.out.1
            by_cases hlt2 : t + 1 < L2
            · obtain ⟨p2, hp2⟩ : ∃ p, hs[j + 1 + t]? = some p := ⟨_, List.getElem?_eq_getElem (by omega)⟩
              obtain ⟨u, hu⟩ : ∃ u, hs[j + 1 + t + 1]? = some u := ⟨_, List.getElem?_eq_getElem (by omega)⟩
              have HQ' := HQ.out p2 hp2
              rw [goC_step E hu] at HQ'
              obtain ⟨g0, g0'⟩ := MR.out.grown ((HY.out _ (Nat.le_refl _)).trans hp2)
              obtain ⟨g1, g1'⟩ := MR.out.grown ((HY.out _ (by omega)).trans hu)
              obtain ⟨yk, hyk⟩ : ∃ y, ys[kk]? = some y := ⟨_, List.getElem?_eq_getElem (by omega)⟩
              obtain ⟨iN, hiN⟩ : ∃ q, q = t + 1 := ⟨_, rfl⟩
              obtain ⟨jN, hjN⟩ : ∃ q, q = t := ⟨_, rfl⟩
              have ea : ((t : Int) + 1).toNat = iN := by omega
              have pa : (0 : Int) ≤ (t : Int) + 1 := by omega
              have ba : (t : Int) + 1 < (L2 : Int) := by omega
              have ra : IntKind.i64.wrap ((t : Int) + 1) = (t : Int) + 1 := by rw [IntKind.wrap_i64]; omega
              have ec : ((t : Int)).toNat = jN := by omega
              have pc : (0 : Int) ≤ (t : Int) := by omega
              have bc : (t : Int) < (L2 : Int) := by omega
              have rc : IntKind.i64.wrap ((t : Int)) = (t : Int) := by rw [IntKind.wrap_i64]; omega
              rw [show (j + 1 + t + 1) * 2 = (j + 1) * 2 + iN * 2 from by omega] at g1 g1'
              rw [show (j + 1 + t) * 2 = (j + 1) * 2 + jN * 2 from by omega] at g0 g0'
              have HIN : Hid (iN = t + 1) := hiN
              have HU : Hid (hs[j + 1 + t + 1]? = some u) := hu
              have HEx : Hid (∀ W : World, Fr (· ≠ g) w W → _) := HE.out u p2
              have HQQ : Hid (compC E hs = _) := HQ'
              clear hiN hjN hp2 hu HQ' HQ
              generalize hb : E u p2 = b at HEx HQQ
              clear hb
              go_wp2_with fail
              go_quiet_grown (first | (go_at_call 305; refine Calls.grown_of (HEx.out _ (HF.out.trans (Fr.grew ⟨_, _, rfl⟩)))))
              have e1 := g1 nq osq
              have e1' := g1' nq osq
              clear g0 g1 g0' g1'
              have F1 : Hid (Fr (· ≠ g) w (grow (wr.drewN nq) osq)) := HF.out.trans (Fr.grew ⟨nq, osq, rfl⟩)
              have M1 : Hid (QRow (grow (wr.drewN nq) osq) g len _) := MR.out.fr (P := fun _ => True) (Fr.grew ⟨nq, osq, rfl⟩) trivial
              clear MR HF hgl
              generalize grow (wr.drewN nq) osq = W2 at F1 M1 e1 e1' ⊢
              clear nq osq
              obtain ⟨dk1, dk1', dk2, dk2'⟩ := M1.out.2.2 kk yk hyk
              have HYK : Hid (ys[kk]? = some yk) := hyk
              clear hyk
              cases b with
              | true =>
                have HQ3 : Hid (compC E hs = ys.take kk ++ goC E u (hs.drop (j + 1 + t + 1 + 1))) := by have := HQQ.out; show _ = _; simpa using this
                clear HQQ HEx dk1 dk2 dk1' dk2' e1 e1'
                go_wp2_with fail
                go_roundw
                case rel =>
                  refine ⟨kk, t + 1, ys, rfl, by go_num, by omega, by omega, hyl, M1, fun q hq => HY.out q (by omega), fun q hq => ?_, F1⟩
                  have e1 := HU.out
                  rw [show j + 1 + (t + 1) = j + 1 + t + 1 from by omega] at hq ⊢
                  rw [e1] at hq
                  simp only [Option.some.injEq] at hq
                  subst hq
                  exact HQ3.out
                case measure => simp [intOf]; omega
              | false =>
                have HQ3 : Hid (compC E hs = ys.take kk ++ u :: goC E u (hs.drop (j + 1 + t + 1 + 1))) := by have := HQQ.out; show _ = _; simpa using this
                obtain ⟨su, su'⟩ := ST.out u
                clear HQQ HEx
                go_wp2_with fail
                go_roundw
                case rel =>
                  refine ⟨kk + 1, t + 1, ys.set kk u, by go_num, by go_num, by omega, by omega, by simpa using hyl, ?_, fun q hq => ?_, fun q hq => ?_, ?_⟩
                  · show QRow _ _ _ _
                    exact M1.out.set kk (by omega) u
                  · rw [List.getElem?_set_ne (by omega)]; exact HY.out q (by omega)
                  · have e1 := HU.out
                    rw [show j + 1 + (t + 1) = j + 1 + t + 1 from by omega] at hq ⊢
                    rw [e1] at hq
                    simp only [Option.some.injEq] at hq
                    subst hq
                    rw [HQ3.out, List.take_add_one, List.getElem?_set_self (by omega), List.take_set_of_le (Nat.le_refl _)]
                    simp
                  · exact (F1.out.set (by simp) _).set (by simp) _
                case measure => simp [intOf]; omega
            · obtain ⟨p2, hp2⟩ : ∃ p, hs[j + 1 + t]? = some p := ⟨_, List.getElem?_eq_getElem (by omega)⟩
              have HQ' := HQ.out p2 hp2
              rw [List.drop_of_length_le (by omega)] at HQ'
              have HR : Hid (compC E hs = ys.take kk) := by show _ = _; rw [HQ']; simp [goC]
              have hkl : (kk : Int) < (len : Int) := by omega
              have hcl := fun ty => run_clear_P wr ty g (kk * 2) (len - kk) (cap - kk) (by omega) (fun q hq => by
                obtain ⟨z, hz⟩ : ∃ z, ys[kk + q / 2]? = some z := ⟨_, List.getElem?_eq_getElem (by omega)⟩
                obtain ⟨c1, c2, _, _⟩ := MR.out.2.2 _ z hz
                rcases Nat.mod_two_eq_zero_or_one q with r | r
                · rw [show kk * 2 + q = (kk + q / 2) * 2 from by omega, c1]; rfl
                · rw [show kk * 2 + q = (kk + q / 2) * 2 + 1 from by omega, c2]; rfl) (fun q hq => by
                obtain ⟨z, hz⟩ : ∃ z, ys[kk + q / 2]? = some z := ⟨_, List.getElem?_eq_getElem (by omega)⟩
                obtain ⟨_, _, c1, c2⟩ := MR.out.2.2 _ z hz
                rcases Nat.mod_two_eq_zero_or_one q with r | r
                · rw [show kk * 2 + q = (kk + q / 2) * 2 from by omega, c1]
                · rw [show kk * 2 + q = (kk + q / 2) * 2 + 1 from by omega, c2])
              clear HQ' HQ hp2 HE HM ST
              go_wp2_with fail
              go_ret
              refine ⟨ys.take kk, HR.out.symm, by rw [List.length_take, show min kk ys.length = kk from by omega]; rfl, fun i r hr => ?_, Fr.setCells (by simp) _ _ HF.out⟩
              have hik : i < kk := by have := (List.getElem?_eq_some_iff.1 hr).1; rw [List.length_take] at this; omega
              rw [List.getElem?_take, if_pos hik] at hr
              obtain ⟨c1, c2, _, _⟩ := MR.out.2.2 i r hr
              exact ⟨by rw [cell_setCells _ _ _ _ (by omega), c1], by rw [cell_setCells _ _ _ _ (by omega), c2]⟩
      · obtain ⟨p, hp⟩ : ∃ p, hs[j]? = some p := ⟨_, List.getElem?_eq_getElem (by omega)⟩
        have HQ' := HQ.out p hp
        rw [List.drop_of_length_le (by omega), List.take_of_length_le (by omega)] at HQ'
        have HR : Hid (compC E hs = hs) := by show _ = _; rw [HQ']; simp [goC]
        have MR := HM.out.fr (P := fun _ => True) (Fr.grew HG.out) trivial
        have MR : Hid (QRow wr g len _) := MR
        clear HQ' HQ hp HE HM ST
        go_wp2_with fail
        go_ret
        refine ⟨hs, HR.out.symm, by rw [hlen]; rfl, fun i r hr => ?_, Fr.grew HG.out⟩
        exact ⟨(MR.out.2.2 i r hr).1, (MR.out.2.2 i r hr).2.1⟩
end Go.Proofs.YtbogejmmkohbkaaGreatDoor.Sx
