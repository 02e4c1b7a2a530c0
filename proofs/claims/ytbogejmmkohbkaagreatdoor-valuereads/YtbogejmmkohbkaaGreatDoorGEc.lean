/- The reference: digits. -/
import Derived.Test.YtbogejmmkohbkaaGreatDoorGX4
import Derived.Laws.IdiomStrings
namespace Go.Proofs.YtbogejmmkohbkaaGreatDoor.Sx
open Go.RowKit Go.Sort

theorem dec_step (k : Nat) (h : 9 < k) : Lib.decDigits k = Lib.decDigits (k / 10) ++ [UInt8.ofNat (48 + k % 10)] := by
  rw [Lib.decDigits, dif_neg (by omega)]
theorem cat2 (x y : List UInt8) : (⟨x.toArray⟩ : ByteArray) ++ ⟨y.toArray⟩ = ⟨(x ++ y).toArray⟩ := ByteArray.ext (by simp [ByteArray.data_append])
theorem of48 (r : Nat) : UInt8.ofNat (48 + r) = 48 + UInt8.ofNat r := by simp
theorem one_byte (r : Nat) (hr : r < 10) (wr : World) : (convert 74 9 (.slice (some ⟨wr.heap.size, 0, none⟩) 1 1)).run Tryz.prog (wr.alloc (.cells #[.int .u8 (48 + (r : Int))] 5)) = .ok (.string ⟨#[UInt8.ofNat (48 + r)]⟩) (wr.alloc (.cells #[.int .u8 (48 + (r : Int))] 5)) := by
  have hx : (wr.alloc (.cells #[.int .u8 (48 + (r : Int))] 5)).heap[wr.heap.size]? = some (.cells #[.int .u8 (48 + (r : Int))] 5 (0, 0)) := heap_new rfl
  have hc := block_cell hx 0
  refine run_convert_bytes_back (P := Tryz.prog) _ 74 9 5 ⟨wr.heap.size, 0, none⟩ 1 [UInt8.ofNat (48 + r)] Tryz.underlying74 Tryz.underlying5 Tryz.underlying9 (fun j hj => ?_)
  have hj0 : j = 0 := by simp at hj; omega
  subst hj0
  refine hc.trans ?_
  simp
  omega
set_option maxRecDepth 100000 in
set_option maxHeartbeats 4000000 in
theorem rdigits_pos (m : Nat) (w : World) (hm : m ≤ 9223372036854775807) : Calls Tryz.prog 33 #[.int .i64 (m : Int)] w fun e w' => e = .returned (.string ⟨(Lib.decDigits m).toArray⟩) ∧ Grew w w' := by
  have hw : IntKind.u64.wrap (m : Int) = (m : Int) := by rw [IntKind.wrap_u64]; omega
  have hn : ¬ (m : Int) < 0 := by omega
  go_enter Tryz.func33, Tryz.ntmps33
  go_wp2_with fail
  go_loopw [3, 4] (fun u s wr => ∃ (k : Nat) (l : List UInt8), u = .int .u64 k ∧ s = .string ⟨l.toArray⟩ ∧ k ≤ m ∧ l.length * 9 + k ≤ m ∧ Hid (Lib.decDigits m = Lib.decDigits k ++ l) ∧ Hid (Grew w wr)) (fun u _ _ => (intOf u).toNat)
  case atStart => exact ⟨m, [], rfl, rfl, Nat.le_refl _, by simp, by show _ = _; simp, Grew.refl w⟩
  case round =>
    obtain ⟨k, l, rfl, rfl, hk, hl9, HD, HG⟩ := hrel
    have hs1 : ¬ 9223372036854775807 < 1 + l.length := by omega
    by_cases h9 : 9 < k
    · have e9 : (9 : Int) < (k : Int) := by omega
      obtain ⟨r, hr⟩ : ∃ r : Nat, r = k % 10 := ⟨_, rfl⟩
      obtain ⟨q, hq⟩ : ∃ q : Nat, q = k / 10 := ⟨_, rfl⟩
      have er : (k : Int) % 10 = (r : Int) := by omega
      have eq : (k : Int) / 10 = (q : Int) := by omega
      have er' : (k : Int).tmod 10 = (r : Int) := by rw [Int.tmod_eq_emod_of_nonneg (by omega)]; exact er
      have eq' : (k : Int).tdiv 10 = (q : Int) := by rw [Int.tdiv_eq_ediv_of_nonneg (by omega)]; exact eq
      have hr10 : r < 10 := by omega
      have w1 : IntKind.u64.wrap (r : Int) = (r : Int) := by rw [IntKind.wrap_u64]; omega
      have w2 : IntKind.u64.wrap (48 + (r : Int)) = 48 + (r : Int) := by rw [IntKind.wrap_u64]; omega
      have w3 : IntKind.u8.wrap (48 + (r : Int)) = 48 + (r : Int) := by rw [IntKind.wrap_u8]; omega
      have w4 : IntKind.u64.wrap (q : Int) = (q : Int) := by rw [IntKind.wrap_u64]; omega
      have HD2 : Hid (Lib.decDigits m = Lib.decDigits q ++ (UInt8.ofNat (48 + r) :: l)) := by
        show _ = _
        rw [HD.out, dec_step k h9, hr, hq, List.append_assoc]; rfl
      have cv := one_byte r hr10 wr
      have HG2 : Hid (Grew w (wr.alloc (.cells #[.int .u8 (48 + (r : Int))] 5))) := HG.out.alloc _
      have hqk : q + 9 ≤ k := by omega
      clear hr hq HD HG
      go_wp2_with fail
      go_roundw
      case rel => exact ⟨q, UInt8.ofNat (48 + r) :: l, rfl, by rw [of48]; exact congrArg _ (cat2 [48 + UInt8.ofNat r] l), by omega, by simp; omega, HD2, HG2⟩
      case measure => simp [intOf]; omega
    · have e9 : ¬ (9 : Int) < (k : Int) := by omega
      have w2 : IntKind.u64.wrap (48 + (k : Int)) = 48 + (k : Int) := by rw [IntKind.wrap_u64]; omega
      have w3 : IntKind.u8.wrap (48 + (k : Int)) = 48 + (k : Int) := by rw [IntKind.wrap_u8]; omega
      have cv := one_byte k (by omega) wr
      have HG2 : Hid (Grew w (wr.alloc (.cells #[.int .u8 (48 + (k : Int))] 5))) := HG.out.alloc _
      have HD2 : Hid (Lib.decDigits m = UInt8.ofNat (48 + k) :: l) := by
        show _ = _
        rw [HD.out, Lib.decDigits_one (by omega)]; rfl
      clear HD HG
      go_wp2_with fail
      go_ret
      refine ⟨?_, HG2.out⟩
      rw [HD2.out, of48]
      exact congrArg (fun b => Ending.returned (Value.string b)) (cat2 [48 + UInt8.ofNat k] l)
set_option maxRecDepth 100000 in
set_option maxHeartbeats 4000000 in
theorem rdigits_neg (m : Nat) (w : World) (h1 : 1 ≤ m) (hm : m ≤ 9223372036854775808) : Calls Tryz.prog 33 #[.int .i64 (-(m : Int))] w fun e w' => e = .returned (.string ⟨(45 :: Lib.decDigits m).toArray⟩) ∧ Grew w w' := by
  obtain ⟨z, hz⟩ : ∃ z : Nat, z = 18446744073709551616 - m := ⟨_, rfl⟩
  have hw : IntKind.u64.wrap (-(m : Int)) = (z : Int) := by rw [IntKind.wrap_u64]; omega
  have hw2 : IntKind.u64.wrap (-(z : Int)) = (m : Int) := by rw [IntKind.wrap_u64]; omega
  have hn : -(m : Int) < 0 := by omega
  clear hz
  go_enter Tryz.func33, Tryz.ntmps33
  go_wp2_with fail
  go_loopw [3, 4] (fun u s wr => ∃ (k : Nat) (l : List UInt8), u = .int .u64 k ∧ s = .string ⟨l.toArray⟩ ∧ k ≤ m ∧ l.length * 9 + k ≤ m ∧ Hid (Lib.decDigits m = Lib.decDigits k ++ l) ∧ Hid (Grew w wr)) (fun u _ _ => (intOf u).toNat)
  case atStart => exact ⟨m, [], rfl, rfl, Nat.le_refl _, by simp, by show _ = _; simp, Grew.refl w⟩
  case round =>
    obtain ⟨k, l, rfl, rfl, hk, hl9, HD, HG⟩ := hrel
    have hs1 : ¬ 9223372036854775807 < 1 + l.length := by omega
    have hs2 : ¬ 9223372036854775807 < 1 + (1 + l.length) := by omega
    by_cases h9 : 9 < k
    · have e9 : (9 : Int) < (k : Int) := by omega
      obtain ⟨r, hr⟩ : ∃ r : Nat, r = k % 10 := ⟨_, rfl⟩
      obtain ⟨q, hq⟩ : ∃ q : Nat, q = k / 10 := ⟨_, rfl⟩
      have er : (k : Int) % 10 = (r : Int) := by omega
      have eq : (k : Int) / 10 = (q : Int) := by omega
      have er' : (k : Int).tmod 10 = (r : Int) := by rw [Int.tmod_eq_emod_of_nonneg (by omega)]; exact er
      have eq' : (k : Int).tdiv 10 = (q : Int) := by rw [Int.tdiv_eq_ediv_of_nonneg (by omega)]; exact eq
      have hr10 : r < 10 := by omega
      have w1 : IntKind.u64.wrap (r : Int) = (r : Int) := by rw [IntKind.wrap_u64]; omega
      have w2 : IntKind.u64.wrap (48 + (r : Int)) = 48 + (r : Int) := by rw [IntKind.wrap_u64]; omega
      have w3 : IntKind.u8.wrap (48 + (r : Int)) = 48 + (r : Int) := by rw [IntKind.wrap_u8]; omega
      have w4 : IntKind.u64.wrap (q : Int) = (q : Int) := by rw [IntKind.wrap_u64]; omega
      have HD2 : Hid (Lib.decDigits m = Lib.decDigits q ++ (UInt8.ofNat (48 + r) :: l)) := by
        show _ = _
        rw [HD.out, dec_step k h9, hr, hq, List.append_assoc]; rfl
      have cv := one_byte r hr10 wr
      have HG2 : Hid (Grew w (wr.alloc (.cells #[.int .u8 (48 + (r : Int))] 5))) := HG.out.alloc _
      have hqk : q + 9 ≤ k := by omega
      clear hr hq HD HG
      go_wp2_with fail
      go_roundw
      case rel => exact ⟨q, UInt8.ofNat (48 + r) :: l, rfl, by rw [of48]; exact congrArg _ (cat2 [48 + UInt8.ofNat r] l), by omega, by simp; omega, HD2, HG2⟩
      case measure => simp [intOf]; omega
    · have e9 : ¬ (9 : Int) < (k : Int) := by omega
      have w2 : IntKind.u64.wrap (48 + (k : Int)) = 48 + (k : Int) := by rw [IntKind.wrap_u64]; omega
      have w3 : IntKind.u8.wrap (48 + (k : Int)) = 48 + (k : Int) := by rw [IntKind.wrap_u8]; omega
      have cv := one_byte k (by omega) wr
      have HG2 : Hid (Grew w (wr.alloc (.cells #[.int .u8 (48 + (k : Int))] 5))) := HG.out.alloc _
      have HD2 : Hid (Lib.decDigits m = UInt8.ofNat (48 + k) :: l) := by
        show _ = _
        rw [HD.out, Lib.decDigits_one (by omega)]; rfl
      clear HD HG
      go_wp2_with fail
      go_ret
      refine ⟨?_, HG2.out⟩
      rw [HD2.out, of48]
      exact congrArg (fun b => Ending.returned (Value.string b)) ((congrArg (fun b => (⟨#[45]⟩ : ByteArray) ++ b) (cat2 [48 + UInt8.ofNat k] l)).trans (cat2 [45] ([48 + UInt8.ofNat k] ++ l)))
theorem rdigits_any (n : Int) (w : World) (h1 : -9223372036854775808 ≤ n) (h2 : n ≤ 9223372036854775807) : Calls Tryz.prog 33 #[.int .i64 n] w fun e w' => e = .returned (.string ⟨(Lib.itoa n).toArray⟩) ∧ Grew w w' := by
  by_cases h : n < 0
  · have e1 : n = -((n.natAbs : Nat) : Int) := by omega
    have q := rdigits_neg n.natAbs w (by omega) (by omega)
    rw [← e1] at q
    unfold Lib.itoa
    rw [if_pos h]
    exact q
  · have e1 : n = ((n.toNat : Nat) : Int) := by omega
    have q := rdigits_pos n.toNat w (by omega)
    rw [← e1] at q
    unfold Lib.itoa
    rw [if_neg h]
    exact q
end Go.Proofs.YtbogejmmkohbkaaGreatDoor.Sx

namespace Go.Proofs.YtbogejmmkohbkaaGreatDoor.Sx
open Go.RowKit Go.Sort

theorem counts_step {n : Nat} (x : Node (AV n)) (r : List (AV (n + 1))) (k : Nat) : countsFrom (numOf (n + 1)) k ((x : AV (n + 1)) :: r) = ((decide (x.kind = 2) && decide (x.int = (k : Int))) && countsFrom (numOf (n + 1)) (k + 1) r) := by
  show ((if x.kind = 2 then some x.int else none) == some (k : Int) && _) = _
  by_cases h : x.kind = 2
  · by_cases h2 : x.int = (k : Int) <;> simp [h, h2]
  · simp [h]
set_option maxRecDepth 100000 in
set_option maxHeartbeats 4000000 in
theorem rseq_any (n : Nat) (P : Nat → Prop) (w : World) (a : Node (AV (n + 1))) (v : Value) (ha : Ref P w (n + 2) a v) :
    Calls Tryz.prog 35 #[v] w fun e w' => e = .returned (.bool (counts (numOf (n + 1)) a.keys && decide (a.kind = 6))) ∧ Grew w w' := by
  obtain ⟨s1, ka, kl, kc, ua, ul, uc, rfl, t1, r1, q1⟩ := ha
  clear t1 q1
  obtain ⟨B, hB⟩ : ∃ B, (counts (numOf (n + 1)) a.keys && decide (a.kind = 6)) = B := ⟨_, rfl⟩
  rw [hB]
  have HB : Hid ((countsFrom (numOf (n + 1)) 1 a.keys && decide (a.kind = 6)) = B) := hB
  clear hB
  generalize a.keys = ks at r1 HB
  obtain ⟨i0, hi0⟩ : ∃ i, i = a.int := ⟨_, rfl⟩
  obtain ⟨k0, hk0⟩ : ∃ i, i = a.kind := ⟨_, rfl⟩
  rw [← hi0, ← hk0]
  rw [← hk0] at HB
  clear hi0 hk0 a
  have R1 : Hid (Row5 P w (Ref P w (n + 1)) ka kl ks) := r1
  have lk : kl ≤ 4294967296 := r1.2.1
  clear r1
  have X0 : Hid ((w.alloc (.cells #[.int .i64 k0, .int .i64 i0, .string s1, .slice ka kl kc, .slice ua ul uc] 30)).heap[w.heap.size]? = some (.cells #[.int .i64 k0, .int .i64 i0, .string s1, .slice ka kl kc, .slice ua ul uc] 30 (0, 0))) := heap_new rfl
  have G0 : Hid (Grew w (w.alloc (.cells #[.int .i64 k0, .int .i64 i0, .string s1, .slice ka kl kc, .slice ua ul uc] 30))) := (Grew.refl w).alloc _
  have mo := follows
  go_enter Tryz.func35, Tryz.ntmps35
  go_wp2_with fail
  generalize w.alloc (.cells #[.int .i64 k0, .int .i64 i0, .string s1, .slice ka kl kc, .slice ua ul uc] 30) = W0 at X0 G0 ⊢
  go_loopw [3] (fun i wr => ∃ k : Nat, k ≤ kl ∧ i = .int .i64 k ∧ Hid ((countsFrom (numOf (n + 1)) (k + 1) (ks.drop k) && decide (k0 = 6)) = B) ∧ Hid (Grew w wr) ∧ Hid (wr.heap[w.heap.size]? = some (.cells #[.int .i64 k0, .int .i64 i0, .string s1, .slice ka kl kc, .slice ua ul uc] 30 (0, 0)))) (fun i _ => kl - (intOf i).toNat)
  case atStart => exact ⟨0, Nat.zero_le _, rfl, HB, G0, X0⟩
  case round =>
    clear G0 X0 HB
    obtain ⟨k, hk1, rfl, HB, HG, HX⟩ := hrel
    have b3 := block_cell HX.out 3
    have zb := block_lt HX.out
    by_cases hlt : k < kl
    · have hx : k < ks.length := by rw [← R1.out.1]; exact hlt
      obtain ⟨p1, o1, rfl, hp1, _, hc1⟩ := R1.out.2.2.resolve_left (by omega)
      obtain ⟨v1, hv1, hr1⟩ := hc1 k ks[k] (List.getElem?_eq_getElem hx)
      obtain ⟨x0, x1, x2, x3, x4, rfl, g0, g1, g2, g3, g4⟩ := cell_five HG.out hp1 hv1
      obtain ⟨_, _, _, _, _, _, _, ex, _, _, _⟩ := hr1
      simp only [Value.agg.injEq, Array.mk.injEq, List.cons.injEq, and_true] at ex
      obtain ⟨rfl, rfl, _, _, _⟩ := ex
      have HB2 := HB.out
      rw [List.drop_eq_getElem_cons hx, counts_step (ks[k] : Node (AV n))] at HB2
      generalize (ks[k] : Node (AV n)).kind = kd at g0 HB2
      generalize (ks[k] : Node (AV n)).int = nm at g1 HB2
      have HB3 : Hid (_ = B) := HB2
      clear HB2 hc1 hv1 g2 g3 g4
      by_cases hkd : kd = 2
      · by_cases hnm : nm = (k : Int) + 1
        · have e1 : ((kd : Int) == 2) = true := by simp [hkd]
          have e2 : (nm == (k : Int) + 1) = true := by simp [hnm]
          have HB4 : Hid ((countsFrom (numOf (n + 1)) (k + 1 + 1) (ks.drop (k + 1)) && decide (k0 = 6)) = B) := by
            have q := HB3.out
            simp [hkd, hnm] at q
            exact q
          clear HB HB3
          go_wp2_with fail
          go_roundw
          case rel => exact ⟨k + 1, by omega, by go_num, HB4, HG, HX⟩
          case measure => simp [intOf]; omega
        · have e1 : ((kd : Int) == 2) = true := by simp [hkd]
          have e2 : (nm == (k : Int) + 1) = false := by simp [hnm]
          have HB4 : Hid (B = false) := by
            have q := HB3.out
            simp [hnm] at q
            exact q
          clear HB HB3
          go_wp2_with fail
          go_ret
          exact ⟨by rw [HB4.out]; rfl, HG.out⟩
      · have e1 : ((kd : Int) == 2) = false := by simp; omega
        have HB4 : Hid (B = false) := by
          have q := HB3.out
          simp [hkd] at q
          exact q
        clear HB HB3
        go_wp2_with fail
        go_ret
        exact ⟨by rw [HB4.out]; rfl, HG.out⟩
    · have hkl : k = kl := by omega
      subst k
      have HB4 : Hid (B = decide (k0 = 6)) := by
        have q := HB.out
        rw [List.drop_of_length_le (by rw [← R1.out.1]; exact Nat.le_refl _)] at q
        simp [countsFrom] at q
        exact q.symm
      have b0 := block_cell HX.out 0
      clear HB
      go_wp2_with fail
      go_ret
      refine ⟨?_, HG.out⟩
      rw [HB4.out]
      by_cases h : k0 = 6
      · simp [h]
      · have h2 : ((k0 : Int) == 6) = false := by simp; omega
        simp [h, h2]
end Go.Proofs.YtbogejmmkohbkaaGreatDoor.Sx

namespace Go.Proofs.YtbogejmmkohbkaaGreatDoor.Sx
open Go.RowKit Go.Sort

theorem jT_cat (cl : List UInt8) : ∀ l m : List (List UInt8), jT cl (l ++ m) = jT [] l ++ jT cl m
  | [], m => rfl
  | a :: l, m => by
    show 44 :: 32 :: (a ++ jT cl (l ++ m)) = (44 :: 32 :: (a ++ jT [] l)) ++ jT cl m
    rw [jT_cat cl l m]; simp
theorem jL_end (cl : List UInt8) (l : List (List UInt8)) : jL cl l = jL [] l ++ cl := by
  cases l with
  | nil => rfl
  | cons a l =>
    show a ++ jT cl l = (a ++ jT [] l) ++ cl
    have h := jT_cat cl l []
    rw [List.append_nil] at h
    rw [h, List.append_assoc]; rfl
theorem jL_snoc (x : List UInt8) (l : List (List UInt8)) : jL [] (l ++ [x]) = if l = [] then x else (jL [] l ++ [44, 32]) ++ x := by
  cases l with
  | nil => show x ++ [] = x; simp
  | cons a l =>
    rw [if_neg (by simp)]
    show a ++ jT [] (l ++ [x]) = ((a ++ jT [] l) ++ [44, 32]) ++ x
    rw [jT_cat]
    show a ++ (jT [] l ++ (44 :: 32 :: (x ++ []))) = _
    simp
theorem jL_more (l m : List (List UInt8)) : (jL [] l).length ≤ (jL [] (l ++ m)).length := by
  cases l with
  | nil => exact Nat.zero_le _
  | cons a l =>
    show (a ++ jT [] l).length ≤ (a ++ jT [] (l ++ m)).length
    rw [jT_cat]; simp
/-- a row, one more of it shown -/
theorem jL_step (L : List (List UInt8)) (k : Nat) (x : List UInt8) (h : L[k]? = some x) : jL [] (L.take (k + 1)) = (if k = 0 then x else (jL [] (L.take k) ++ [44, 32]) ++ x) ∧ (jL [] (L.take k)).length + x.length ≤ (jL [] L).length ∧ x.length ≤ (jL [] L).length := by
  have hk := (List.getElem?_eq_some_iff.1 h).1
  have e : L.take (k + 1) = L.take k ++ [x] := by rw [List.take_add_one, h]; rfl
  have hz : (L.take k = []) ↔ k = 0 := by
    constructor
    · intro q
      have := congrArg List.length q
      rw [List.length_take, List.length_nil] at this
      omega
    · rintro rfl; rfl
  have e2 : jL [] (L.take (k + 1)) = (if k = 0 then x else (jL [] (L.take k) ++ [44, 32]) ++ x) := by
    rw [e, jL_snoc]
    by_cases q : k = 0
    · rw [if_pos (hz.2 q), if_pos q]
    · rw [if_neg (fun r => q (hz.1 r)), if_neg q]
  have hm := jL_more (L.take (k + 1)) (L.drop (k + 1))
  rw [List.take_append_drop, e2] at hm
  refine ⟨e2, ?_, ?_⟩
  · by_cases q : k = 0
    · subst q
      rw [if_pos rfl] at hm
      show 0 + x.length ≤ _
      omega
    · rw [if_neg q] at hm
      simp only [List.length_append, List.length_cons, List.length_nil] at hm
      omega
  · by_cases q : k = 0
    · rw [if_pos q] at hm; exact hm
    · rw [if_neg q] at hm
      simp only [List.length_append, List.length_cons, List.length_nil] at hm
      omega

def ShR (n : Nat) : Prop := ∀ (P : Nat → Prop) (w : World) (a : AV n) (v : Value), Ref P w n a v → WF n a → (sh n a).length ≤ 1099511627776 →
  Calls Tryz.prog 13 #[v] w fun e w' => e = .returned (.string ⟨(sh n a).toArray⟩) ∧ Grew w w'

set_option maxRecDepth 100000 in
set_option maxHeartbeats 4000000 in
theorem shown_any (n : Nat) (hC : ShR n) (P : Nat → Prop) (w : World) (a : Option Addr) (len cap : Nat) (es : List (AV n)) (h : Row5 P w (Ref P w n) a len es) (hW : ∀ x ∈ es, WF n x) (hb : (jL [] (es.map (sh n))).length ≤ 1099511627776) :
    Calls Tryz.prog 34 #[.slice a len cap] w fun e w' => e = .returned (.string ⟨(jL [] (es.map (sh n))).toArray⟩) ∧ Grew w w' := by
  have HC : Hid (ShR n) := hC
  have R1 : Hid (Row5 P w (Ref P w n) a len es) := h
  have HW : Hid (∀ x ∈ es, WF n x) := hW
  have lk : len ≤ 4294967296 := h.2.1
  have HJ : Hid (∀ k x, (es.map (sh n))[k]? = some x → _) := fun k x q => jL_step (es.map (sh n)) k x q
  clear hC h hW
  obtain ⟨T, hT⟩ : ∃ T, jL [] (es.map (sh n)) = T := ⟨_, rfl⟩
  have HT : Hid (jL [] (es.map (sh n)) = T) := hT
  rw [hT] at hb ⊢
  clear hT
  have mo := follows
  go_enter Tryz.func34, Tryz.ntmps34
  go_wp2_with fail
  go_loopw [3, 4] (fun s i wr => ∃ k : Nat, k ≤ len ∧ s = .string ⟨(jL [] ((es.map (sh n)).take k)).toArray⟩ ∧ i = .int .i64 k ∧ Hid (Grew w wr)) (fun _ i _ => len - (intOf i).toNat)
  case atStart => exact ⟨0, Nat.zero_le _, rfl, rfl, Grew.refl w⟩
  case round =>
    obtain ⟨k, hk1, rfl, rfl, HG⟩ := hrel
    by_cases hlt : k < len
    · have hx : k < es.length := by rw [← R1.out.1]; exact hlt
      obtain ⟨p1, o1, rfl, hp1, _, hc1⟩ := R1.out.2.2.resolve_left (by omega)
      obtain ⟨v1, hv1, hr1⟩ := hc1 k es[k] (List.getElem?_eq_getElem hx)
      obtain ⟨x0, x1, x2, x3, x4, rfl, g0, g1, g2, g3, g4⟩ := cell_five HG.out hp1 hv1
      have hs : (es.map (sh n))[k]? = some (sh n es[k]) := by simp [List.getElem?_eq_getElem hx]
      obtain ⟨f1, f2, f3⟩ := HJ.out k _ hs
      rw [HT.out] at f2 f3
      have HCALL : Hid (∀ (W : World) (hW : Grew w W), _) := fun (W : World) (hW : Grew w W) => HC.out P W es[k] _ (hr1.grew hW) (HW.out _ (List.getElem_mem hx)) (by omega)
      have hS0 : k = 0 → jL [] ((es.map (sh n)).take k) = [] := by rintro rfl; rfl
      generalize sh n es[k] = X at HCALL f1 f2 f3
      generalize jL [] ((es.map (sh n)).take k) = S at f1 f2 hS0 ⊢
      have F1 : Hid (_ = _) := f1
      have HS0 : Hid (k = 0 → S = []) := hS0
      clear hc1 hv1 hr1 hs f1 hS0
      by_cases hk0 : k = 0
      · have F2 : Hid (S ++ X = jL [] ((es.map (sh n)).take (k + 1))) := by
          show _ = _
          rw [F1.out, if_pos hk0, HS0.out hk0]; rfl
        have hi0 : ¬ (0 : Int) < (k : Int) := by omega
        have hS : ¬ 9223372036854775807 < S.length + X.length := by omega
        clear F1 HS0 hk0
        go_wp2_with (go_at_call 13; refine (HCALL.out _ HG.out).mono ?_; rintro e w' ⟨rfl, hg⟩; have G1 : Hid (Grew w w') := HG.out.trans hg; clear hg)
        go_roundw
        case rel => exact ⟨k + 1, by omega, by rw [← F2.out]; exact congrArg _ (cat2 S X), by go_num, G1⟩
        case measure => simp [intOf]; omega
      · have F2 : Hid ((S ++ [44, 32]) ++ X = jL [] ((es.map (sh n)).take (k + 1))) := by
          show _ = _
          rw [F1.out, if_neg hk0]
        have hi0 : (0 : Int) < (k : Int) := by omega
        have hS : ¬ 9223372036854775807 < S.length + 2 := by omega
        have hS2 : ¬ 9223372036854775807 < S.length + 2 + X.length := by omega
        clear F1 HS0 hk0
        go_wp2_with (go_at_call 13; refine (HCALL.out _ HG.out).mono ?_; rintro e w' ⟨rfl, hg⟩; have G1 : Hid (Grew w w') := HG.out.trans hg; clear hg)
        go_roundw
        case rel => exact ⟨k + 1, by omega, by rw [← F2.out, ← cat2, ← cat2], by go_num, G1⟩
        case measure => simp [intOf]; omega
    · have hkl : k = len := by omega
      subst k
      have HE : Hid (jL [] ((es.map (sh n)).take len) = T) := by
        show _ = _
        rw [List.take_of_length_le (by rw [List.length_map, R1.out.1]; exact Nat.le_refl _)]; exact HT.out
      rw [HE.out]
      go_wp2_with fail
      go_ret
      exact ⟨rfl, HG.out⟩
end Go.Proofs.YtbogejmmkohbkaaGreatDoor.Sx

namespace Go.Proofs.YtbogejmmkohbkaaGreatDoor.Sx
open Go.RowKit Go.Sort

theorem rseq_d (n : Nat) (P : Nat → Prop) (w : World) (a : Node (AV n)) (v : Value) (ha : Ref P w (n + 1) a v) :
    Calls Tryz.prog 35 #[v] w fun e w' => e = .returned (.bool (counts (numOf n) a.keys && decide (a.kind = 6))) ∧ Grew w w' := by
  cases n with
  | succ m => exact rseq_any m P w a v ha
  | zero =>
    obtain ⟨kd, i, tx, ks, vs⟩ := a
    have hk : ks = [] := by
      cases ks with
      | nil => rfl
      | cons x _ => exact (show Empty from x).elim
    have hv : vs = [] := by
      cases vs with
      | nil => rfl
      | cons x _ => exact (show Empty from x).elim
    subst hk hv
    obtain ⟨s1, ka, kl, kc, ua, ul, uc, rfl, t1, r1, q1⟩ := ha
    have e1 : kl = 0 := r1.1
    have e2 : ul = 0 := q1.1
    subst e1 e2
    exact rseq_any 0 P w (⟨kd, i, tx, [], []⟩ : Node (AV 1)) _ ⟨s1, ka, 0, kc, ua, 0, uc, rfl, t1, row5_none _ _ _ _, row5_none _ _ _ _⟩
def two (a b : List UInt8) : List UInt8 := a ++ 58 :: 32 :: b
theorem jQ_two : ∀ ks vs : List (List UInt8), jQ ks vs = jT [93] (List.zipWith two ks vs)
  | [], vs => by cases vs <;> rfl
  | k :: ks, [] => rfl
  | k :: ks, v :: vs => by
    show 44 :: 32 :: (k ++ 58 :: 32 :: (v ++ jQ ks vs)) = 44 :: 32 :: (two k v ++ jT [93] (List.zipWith two ks vs))
    rw [jQ_two ks vs]; simp [two]
theorem jP_two (ks vs : List (List UInt8)) : jP ks vs = jL [93] (List.zipWith two ks vs) := by
  cases ks with
  | nil => cases vs <;> rfl
  | cons k ks =>
    cases vs with
    | nil => rfl
    | cons v vs =>
      show k ++ 58 :: 32 :: (v ++ jQ ks vs) = two k v ++ jT [93] (List.zipWith two ks vs)
      rw [jQ_two]; simp [two]
theorem brace (a b : List UInt8) (l : List UInt8) : ((⟨a.toArray⟩ : ByteArray) ++ ⟨l.toArray⟩) ++ ⟨b.toArray⟩ = ⟨(a ++ (l ++ b)).toArray⟩ := by rw [cat2, cat2, List.append_assoc]
end Go.Proofs.YtbogejmmkohbkaaGreatDoor.Sx
