/- The reference: digits, for expressions. -/
import Derived.Test.YtjbekejcghjhbaaGreatDoorF24
import Derived.Deep.LoopGhost
import Derived.Laws.IdiomStrings
import Derived.Test.YtjbekejcghjhbaaGreatDoorF31
namespace Go.Proofs.YtjbekejcghjhbaaGreatDoor.Sx
open Go.RowKit Go.Sort

theorem dec_step_t (k : Nat) (h : 9 < k) : Lib.decDigits k = Lib.decDigits (k / 10) ++ [UInt8.ofNat (48 + k % 10)] := by
  rw [Lib.decDigits, dif_neg (by omega)]
theorem cat2_t (x y : List UInt8) : (⟨x.toArray⟩ : ByteArray) ++ ⟨y.toArray⟩ = ⟨(x ++ y).toArray⟩ := ByteArray.ext (by simp [ByteArray.data_append])
theorem of48_t (r : Nat) : UInt8.ofNat (48 + r) = 48 + UInt8.ofNat r := by simp
theorem one_byte_t (r : Nat) (hr : r < 10) (wr : World) : (convert 74 9 (.slice (some ⟨wr.heap.size, 0, none⟩) 1 1)).run Tryz.prog (wr.alloc (.cells #[.int .u8 (48 + (r : Int))] 5)) = .ok (.string ⟨#[UInt8.ofNat (48 + r)]⟩) (wr.alloc (.cells #[.int .u8 (48 + (r : Int))] 5)) := by
  have hx : (wr.alloc _).heap[wr.heap.size]? = some (.cells #[.int .u8 (48 + (r : Int))] 5 (0, 0)) := heap_new rfl
  have hc := block_cell hx 0
  refine run_convert_bytes_back _ 74 9 5 _ 1 [_] Tryz.underlying74 Tryz.underlying5 Tryz.underlying9 (fun j hj => ?_)
  have hj0 : j = 0 := by simp at hj; omega
  subst hj0
  refine hc.trans ?_
  simp
  omega
set_option maxRecDepth 100000 in
set_option maxHeartbeats 4000000 in
theorem rdigits_pos_t (m : Nat) (w : World) (hm : m ≤ 9223372036854775807) : Calls Tryz.prog 33 #[.int .i64 (m : Int)] w fun e w' => e = .returned (.string ⟨(Lib.decDigits m).toArray⟩) ∧ Grew w w' := by
  have hw : IntKind.u64.wrap (m : Int) = (m : Int) := by rw [IntKind.wrap_u64]; omega
  have hn : ¬ (m : Int) < 0 := by omega
  go_enter Tryz.func33, Tryz.ntmps33
  go_wp2_with fail
  go_loopw [3, 4] (fun u s wr => ∃ (k : Nat) (l : List UInt8), u = .int .u64 k ∧ s = .string ⟨l.toArray⟩ ∧ k ≤ m ∧ l.length * 9 + k ≤ m ∧ Hid (Lib.decDigits m = Lib.decDigits k ++ l) ∧ Hid (Grew w wr)) (fun u _ _ => (intOf u).toNat)
  case atStart => exact ⟨m, [], rfl, rfl, Nat.le_refl _, by simp, by show _ = _; simp, Grew.refl w⟩
  case round =>
    obtain ⟨k, l, rfl, rfl, hk, hl9, HD, HG⟩ := hrel
    have hs1 : ¬ 9223372036854775807 < 1 + l.length := by omega
    by_cases h9 : 9 < k
    · have e9 : (9 : Int) < (k : Int) := by omega
      obtain ⟨r, hr⟩ : ∃ r : Nat, r = k % 10 := ⟨_, rfl⟩
      obtain ⟨q, hq⟩ : ∃ q : Nat, q = k / 10 := ⟨_, rfl⟩
      have er : (k : Int) % 10 = (r : Int) := by omega
      have eq : (k : Int) / 10 = (q : Int) := by omega
      have er' : (k : Int).tmod 10 = (r : Int) := by rw [Int.tmod_eq_emod_of_nonneg (by omega)]; exact er
      have eq' : (k : Int).tdiv 10 = (q : Int) := by rw [Int.tdiv_eq_ediv_of_nonneg (by omega)]; exact eq
      have hr10 : r < 10 := by omega
      have w1 : IntKind.u64.wrap (r : Int) = (r : Int) := by rw [IntKind.wrap_u64]; omega
      have w2 : IntKind.u64.wrap (48 + (r : Int)) = 48 + (r : Int) := by rw [IntKind.wrap_u64]; omega
      have w3 : IntKind.u8.wrap (48 + (r : Int)) = 48 + (r : Int) := by rw [IntKind.wrap_u8]; omega
      have w4 : IntKind.u64.wrap (q : Int) = (q : Int) := by rw [IntKind.wrap_u64]; omega
      have HD2 : Hid (Lib.decDigits m = Lib.decDigits q ++ (UInt8.ofNat (48 + r) :: l)) := by
        show _ = _
        rw [HD.out, dec_step_t k h9, hr, hq, List.append_assoc]; rfl
      have cv := one_byte_t r hr10 wr
      have HG2 : Hid (Grew w (wr.alloc (.cells #[.int .u8 (48 + (r : Int))] 5))) := HG.out.alloc _
      have hqk : q + 9 ≤ k := by omega
      clear hr hq HD HG
      go_wp2_with fail
      go_roundw
      case rel => exact ⟨q, _ :: l, rfl, by rw [of48_t]; exact congrArg _ (cat2_t [48 + UInt8.ofNat r] l), by omega, by simp; omega, HD2, HG2⟩
      case measure => simp [intOf]; omega
    · have e9 : ¬ (9 : Int) < (k : Int) := by omega
      have w2 : IntKind.u64.wrap (48 + (k : Int)) = 48 + (k : Int) := by rw [IntKind.wrap_u64]; omega
      have w3 : IntKind.u8.wrap (48 + (k : Int)) = 48 + (k : Int) := by rw [IntKind.wrap_u8]; omega
      have cv := one_byte_t k (by omega) wr
      have HG2 : Hid (Grew w (wr.alloc (.cells #[.int .u8 (48 + (k : Int))] 5))) := HG.out.alloc _
      have HD2 : Hid (Lib.decDigits m = UInt8.ofNat (48 + k) :: l) := by
        show _ = _
        rw [HD.out, Lib.decDigits_one (by omega)]; rfl
      clear HD HG
      go_wp2_with fail
      go_ret
      refine ⟨?_, HG2.out⟩
      rw [HD2.out, of48_t]
      exact congrArg (fun b => Ending.returned (Value.string b)) (cat2_t [48 + _] l)
set_option maxRecDepth 100000 in
set_option maxHeartbeats 4000000 in
theorem rdigits_neg_t (m : Nat) (w : World) (h1 : 1 ≤ m) (hm : m ≤ 9223372036854775808) : Calls Tryz.prog 33 #[.int .i64 (-(m : Int))] w fun e w' => e = .returned (.string ⟨(45 :: Lib.decDigits m).toArray⟩) ∧ Grew w w' := by
  obtain ⟨z, hz⟩ : ∃ z : Nat, z = 18446744073709551616 - m := ⟨_, rfl⟩
  have hw : IntKind.u64.wrap (-(m : Int)) = (z : Int) := by rw [IntKind.wrap_u64]; omega
  have hw2 : IntKind.u64.wrap (-(z : Int)) = (m : Int) := by rw [IntKind.wrap_u64]; omega
  have hn : -(m : Int) < 0 := by omega
  clear hz
  go_enter Tryz.func33, Tryz.ntmps33
  go_wp2_with fail
  go_loopw [3, 4] (fun u s wr => ∃ (k : Nat) (l : List UInt8), u = .int .u64 k ∧ s = .string ⟨l.toArray⟩ ∧ k ≤ m ∧ l.length * 9 + k ≤ m ∧ Hid (Lib.decDigits m = Lib.decDigits k ++ l) ∧ Hid (Grew w wr)) (fun u _ _ => (intOf u).toNat)
  case atStart => exact ⟨m, [], rfl, rfl, Nat.le_refl _, by simp, by show _ = _; simp, Grew.refl w⟩
  case round =>
    obtain ⟨k, l, rfl, rfl, hk, hl9, HD, HG⟩ := hrel
    have hs1 : ¬ 9223372036854775807 < 1 + l.length := by omega
    have hs2 : ¬ 9223372036854775807 < 1 + (1 + l.length) := by omega
    by_cases h9 : 9 < k
    · have e9 : (9 : Int) < (k : Int) := by omega
      obtain ⟨r, hr⟩ : ∃ r : Nat, r = k % 10 := ⟨_, rfl⟩
      obtain ⟨q, hq⟩ : ∃ q : Nat, q = k / 10 := ⟨_, rfl⟩
      have er : (k : Int) % 10 = (r : Int) := by omega
      have eq : (k : Int) / 10 = (q : Int) := by omega
      have er' : (k : Int).tmod 10 = (r : Int) := by rw [Int.tmod_eq_emod_of_nonneg (by omega)]; exact er
      have eq' : (k : Int).tdiv 10 = (q : Int) := by rw [Int.tdiv_eq_ediv_of_nonneg (by omega)]; exact eq
      have hr10 : r < 10 := by omega
      have w1 : IntKind.u64.wrap (r : Int) = (r : Int) := by rw [IntKind.wrap_u64]; omega
      have w2 : IntKind.u64.wrap (48 + (r : Int)) = 48 + (r : Int) := by rw [IntKind.wrap_u64]; omega
      have w3 : IntKind.u8.wrap (48 + (r : Int)) = 48 + (r : Int) := by rw [IntKind.wrap_u8]; omega
      have w4 : IntKind.u64.wrap (q : Int) = (q : Int) := by rw [IntKind.wrap_u64]; omega
      have HD2 : Hid (Lib.decDigits m = Lib.decDigits q ++ (UInt8.ofNat (48 + r) :: l)) := by
        show _ = _
        rw [HD.out, dec_step_t k h9, hr, hq, List.append_assoc]; rfl
      have cv := one_byte_t r hr10 wr
      have HG2 : Hid (Grew w (wr.alloc (.cells #[.int .u8 (48 + (r : Int))] 5))) := HG.out.alloc _
      have hqk : q + 9 ≤ k := by omega
      clear hr hq HD HG
      go_wp2_with fail
      go_roundw
      case rel => exact ⟨q, _ :: l, rfl, by rw [of48_t]; exact congrArg _ (cat2_t [48 + UInt8.ofNat r] l), by omega, by simp; omega, HD2, HG2⟩
      case measure => simp [intOf]; omega
    · have e9 : ¬ (9 : Int) < (k : Int) := by omega
      have w2 : IntKind.u64.wrap (48 + (k : Int)) = 48 + (k : Int) := by rw [IntKind.wrap_u64]; omega
      have w3 : IntKind.u8.wrap (48 + (k : Int)) = 48 + (k : Int) := by rw [IntKind.wrap_u8]; omega
      have cv := one_byte_t k (by omega) wr
      have HG2 : Hid (Grew w (wr.alloc (.cells #[.int .u8 (48 + (k : Int))] 5))) := HG.out.alloc _
      have HD2 : Hid (Lib.decDigits m = UInt8.ofNat (48 + k) :: l) := by
        show _ = _
        rw [HD.out, Lib.decDigits_one (by omega)]; rfl
      clear HD HG
      go_wp2_with fail
      go_ret
      refine ⟨?_, HG2.out⟩
      rw [HD2.out, of48_t]
      exact congrArg (fun b => Ending.returned (Value.string b)) ((congrArg (fun b => (⟨#[45]⟩ : ByteArray) ++ b) (cat2_t [48 + UInt8.ofNat k] l)).trans (cat2_t [45] _))
theorem rdigits_any_t (n : Int) (w : World) (h1 : -9223372036854775808 ≤ n) (h2 : n ≤ 9223372036854775807) : Calls Tryz.prog 33 #[.int .i64 n] w fun e w' => e = .returned (.string ⟨(Lib.itoa n).toArray⟩) ∧ Grew w w' := by
  by_cases h : n < 0
  · have e1 : n = -((n.natAbs : Nat) : Int) := by omega
    have q := rdigits_neg_t n.natAbs w (by omega) (by omega)
    rw [← e1] at q
    unfold Lib.itoa
    rw [if_pos h]
    exact q
  · have e1 : n = ((n.toNat : Nat) : Int) := by omega
    have q := rdigits_pos_t n.toNat w (by omega)
    rw [← e1] at q
    unfold Lib.itoa
    rw [if_neg h]
    exact q
end Go.Proofs.YtjbekejcghjhbaaGreatDoor.Sx

namespace Go.Proofs.YtjbekejcghjhbaaGreatDoor.Sx
open Go.RowKit Go.Sort

set_option maxRecDepth 100000 in
set_option maxHeartbeats 2000000 in
theorem rnamed_any (s : ByteArray) (w : World) (hs : s.size ≤ 4294967296) : Calls Tryz.prog 159 #[.string s] w fun e w' => e = .returned (.bool (isNameB s.data.toList)) ∧ Grew w w' := by
  have hl : s.data.toList.length = s.size := by simp
  obtain ⟨v, hv⟩ : ∃ v, isNameB s.data.toList = v := ⟨_, rfl⟩
  rw [hv]
  have mo := follows
  by_cases h0 : s.size = 0
  · obtain rfl : false = v := by
      rw [← hv]
      have : s.data.toList = [] := List.length_eq_zero_iff.1 (by omega)
      rw [this]; rfl
    have a1 : ((s.size : Int) == 0) = true := by rw [beq_iff_eq]; omega
    clear hv
    go_enter Tryz.func159, Tryz.ntmps159
    go_wp2_with fail
    go_ret
    exact ⟨rfl, Grew.refl _⟩
  · have a1 : ((s.size : Int) == 0) = false := by rw [beq_eq_false_iff_ne]; omega
    have hfst : isNameB s.data.toList = (isLetter s[0] && decide (s.data.toList.length ≤ 16) && s.data.toList.all isPart && !isReserved s.data.toList) := by
      have hg : s.data.toList[0]? = some s[0] := by rw [List.getElem?_eq_getElem (by omega)]; rfl
      generalize s.data.toList = l at hg
      cases l with
      | nil => simp at hg
      | cons c r => simp at hg; rw [← hg]; rfl
    rw [hfst, hl] at hv
    by_cases h16 : 16 < s.size
    · obtain rfl : false = v := by rw [← hv, decide_eq_false (show ¬ s.size ≤ 16 by omega)]; simp
      have a2 : (16 : Int) < (s.size : Int) := by omega
      clear hv hfst
      go_enter Tryz.func159, Tryz.ntmps159
      go_wp2_with fail
      go_ret
      exact ⟨rfl, Grew.refl _⟩
    · have a2 : ¬ (16 : Int) < (s.size : Int) := by omega
      rw [decide_eq_true (show s.size ≤ 16 by omega), Bool.and_true] at hv
      have HV : Hid ((isLetter s[0] && s.data.toList.all isPart && !isReserved s.data.toList) = v) := hv
      have HIN : Hid _ := inner_any
      have HLE : Hid (∀ W, Calls _ _ _ _ _) := fun W => rletter_any s[0] W
      have HRE : Hid (∀ W, Calls _ _ _ _ _) := fun W => rreserved_any s W
      clear hv hfst
      go_enter Tryz.func159, Tryz.ntmps159
      go_wp2_with fail
      go_loopw [3] (fun i wr => ∃ k : Nat, k ≤ s.size ∧ i = .int .i64 k ∧ Hid (wr = w) ∧ Hid ((s.data.toList.take k).all isPart = true)) (fun i _ => s.size - (intOf i).toNat)
      case atStart => exact ⟨0, Nat.zero_le _, rfl, rfl, by simp [Hid]⟩
      case round =>
        obtain ⟨k, hk, rfl, HW, HQ⟩ := hrel
        by_cases hlt : k < s.size
        · have hg : s.data.toList[k]? = some s[k] := by rw [List.getElem?_eq_getElem (by omega)]; rfl
          have hT : (s.data.toList.take (k + 1)).all isPart = isPart s[k] := by rw [List.take_add_one, hg, List.all_append, HQ.out]; simp
          have hall : isPart s[k] = false → s.data.toList.all isPart = false := fun q => by
            rw [List.all_eq_false]
            exact ⟨s[k], List.mem_of_getElem? hg, by simp [q]⟩
          have HDk := HIN.out s[k]
          obtain ⟨b, hb⟩ : ∃ b, isPart s[k] = b := ⟨_, rfl⟩
          rw [hb] at HDk hall hT
          have HDK : Hid (∀ W, Calls _ _ _ _ _) := HDk
          have HT : Hid (_ = b) := hT
          cases b with
          | false =>
            obtain rfl : false = v := by have := HV.out; rw [hall rfl] at this; simpa using this
            clear hT HDk hall hb hg HV HQ HT
            go_wp2_with (go_at_call 102; refine (HDK.out _).mono ?_; rintro e w' ⟨rfl, hw⟩; obtain rfl := hw.symm)
            go_ret
            exact ⟨rfl, by rw [HW.out]; exact Grew.refl _⟩
          | true =>
            clear hT HDk hall hb hg HV HQ
            go_wp2_with (go_at_call 102; refine (HDK.out _).mono ?_; rintro e w' ⟨rfl, hw⟩; obtain rfl := hw.symm)
            go_roundw
            case rel => exact ⟨k + 1, by omega, by go_num, HW, HT⟩
            case measure => simp [intOf]; omega
        · obtain rfl : k = s.size := by omega
          have hq := HQ.out
          rw [List.take_of_length_le (by omega)] at hq
          have hv := HV.out
          rw [hq, Bool.and_true] at hv
          obtain ⟨b1, hb1⟩ : ∃ b, isLetter s[0] = b := ⟨_, rfl⟩
          obtain ⟨b2, hb2⟩ : ∃ b, isReserved s.data.toList = b := ⟨_, rfl⟩
          rw [hb1] at hv HLE
          rw [hb2] at hv HRE
          have HVV : Hid ((b1 && !b2) = v) := hv
          clear hq hv hb1 hb2 HV HQ
          have h00 : 0 < s.size := by omega
          go_wp2_with fail
          refine (HLE.out _).mono ?_
          rintro e w1 ⟨rfl, hw⟩; obtain rfl := hw.symm
          go_wp2_with fail
          refine (HRE.out _).mono ?_
          rintro e w2 ⟨rfl, hg⟩
          have G2 : Hid (Grew w w2) := by show Grew w w2; rw [← HW.out]; exact hg
          clear hg HLE HRE HW HIN
          cases b1 <;> cases b2
          all_goals
            obtain rfl := HVV.out
            clear HVV
            go_wp2_with fail
            go_ret
            exact ⟨rfl, G2.out⟩

set_option maxRecDepth 100000 in
set_option maxHeartbeats 2000000 in
theorem gshow_leaf (w : World) (k n : Int) (tx : ByteArray) (x : PX) (h : ValMeans k n tx.data.toList x) (hs : k = 3 → tx.size ≤ 1099511627776) :
    Calls Tryz.prog 13 #[.agg #[.int .i64 k, .int .i64 n, .string tx, .slice none 0 0, .slice none 0 0]] w fun e w' => e = .returned (.string ⟨x.tx.toArray⟩) ∧ Grew w w' := by
  have X0 : Hid ((w.alloc (.cells #[.int .i64 k, .int .i64 n, .string tx, .slice none 0 0, .slice none 0 0] 30)).heap[w.heap.size]? = some (.cells #[.int .i64 k, .int .i64 n, .string tx, .slice none 0 0, .slice none 0 0] 30 (0, 0))) := heap_new rfl
  have G0 : Hid (Grew w (w.alloc (.cells #[.int .i64 k, .int .i64 n, .string tx, .slice none 0 0, .slice none 0 0] 30))) := (Grew.refl w).alloc _
  have mo := follows
  rcases h with ⟨rfl, rfl⟩ | ⟨rfl, rfl, rfl⟩ | ⟨rfl, rfl, rfl⟩ | ⟨rfl, h1, h2, rfl⟩ | ⟨rfl, rfl⟩
  · go_enter Tryz.func13, Tryz.ntmps13
    go_upto_region 1 with fail
    generalize w.alloc _ = W0 at X0 G0 ⊢
    have b0 := block_cell X0.out 0
    go_wp2_with fail
    go_ret
    exact ⟨rfl, G0.out⟩
  · go_enter Tryz.func13, Tryz.ntmps13
    go_upto_region 1 with fail
    generalize w.alloc _ = W0 at X0 G0 ⊢
    have b0 := block_cell X0.out 0
    have b1 := block_cell X0.out 1
    go_wp2_with fail
    go_ret
    exact ⟨rfl, G0.out⟩
  · go_enter Tryz.func13, Tryz.ntmps13
    go_upto_region 1 with fail
    generalize w.alloc _ = W0 at X0 G0 ⊢
    have b0 := block_cell X0.out 0
    have b1 := block_cell X0.out 1
    go_wp2_with fail
    go_ret
    exact ⟨rfl, G0.out⟩
  · have HD : Hid (∀ W, Calls _ _ _ _ _) := fun W => rdigits_any_t n W h1 h2
    clear h1 h2
    go_enter Tryz.func13, Tryz.ntmps13
    go_upto_region 1 with fail
    generalize w.alloc _ = W0 at X0 G0 ⊢
    have b0 := block_cell X0.out 0
    have b1 := block_cell X0.out 1
    go_wp2_with fail
    refine (HD.out _).mono ?_
    rintro e w1 ⟨rfl, hg⟩
    have G1 : Hid (Grew w w1) := G0.out.trans hg
    clear hg
    go_wp2_with fail
    go_ret
    exact ⟨rfl, G1.out⟩
  · have hs := hs rfl
    have hs1 : ¬ 9223372036854775807 < 1 + tx.size := by omega
    have hs2 : ¬ 9223372036854775807 < 1 + tx.size + 1 := by omega
    have HE : Hid ((⟨#[34]⟩ : ByteArray) ++ tx ++ ⟨#[34]⟩ = ⟨(dTxt tx.data.toList).tx.toArray⟩) := ByteArray.ext (by simp [dTxt, ByteArray.data_append])
    go_enter Tryz.func13, Tryz.ntmps13
    go_upto_region 1 with fail
    generalize w.alloc _ = W0 at X0 G0 ⊢
    have b0 := block_cell X0.out 0
    have b2 := block_cell X0.out 2
    go_wp2_with fail
    go_ret
    exact ⟨congrArg (fun b => Ending.returned (Value.string b)) HE.out, G0.out⟩
end Go.Proofs.YtjbekejcghjhbaaGreatDoor.Sx

namespace Go.Proofs.YtjbekejcghjhbaaGreatDoor.Sx
open Go.RowKit Go.Sort

/-- trees so deep are printed as they should -/
def PrT (n : Nat) : Prop := ∀ (P : Nat → Prop) (w : World) (x : PX) (v : Value) (q : Nat), RepT P w n x v → x.tx.length ≤ 1000000000 → q ≤ 14 → Calls Tryz.prog 25 #[v, .int .i64 (q : Int)] w fun e w' => e = .returned (.string ⟨(partX x q).toArray⟩) ∧ Grew w w'
theorem RepT.grew {P : Nat → Prop} {w w' : World} {n : Nat} {x : PX} {v : Value} (h : RepT P w n x v) (g : Grew w w') : RepT P w' n x v := RepT.fr (Fr.grew g) (fun _ _ q => q) n x v h
theorem XBlk.grew {w w' : World} {b : Nat} {op nm tx : ByteArray} {a k n : Int} {pa : Option Addr} {len cap : Nat} (h : XBlk w b op a nm k n tx pa len cap) (g : Grew w w') : XBlk w' b op a nm k n tx pa len cap := h.of (P := fun _ => True) (Fr.grew g) trivial
theorem rowT_grew {P : Nat → Prop} {w w' : World} {n : Nat} {a : Option Addr} {len : Nat} {es : List PX} (h : RowP P w (RepT P w n) a len es) (g : Grew w w') : RowP P w' (RepT P w' n) a len es := RowP.fr (Fr.grew g) (fun _ _ h => h.grew g) (fun _ _ q => q) h

set_option maxRecDepth 100000 in
set_option maxHeartbeats 1000000 in
theorem gPrint_of (w : World) (be q : Nat) (op : ByteArray) (x : PX) (c0 : w.cell? ⟨be, 0, none⟩ = some (.string op)) (hrk : x.rk = ownF op.data.toList) (hl : x.tx.length ≤ 1000000000)
    (hB : Calls Tryz.prog 61 #[.pointer (some ⟨be, 0, none⟩), .int .i64 (x.rk : Int)] w fun e w' => e = .returned (.string ⟨x.tx.toArray⟩) ∧ Grew w w') :
    Calls Tryz.prog 25 #[.pointer (some ⟨be, 0, none⟩), .int .i64 (q : Int)] w fun e w' => e = .returned (.string ⟨(partX x q).toArray⟩) ∧ Grew w w' := by
  have HO : Hid (Calls _ _ _ _ _) := gown_any op w be c0
  rw [← hrk] at HO
  have HB : Hid (Calls _ _ _ _ _) := hB
  unfold partX
  obtain ⟨rk, hrk2⟩ : ∃ rk, x.rk = rk := ⟨_, rfl⟩
  obtain ⟨l, hl2⟩ : ∃ l, x.tx = l := ⟨_, rfl⟩
  rw [hrk2, hl2] at HB ⊢
  rw [hrk2] at HO
  rw [hl2] at hl
  clear hrk hB hrk2 hl2 c0
  by_cases h : rk < q
  · rw [if_pos h]
    have h' : (rk : Int) < (q : Int) := by omega
    have hs1 : ¬ 9223372036854775807 < 1 + l.length := by omega
    have hs2 : ¬ 9223372036854775807 < 1 + l.length + 1 := by omega
    have HE : Hid ((⟨#[40]⟩ : ByteArray) ++ ⟨l.toArray⟩ ++ ⟨#[41]⟩ = ⟨(40 :: (l ++ [41])).toArray⟩) := ByteArray.ext (by simp [ByteArray.data_append])
    clear h
    go_enter Tryz.func25, Tryz.ntmps25
    go_wp2_with fail
    refine HO.out.mono ?_
    rintro e w1 ⟨rfl, hw⟩; obtain rfl := hw.symm
    go_wp2_with fail
    refine HB.out.mono ?_
    rintro e w2 ⟨rfl, hg⟩
    have G2 : Hid (Grew w w2) := hg
    clear hg
    go_wp2_with fail
    go_ret
    exact ⟨congrArg (fun b => Ending.returned (Value.string b)) HE.out, G2.out⟩
  · rw [if_neg h]
    have h' : ¬ (rk : Int) < (q : Int) := by omega
    clear h
    go_enter Tryz.func25, Tryz.ntmps25
    go_wp2_with fail
    refine HO.out.mono ?_
    rintro e w1 ⟨rfl, hw⟩; obtain rfl := hw.symm
    go_wp2_with fail
    refine HB.out.mono ?_
    rintro e w2 ⟨rfl, hg⟩
    have G2 : Hid (Grew w w2) := hg
    clear hg
    go_wp2_with fail
    go_ret
    exact ⟨rfl, G2.out⟩

def sepsT (sep : Nat → List UInt8) (kids : List PX) (k : Nat) : List UInt8 := sepFrom sep 0 ((kids.take k).map PX.tx)
theorem sepT_snoc (sep : Nat → List UInt8) (a : List UInt8) : ∀ (l : List (List UInt8)) (i : Nat), sepFrom sep i (l ++ [a]) = sepFrom sep i l ++ (sep (i + l.length) ++ a)
  | [], i => by simp [sepFrom]
  | b :: l, i => by
    have := sepT_snoc sep a l (i + 1)
    simp only [List.cons_append, sepFrom, List.length_cons] at this ⊢
    rw [this, show i + 1 + l.length = i + (l.length + 1) by omega]
    simp
theorem sepsT_succ (sep : Nat → List UInt8) (kids : List PX) (k : Nat) (x : PX) (h : kids[k]? = some x) : sepsT sep kids (k + 1) = sepsT sep kids k ++ (sep k ++ x.tx) := by
  have hk := (List.getElem?_eq_some_iff.1 h).1
  unfold sepsT
  rw [List.take_add_one, h, Option.toList_some, List.map_append, List.map_cons, List.map_nil, sepT_snoc]
  rw [List.length_map, List.length_take, Nat.zero_add, Nat.min_eq_left (by omega)]
theorem sepsT_all (sep : Nat → List UInt8) (kids : List PX) (k : Nat) (h : kids.length ≤ k) : sepsT sep kids k = sepFrom sep 0 (kids.map PX.tx) := by
  unfold sepsT; rw [List.take_of_length_le h]
theorem sepT_le (sep : Nat → List UInt8) : ∀ (l m : List (List UInt8)) (i : Nat), (sepFrom sep i l).length ≤ (sepFrom sep i (l ++ m)).length
  | [], m, i => by simp [sepFrom]
  | b :: l, m, i => by
    have := sepT_le sep l m (i + 1)
    simp only [List.cons_append, sepFrom, List.length_append] at this ⊢
    omega
theorem sepsT_le (sep : Nat → List UInt8) (kids : List PX) (k : Nat) : (sepsT sep kids k).length ≤ (sepFrom sep 0 (kids.map PX.tx)).length := by
  have := sepT_le sep ((kids.take k).map PX.tx) ((kids.drop k).map PX.tx) 0
  rw [← List.map_append, List.take_append_drop] at this
  exact this
theorem part0 (x : PX) : partX x 0 = x.tx := by unfold partX; rw [if_neg (by omega)]
theorem catC (a b : List UInt8) : (⟨a.toArray⟩ : ByteArray) ++ ⟨b.toArray⟩ = ⟨(a ++ b).toArray⟩ := ByteArray.ext (by simp [ByteArray.data_append])

set_option maxRecDepth 100000 in
set_option maxHeartbeats 2000000 in
theorem gcommas_any {n : Nat} (hP : PrT n) (P : Nat → Prop) (w : World) (pa : Option Addr) (len cap : Nat) (kids : List PX) (hr : RowP P w (RepT P w n) pa len kids) (hl : (commasX kids).length ≤ 1000000000) :
    Calls Tryz.prog 115 #[.slice pa len cap] w fun e w' => e = .returned (.string ⟨(commasX kids).toArray⟩) ∧ Grew w w' := by
  have HP : Hid (PrT n) := hP
  have HR : Hid (RowP P w (RepT P w n) pa len kids) := hr
  have hle : ∀ k, (sepsT commaS kids k).length ≤ 1000000000 := fun k => Nat.le_trans (sepsT_le _ _ _) hl
  have HLE : Hid (∀ k, (sepsT commaS kids k).length ≤ 1000000000) := hle
  have hlen := hr.1
  have h32 := hr.2.1
  have HLN : Hid (len = kids.length) := hlen
  obtain ⟨S, hS⟩ : ∃ S, commasX kids = S := ⟨_, rfl⟩
  rw [hS]
  have HSS : Hid (sepsT commaS kids len = S) := by show _ = _; rw [← hS]; exact sepsT_all _ _ _ (by omega)
  clear hP hr hle hl hlen hS
  have mo := follows
  go_enter Tryz.func115, Tryz.ntmps115
  go_wp2_with fail
  go_loopw [3, 4] (fun s3 i wr => ∃ k : Nat, k ≤ len ∧ i = .int .i64 (k : Int) ∧ s3 = .string ⟨(sepsT commaS kids k).toArray⟩ ∧ Hid (Grew w wr)) (fun _ i _ => len - (intOf i).toNat)
  case atStart => exact ⟨0, Nat.zero_le _, rfl, by simp [sepsT, sepFrom], Grew.refl _⟩
  case round =>
    obtain ⟨k, hk, rfl, rfl, HG⟩ := hrel
    by_cases hlt : k < len
    · obtain ⟨x, hx⟩ : ∃ x, kids[k]? = some x := ⟨_, List.getElem?_eq_getElem (by have := HLN.out; omega)⟩
      obtain ⟨-, -, hz | ⟨g, off, rfl, hg, -, hc⟩⟩ := rowT_grew HR.out HG.out
      · omega
      obtain ⟨v, hv, hrep⟩ := hc k x hx
      have hsu := sepsT_succ commaS kids k x hx
      have hl1 := HLE.out (k + 1)
      have hl0 := HLE.out k
      rw [hsu] at hl1
      simp only [List.length_append] at hl1
      have HC : Hid (Calls _ _ _ _ _) := HP.out P wr x v 0 hrep (by omega) (by omega)
      rw [part0] at HC
      have HSU : Hid (sepsT commaS kids (k + 1) = sepsT commaS kids k ++ (commaS k ++ x.tx)) := hsu
      obtain ⟨t, ht⟩ : ∃ t, x.tx = t := ⟨_, rfl⟩
      obtain ⟨s, hs⟩ : ∃ s, sepsT commaS kids k = s := ⟨_, rfl⟩
      rw [ht] at HC HSU hl1
      rw [hs] at HSU hl1 hl0 ⊢
      clear hx hc hrep hsu ht hs
      by_cases hk0 : k = 0
      · subst hk0
        rw [Nat.add_zero] at hv
        have e0 : commaS 0 = [] := rfl
        rw [e0] at HSU hl1
        have hs1 : ¬ 9223372036854775807 < s.length + t.length := by simp at hl1; omega
        go_wp2_with fail
        refine HC.out.mono ?_
        rintro e w1 ⟨rfl, hg1⟩
        have G1 : Hid (Grew w w1) := HG.out.trans hg1
        clear hg1
        go_wp2_with fail
        go_roundw
        case rel => exact ⟨1, by omega, by go_num, by show Value.string (_ ++ _) = _; rw [catC, HSU.out]; rfl, G1⟩
        case measure => simp [intOf]; omega
      · have e0 : commaS k = [44, 32] := by unfold commaS; rw [if_neg hk0]
        rw [e0] at HSU hl1
        simp only [List.length_cons, List.length_nil] at hl1
        have hs1 : ¬ 9223372036854775807 < s.length + 2 := by omega
        have hs2 : ¬ 9223372036854775807 < s.length + 2 + t.length := by omega
        have hk' : (0 : Int) < (k : Int) := by omega
        clear e0 hk0
        go_wp2_with fail
        refine HC.out.mono ?_
        rintro e w1 ⟨rfl, hg1⟩
        have G1 : Hid (Grew w w1) := HG.out.trans hg1
        clear hg1
        go_wp2_with fail
        go_roundw
        case rel => exact ⟨k + 1, by omega, by go_num, by show Value.string ((⟨s.toArray⟩ ++ ⟨[44, 32].toArray⟩) ++ ⟨t.toArray⟩) = _; rw [catC, catC, HSU.out, List.append_assoc], G1⟩
        case measure => simp [intOf]; omega
    · obtain rfl : k = len := by omega
      go_wp2_with fail
      go_ret
      exact ⟨by rw [HSS.out]; rfl, HG.out⟩
end Go.Proofs.YtjbekejcghjhbaaGreatDoor.Sx
