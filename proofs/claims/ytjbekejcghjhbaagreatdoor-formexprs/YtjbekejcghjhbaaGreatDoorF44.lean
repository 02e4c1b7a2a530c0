/- The reference: parts of functions, as text. -/
import Derived.Test.YtjbekejcghjhbaaGreatDoorF41
namespace Go.Proofs.YtjbekejcghjhbaaGreatDoor.Sx
open Go.RowKit Go.Sort

set_option maxRecDepth 100000 in
set_option maxHeartbeats 2000000 in
theorem rnamed_free (s : ByteArray) (w : World) : Calls Tryz.prog 159 #[.string s] w fun e w' => e = .returned (.bool (isNameB s.data.toList)) ∧ Grew w w' := by
  have hl : s.data.toList.length = s.size := by simp
  obtain ⟨v, hv⟩ : ∃ v, isNameB s.data.toList = v := ⟨_, rfl⟩
  rw [hv]
  have mo := follows
  by_cases h0 : s.size = 0
  · obtain rfl : false = v := by
      rw [← hv]
      have : s.data.toList = [] := List.length_eq_zero_iff.1 (by omega)
      rw [this]; rfl
    have a1 : ((s.size : Int) == 0) = true := by rw [beq_iff_eq]; omega
    clear hv
    go_enter Tryz.func159, Tryz.ntmps159
    go_wp2_with fail
    go_ret
    exact ⟨rfl, Grew.refl _⟩
  · have a1 : ((s.size : Int) == 0) = false := by rw [beq_eq_false_iff_ne]; omega
    have hfst : isNameB s.data.toList = (isLetter s[0] && decide (s.data.toList.length ≤ 16) && s.data.toList.all isPart && !isReserved s.data.toList) := by
      have hg : s.data.toList[0]? = some s[0] := by rw [List.getElem?_eq_getElem (by omega)]; rfl
      generalize s.data.toList = l at hg
      cases l with
      | nil => simp at hg
      | cons c r => simp at hg; rw [← hg]; rfl
    rw [hfst, hl] at hv
    by_cases h16 : 16 < s.size
    · obtain rfl : false = v := by rw [← hv, decide_eq_false (show ¬ s.size ≤ 16 by omega)]; simp
      have a2 : (16 : Int) < (s.size : Int) := by omega
      clear hv hfst
      go_enter Tryz.func159, Tryz.ntmps159
      go_wp2_with fail
      go_ret
      exact ⟨rfl, Grew.refl _⟩
    · have a2 : ¬ (16 : Int) < (s.size : Int) := by omega
      rw [decide_eq_true (show s.size ≤ 16 by omega), Bool.and_true] at hv
      have HV : Hid ((isLetter s[0] && s.data.toList.all isPart && !isReserved s.data.toList) = v) := hv
      have HIN : Hid _ := inner_any
      have HLE : Hid (∀ W, Calls _ _ _ _ _) := fun W => rletter_any s[0] W
      have HRE : Hid (∀ W, Calls _ _ _ _ _) := fun W => rreserved_any s W
      clear hv hfst
      go_enter Tryz.func159, Tryz.ntmps159
      go_wp2_with fail
      go_loopw [3] (fun i wr => ∃ k : Nat, k ≤ s.size ∧ i = .int .i64 k ∧ Hid (wr = w) ∧ Hid ((s.data.toList.take k).all isPart = true)) (fun i _ => s.size - (intOf i).toNat)
      case atStart => exact ⟨0, Nat.zero_le _, rfl, rfl, by simp [Hid]⟩
      case round =>
        obtain ⟨k, hk, rfl, HW, HQ⟩ := hrel
        by_cases hlt : k < s.size
        · have hg : s.data.toList[k]? = some s[k] := by rw [List.getElem?_eq_getElem (by omega)]; rfl
          have hT : (s.data.toList.take (k + 1)).all isPart = isPart s[k] := by rw [List.take_add_one, hg, List.all_append, HQ.out]; simp
          have hall : isPart s[k] = false → s.data.toList.all isPart = false := fun q => by
            rw [List.all_eq_false]
            exact ⟨s[k], List.mem_of_getElem? hg, by simp [q]⟩
          have HDk := HIN.out s[k]
          obtain ⟨b, hb⟩ : ∃ b, isPart s[k] = b := ⟨_, rfl⟩
          rw [hb] at HDk hall hT
          have HDK : Hid (∀ W, Calls _ _ _ _ _) := HDk
          have HT : Hid (_ = b) := hT
          cases b with
          | false =>
            obtain rfl : false = v := by have := HV.out; rw [hall rfl] at this; simpa using this
            clear hT HDk hall hb hg HV HQ HT
            go_wp2_with (go_at_call 102; refine (HDK.out _).mono ?_; rintro e w' ⟨rfl, hw⟩; obtain rfl := hw.symm)
            go_ret
            exact ⟨rfl, by rw [HW.out]; exact Grew.refl _⟩
          | true =>
            clear hT HDk hall hb hg HV HQ
            go_wp2_with (go_at_call 102; refine (HDK.out _).mono ?_; rintro e w' ⟨rfl, hw⟩; obtain rfl := hw.symm)
            go_roundw
            case rel => exact ⟨k + 1, by omega, by go_num, HW, HT⟩
            case measure => simp [intOf]; omega
        · obtain rfl : k = s.size := by omega
          have hq := HQ.out
          rw [List.take_of_length_le (by omega)] at hq
          have hv := HV.out
          rw [hq, Bool.and_true] at hv
          obtain ⟨b1, hb1⟩ : ∃ b, isLetter s[0] = b := ⟨_, rfl⟩
          obtain ⟨b2, hb2⟩ : ∃ b, isReserved s.data.toList = b := ⟨_, rfl⟩
          rw [hb1] at hv HLE
          rw [hb2] at hv HRE
          have HVV : Hid ((b1 && !b2) = v) := hv
          clear hq hv hb1 hb2 HV HQ
          have h00 : 0 < s.size := by omega
          go_wp2_with fail
          refine (HLE.out _).mono ?_
          rintro e w1 ⟨rfl, hw⟩; obtain rfl := hw.symm
          go_wp2_with fail
          refine (HRE.out _).mono ?_
          rintro e w2 ⟨rfl, hg⟩
          have G2 : Hid (Grew w w2) := by show Grew w w2; rw [← HW.out]; exact hg
          clear hg HLE HRE HW HIN
          cases b1 <;> cases b2
          all_goals
            obtain rfl := HVV.out
            clear HVV
            go_wp2_with fail
            go_ret
            exact ⟨rfl, G2.out⟩


/-- which expressions are names as keys -/
theorem key_of {op nm tx : List UInt8} {k n : Int} {kids : List PX} {x : PX} (h : MeansT op nm k n tx kids x) : (op = tValue ∧ k = 3 ∧ x = dTxt tx) ∨ (x.key = none ∧ (op ≠ tValue ∨ k ≠ 3)) := by
  rcases h with ⟨rfl, h⟩ | ⟨rfl, rfl⟩ | ⟨rfl, rfl⟩ | ⟨rfl, rfl⟩ | ⟨h, rfl⟩ | ⟨rfl, rfl⟩ | ⟨rfl, rfl⟩ | ⟨rfl, rfl⟩ | ⟨rfl, rfl⟩ | ⟨rfl, rfl⟩ | ⟨rfl, a, b, c, rfl, rfl⟩ | ⟨rfl, a, b, rfl, rfl⟩ | ⟨h, a, b, rfl, rfl⟩ | ⟨rfl, a, b, rfl, rfl⟩ | ⟨rfl, a, rfl, rfl⟩ | ⟨h, a, rfl, rfl⟩ | ⟨h, a, rfl, rfl⟩ | ⟨rfl, a, b, rfl, rfl⟩ | ⟨rfl, a, b, c, rfl, rfl⟩ | ⟨h, a, b, rfl, rfl⟩
  · rcases h with ⟨e, rfl⟩ | ⟨e, _, rfl⟩ | ⟨e, _, rfl⟩ | ⟨e, _, _, rfl⟩ | ⟨e, rfl⟩
    · exact .inr ⟨rfl, .inr (by omega)⟩
    · exact .inr ⟨rfl, .inr (by omega)⟩
    · exact .inr ⟨rfl, .inr (by omega)⟩
    · exact .inr ⟨rfl, .inr (by omega)⟩
    · exact .inl ⟨rfl, e, rfl⟩
  · exact .inr ⟨rfl, .inl (by decide)⟩
  · exact .inr ⟨rfl, .inl (by decide)⟩
  · exact .inr ⟨rfl, .inl (by decide)⟩
  · exact .inr ⟨rfl, .inl (by intro e; rw [e] at h; revert h; decide)⟩
  · exact .inr ⟨rfl, .inl (by decide)⟩
  · exact .inr ⟨rfl, .inl (by decide)⟩
  · exact .inr ⟨rfl, .inl (by decide)⟩
  · exact .inr ⟨rfl, .inl (by decide)⟩
  · exact .inr ⟨rfl, .inl (by decide)⟩
  · exact .inr ⟨rfl, .inl (by decide)⟩
  · exact .inr ⟨rfl, .inl (by decide)⟩
  · exact .inr ⟨by unfold dBind; split <;> rfl, .inl (by intro e; rw [e] at h; revert h; decide)⟩
  · exact .inr ⟨rfl, .inl (by decide)⟩
  · exact .inr ⟨rfl, .inl (by decide)⟩
  · exact .inr ⟨rfl, .inl (by intro e; rw [e] at h; revert h; decide)⟩
  · exact .inr ⟨rfl, .inl (by intro e; rw [e] at h; revert h; decide)⟩
  · exact .inr ⟨rfl, .inl (by decide)⟩
  · exact .inr ⟨rfl, .inl (by decide)⟩
  · exact .inr ⟨rfl, .inl (by intro e; rw [e] at h; revert h; decide)⟩
/-- a key's node -/
theorem RepT.node {P : Nat → Prop} {w : World} {N : Nat} {x : PX} {v : Value} (h : RepT P w N x v) : ∃ b op a nm k n tx pa len cap kids, v = .pointer (some ⟨b, 0, none⟩) ∧ XBlk w b op a nm k n tx pa len cap ∧ MeansT op.data.toList nm.data.toList k n tx.data.toList kids x := by
  cases N with
  | zero => exact absurd h id
  | succ N =>
    obtain ⟨b, op, nm, tx, a, k, i, pa, len, cap, kids, h1, h2, h3, h4, h5⟩ := h
    exact ⟨b, op, a, nm, k, i, tx, pa, len, cap, kids, h1, h3, h5⟩

set_option maxRecDepth 100000 in
set_option maxHeartbeats 4000000 in
theorem gapplied_at {P : Nat → Prop} {N : Nat} (hP : PrT N) (w : World) (be g off cap : Nat) (nm : ByteArray) (f k : PX) (hn : ND P N w be ⟨#[97, 116]⟩ nm g off 2 cap [f, k]) (hl : (dAt f k).tx.length ≤ 1000000000) :
    Calls Tryz.prog 116 #[.pointer (some ⟨be, 0, none⟩)] w fun e w' => e = .returned (.string ⟨(dAt f k).tx.toArray⟩) ∧ Grew w w' := by
  have HP : Hid (PrT N) := hP
  have HN : Hid (ND P N w be _ nm g off 2 cap _) := hn
  have mo := follows
  obtain ⟨l0, hl0⟩ : ∃ l, partX f 13 = l := ⟨_, rfl⟩
  have L0 : Hid (partX f 13 = l0) := hl0
  have hp0 := part_le f 13
  rw [hl0] at hp0
  obtain ⟨c0, c2, c8, hbe, hgl⟩ := HN.out.cells
  obtain ⟨v0, hv0, hr0⟩ := HN.out.2.2.2 0 _ rfl
  obtain ⟨v1, hv1, hr1⟩ := HN.out.2.2.2 1 _ rfl
  obtain ⟨bk, op, ak, nk, kk, ik, tk, pk, lk, ck, kidk, rfl, hk, hm⟩ := hr1.node
  have HK : Hid (XBlk w bk op ak nk kk ik tk pk lk ck) := hk
  have HR1 : Hid (RepT P w N k (.pointer (some ⟨bk, 0, none⟩))) := hr1
  have hfl : (dAt f k).tx = l0 ++ (match k.key with | some n => 46 :: n | none => 91 :: (k.tx ++ [93])) := by rw [← hl0]; rfl
  rw [hfl] at hl ⊢
  obtain ⟨T, hT⟩ : ∃ T, l0 ++ (match k.key with | some n => 46 :: n | none => 91 :: (k.tx ++ [93])) = T := ⟨_, rfl⟩
  have HT : Hid (l0 ++ (match k.key with | some n => 46 :: n | none => 91 :: (k.tx ++ [93])) = T) := hT
  have HLL : Hid (T.length ≤ 1000000000) := by show _ ≤ _; rw [← hT]; exact hl
  rw [hT]
  have hl1 : f.tx.length ≤ 1000000000 := by simp only [List.length_append] at hl; omega
  have HC0 : Hid (Calls _ _ _ _ _) := HP.out P w _ v0 13 hr0 hl1 (by omega)
  rw [L0.out] at HC0
  rw [Nat.add_zero] at hv0
  have hkey := key_of hm
  obtain ⟨bn, hbn⟩ : ∃ b, isNameB tk.data.toList = b := ⟨_, rfl⟩
  have HNM : Hid (∀ W, Calls Tryz.prog 159 #[.string tk] W fun e w' => e = .returned (.bool bn) ∧ Grew W w') := fun W => by have := rnamed_free tk W; rw [hbn] at this; exact this
  have HKEY : Hid _ := hkey
  have HBN : Hid (isNameB tk.data.toList = bn) := hbn
  clear hn hP hl0 hr0 hr1 hk hm hfl hT hl hkey hbn hp0
  go_enter Tryz.func116, Tryz.ntmps116
  go_wp2_with fail
  refine HC0.out.mono ?_
  rintro e W1 ⟨rfl, hg0⟩
  have G1 : Hid (Grew w W1) := hg0
  have HN1 : Hid (ND P N W1 be _ nm g off _ cap _) := HN.out.grew hg0
  have HK1 : Hid (XBlk W1 bk op ak nk kk ik tk pk lk ck) := HK.out.grew hg0
  have hv1 := (World.cell?_of_block (w := w) (hg0.below.block g hgl)).trans hv1
  clear hg0 c0 c2 c8 hbe hgl hv0 HC0 HK
  obtain ⟨c0, c2, c8, hbe, hgl⟩ := HN1.out.cells
  have k0 := block_cell HK1.out 0
  have k3 := block_cell HK1.out 3
  have k5 := block_cell HK1.out 5
  have hbk := block_lt HK1.out
  go_wp2_with fail
  refine (HNM.out _).mono ?_
  rintro e W2 ⟨rfl, hg1⟩
  have G2 : Hid (Grew w W2) := G1.out.trans hg1
  have HN2 : Hid (ND P N W2 be _ nm g off _ cap _) := HN1.out.grew hg1
  have HK2 : Hid (XBlk W2 bk op ak nk kk ik tk pk lk ck) := HK1.out.grew hg1
  clear hg1 c0 c2 c8 hbe hgl hv1 HNM HN1 HK1 k0 k3 k5 hbk HN
  obtain ⟨c0, -, -, hbe, -⟩ := HN2.out.cells
  have k0 := block_cell HK2.out 0
  have k3 := block_cell HK2.out 3
  have k5 := block_cell HK2.out 5
  have hbk := block_lt HK2.out
  rcases HKEY.out with ⟨hop, rfl, hkt⟩ | ⟨hkn, hop⟩
  · have ho1 : (op.toList == [118, 97, 108, 117, 101]) = true := by rw [ByteArray.toList_eq, hop]; decide
    cases bn with
    | true =>
      have hkn : k.key = some tk.data.toList := by rw [hkt]; unfold dTxt; rw [HBN.out]; rfl
      have hT := HT.out
      rw [hkn] at hT
      simp only at hT
      have hz : l0.length + 1 + tk.size ≤ 1000000000 := by have := HLL.out; rw [← hT] at this; simp at this; omega
      have HE : Hid ((⟨l0.toArray⟩ : ByteArray) ++ ⟨#[46]⟩ ++ tk = ⟨T.toArray⟩) := by show _ = _; rw [← hT]; exact ByteArray.ext (by simp [ByteArray.data_append])
      have hz1 : ¬ 9223372036854775807 < l0.length + 1 := by omega
      have hz2 : ¬ 9223372036854775807 < l0.length + 1 + tk.size := by omega
      clear hz hT HT HLL hkn hkt hop HKEY HBN HR1
      go_wp2_with fail
      go_ret
      exact ⟨congrArg (fun b => Ending.returned (Value.string b)) HE.out, G2.out⟩
    | false =>
      have hkn : k.key = none := by rw [hkt]; unfold dTxt; rw [HBN.out]; rfl
      clear hkt hop
      have hT := HT.out
      rw [hkn] at hT
      simp only at hT
      have hz : l0.length + 1 + k.tx.length + 1 ≤ 1000000000 := by have := HLL.out; rw [← hT] at this; simp at this; omega
      have HC1 : Hid (Calls _ _ _ _ _) := HP.out P W2 k (.pointer (some ⟨bk, 0, none⟩)) 0 (HR1.out.grew G2.out) (by omega) (by omega)
      rw [part0] at HC1
      obtain ⟨l1, hl1⟩ : ∃ l, k.tx = l := ⟨_, rfl⟩
      rw [hl1] at HC1 hz hT
      have HE : Hid ((⟨l0.toArray⟩ : ByteArray) ++ ⟨#[91]⟩ ++ ⟨l1.toArray⟩ ++ ⟨#[93]⟩ = ⟨T.toArray⟩) := by show _ = _; rw [← hT]; exact ByteArray.ext (by simp [ByteArray.data_append])
      have hz1 : ¬ 9223372036854775807 < l0.length + 1 := by omega
      have hz2 : ¬ 9223372036854775807 < l0.length + 1 + l1.length := by omega
      have hz3 : ¬ 9223372036854775807 < l0.length + 1 + l1.length + 1 := by omega
      clear hz hT HT HLL hl1 HKEY HBN
      go_wp2_with fail
      refine HC1.out.mono ?_
      rintro e W3 ⟨rfl, hg2⟩
      have G3 : Hid (Grew w W3) := G2.out.trans hg2
      obtain ⟨c0, -, -, hbe, -⟩ := (HN2.out.grew hg2).cells
      clear hg2 HN2 HK2
      go_wp2_with fail
      go_ret
      exact ⟨congrArg (fun b => Ending.returned (Value.string b)) HE.out, G3.out⟩
  · by_cases hov : op.data.toList = tValue
    · have ho1 : (op.toList == [118, 97, 108, 117, 101]) = true := by rw [ByteArray.toList_eq, hov]; decide
      have ho2 : (kk == 3) = false := by
        rcases hop with h | h
        · exact absurd hov h
        · rw [beq_eq_false_iff_ne]; exact h
      clear hov hop
      have hT := HT.out
      rw [hkn] at hT
      simp only at hT
      have hz : l0.length + 1 + k.tx.length + 1 ≤ 1000000000 := by have := HLL.out; rw [← hT] at this; simp at this; omega
      have HC1 : Hid (Calls _ _ _ _ _) := HP.out P W2 k (.pointer (some ⟨bk, 0, none⟩)) 0 (HR1.out.grew G2.out) (by omega) (by omega)
      rw [part0] at HC1
      obtain ⟨l1, hl1⟩ : ∃ l, k.tx = l := ⟨_, rfl⟩
      rw [hl1] at HC1 hz hT
      have HE : Hid ((⟨l0.toArray⟩ : ByteArray) ++ ⟨#[91]⟩ ++ ⟨l1.toArray⟩ ++ ⟨#[93]⟩ = ⟨T.toArray⟩) := by show _ = _; rw [← hT]; exact ByteArray.ext (by simp [ByteArray.data_append])
      have hz1 : ¬ 9223372036854775807 < l0.length + 1 := by omega
      have hz2 : ¬ 9223372036854775807 < l0.length + 1 + l1.length := by omega
      have hz3 : ¬ 9223372036854775807 < l0.length + 1 + l1.length + 1 := by omega
      clear hz hT HT HLL hl1 HKEY HBN
      go_wp2_with fail
      refine HC1.out.mono ?_
      rintro e W3 ⟨rfl, hg2⟩
      have G3 : Hid (Grew w W3) := G2.out.trans hg2
      obtain ⟨c0, -, -, hbe, -⟩ := (HN2.out.grew hg2).cells
      clear hg2 HN2 HK2
      go_wp2_with fail
      go_ret
      exact ⟨congrArg (fun b => Ending.returned (Value.string b)) HE.out, G3.out⟩
    · have ho1 : (op.toList == [118, 97, 108, 117, 101]) = false := by rw [ByteArray.toList_eq, beq_eq_false_iff_ne]; exact hov
      clear hov hop
      have hT := HT.out
      rw [hkn] at hT
      simp only at hT
      have hz : l0.length + 1 + k.tx.length + 1 ≤ 1000000000 := by have := HLL.out; rw [← hT] at this; simp at this; omega
      have HC1 : Hid (Calls _ _ _ _ _) := HP.out P W2 k (.pointer (some ⟨bk, 0, none⟩)) 0 (HR1.out.grew G2.out) (by omega) (by omega)
      rw [part0] at HC1
      obtain ⟨l1, hl1⟩ : ∃ l, k.tx = l := ⟨_, rfl⟩
      rw [hl1] at HC1 hz hT
      have HE : Hid ((⟨l0.toArray⟩ : ByteArray) ++ ⟨#[91]⟩ ++ ⟨l1.toArray⟩ ++ ⟨#[93]⟩ = ⟨T.toArray⟩) := by show _ = _; rw [← hT]; exact ByteArray.ext (by simp [ByteArray.data_append])
      have hz1 : ¬ 9223372036854775807 < l0.length + 1 := by omega
      have hz2 : ¬ 9223372036854775807 < l0.length + 1 + l1.length := by omega
      have hz3 : ¬ 9223372036854775807 < l0.length + 1 + l1.length + 1 := by omega
      clear hz hT HT HLL hl1 HKEY HBN
      go_wp2_with fail
      refine HC1.out.mono ?_
      rintro e W3 ⟨rfl, hg2⟩
      have G3 : Hid (Grew w W3) := G2.out.trans hg2
      obtain ⟨c0, -, -, hbe, -⟩ := (HN2.out.grew hg2).cells
      clear hg2 HN2 HK2
      go_wp2_with fail
      go_ret
      exact ⟨congrArg (fun b => Ending.returned (Value.string b)) HE.out, G3.out⟩

set_option maxRecDepth 100000 in
set_option maxHeartbeats 4000000 in
theorem gapplied_put {P : Nat → Prop} {N : Nat} (hP : PrT N) (w : World) (be g off cap : Nat) (nm : ByteArray) (f k v : PX) (hn : ND P N w be ⟨#[112, 117, 116]⟩ nm g off 3 cap [f, k, v]) (hl : (dPut f k v).tx.length ≤ 1000000000) :
    Calls Tryz.prog 116 #[.pointer (some ⟨be, 0, none⟩)] w fun e w' => e = .returned (.string ⟨(dPut f k v).tx.toArray⟩) ∧ Grew w w' := by
  have HP : Hid (PrT N) := hP
  have HN : Hid (ND P N w be _ nm g off 3 cap _) := hn
  have mo := follows
  obtain ⟨l0, hl0⟩ : ∃ l, partX f 13 = l := ⟨_, rfl⟩
  have L0 : Hid (partX f 13 = l0) := hl0
  have hp0 := part_le f 13
  rw [hl0] at hp0
  obtain ⟨c0, c2, c8, hbe, hgl⟩ := HN.out.cells
  obtain ⟨v0, hv0, hr0⟩ := HN.out.2.2.2 0 _ rfl
  obtain ⟨v1, hv1, hr1⟩ := HN.out.2.2.2 1 _ rfl
  obtain ⟨v2, hv2, hr2⟩ := HN.out.2.2.2 2 _ rfl
  obtain ⟨bk, op, ak, nk, kk, ik, tk, pk, lk, ck, kidk, rfl, hk, -⟩ := hr1.node
  have HK : Hid (XBlk w bk op ak nk kk ik tk pk lk ck) := hk
  have HR1 : Hid (RepT P w N k (.pointer (some ⟨bk, 0, none⟩))) := hr1
  have HR2 : Hid (RepT P w N v v2) := hr2
  have hT : (dPut f k v).tx = l0 ++ 91 :: (k.tx ++ [32, 58, 61, 32] ++ v.tx ++ [93]) := by rw [← hl0]; rfl
  rw [hT] at hl
  simp only [List.length_append, List.length_cons, List.length_nil] at hl
  have hl1 : f.tx.length ≤ 1000000000 := by omega
  have HC0 : Hid (Calls _ _ _ _ _) := HP.out P w _ v0 13 hr0 hl1 (by omega)
  rw [L0.out] at HC0
  rw [Nat.add_zero] at hv0
  have hk9 : k.tx.length ≤ 1000000000 := by omega
  have hv9 : v.tx.length ≤ 1000000000 := by omega
  have HE : Hid ((⟨l0.toArray⟩ : ByteArray) ++ ⟨#[91]⟩ ++ ⟨k.tx.toArray⟩ ++ ⟨#[32, 58, 61, 32]⟩ ++ ⟨v.tx.toArray⟩ ++ ⟨#[93]⟩ = ⟨(dPut f k v).tx.toArray⟩) := by show _ = _; rw [hT]; exact ByteArray.ext (by simp [ByteArray.data_append])
  have hz1 : ¬ 9223372036854775807 < l0.length + 1 := by omega
  have hz2 : ¬ 9223372036854775807 < l0.length + 1 + k.tx.length := by omega
  have hz3 : ¬ 9223372036854775807 < l0.length + 1 + k.tx.length + 4 := by omega
  have hz4 : ¬ 9223372036854775807 < l0.length + 1 + k.tx.length + 4 + v.tx.length := by omega
  have hz5 : ¬ 9223372036854775807 < l0.length + 1 + k.tx.length + 4 + v.tx.length + 1 := by omega
  obtain ⟨bn, hbn⟩ : ∃ b, isNameB tk.data.toList = b := ⟨_, rfl⟩
  have HNM : Hid (∀ W, Calls Tryz.prog 159 #[.string tk] W fun e w' => e = .returned (.bool bn) ∧ Grew W w') := fun W => by have := rnamed_free tk W; rw [hbn] at this; exact this
  generalize (dPut f k v).tx = T at HE ⊢
  clear hn hP hl0 hr0 hr1 hr2 hk hT hl hbn hp0
  go_enter Tryz.func116, Tryz.ntmps116
  go_wp2_with fail
  refine HC0.out.mono ?_
  rintro e W1 ⟨rfl, hg0⟩
  have G1 : Hid (Grew w W1) := hg0
  have HN1 : Hid (ND P N W1 be _ nm g off _ cap _) := HN.out.grew hg0
  have HK1 : Hid (XBlk W1 bk op ak nk kk ik tk pk lk ck) := HK.out.grew hg0
  have hv1 := (World.cell?_of_block (w := w) (hg0.below.block g hgl)).trans hv1
  clear hg0 c0 c2 c8 hbe hv0 HC0 HK
  obtain ⟨c0, c2, c8, hbe, hgl1⟩ := HN1.out.cells
  have k5 := block_cell HK1.out 5
  have hbk := block_lt HK1.out
  go_wp2_with fail
  refine (HNM.out _).mono ?_
  rintro e W2 ⟨rfl, hg1⟩
  have G2 : Hid (Grew w W2) := G1.out.trans hg1
  have HN2 : Hid (ND P N W2 be _ nm g off _ cap _) := HN1.out.grew hg1
  clear hg1 c0 c2 c8 hbe hgl1 hv1 HNM HN1 HK1 k5 hbk HN
  obtain ⟨c0, -, -, hbe, -⟩ := HN2.out.cells
  have HC1 : Hid (Calls _ _ _ _ _) := HP.out P W2 k (.pointer (some ⟨bk, 0, none⟩)) 0 (HR1.out.grew G2.out) hk9 (by omega)
  rw [part0] at HC1
  go_wp2_with fail
  refine HC1.out.mono ?_
  rintro e W3 ⟨rfl, hg2⟩
  have G3 : Hid (Grew w W3) := G2.out.trans hg2
  have HN3 : Hid (ND P N W3 be _ nm g off _ cap _) := HN2.out.grew hg2
  have hv3 := (World.cell?_of_block (w := w) (G3.out.below.block g hgl)).trans hv2
  clear hg2 c0 hbe HN2 HC1 HR1
  obtain ⟨c0, c2, c8, hbe, hgl3⟩ := HN3.out.cells
  have HC2 : Hid (Calls _ _ _ _ _) := HP.out P W3 v v2 0 (HR2.out.grew G3.out) hv9 (by omega)
  rw [part0] at HC2
  go_wp2_with fail
  refine HC2.out.mono ?_
  rintro e W4 ⟨rfl, hg3⟩
  have G4 : Hid (Grew w W4) := G3.out.trans hg3
  clear hg3 c0 c2 c8 hbe hgl3 HN3 HC2 HR2 hv3
  go_wp2_with fail
  go_ret
  exact ⟨congrArg (fun b => Ending.returned (Value.string b)) HE.out, G4.out⟩

set_option maxRecDepth 100000 in
set_option maxHeartbeats 1000000 in
theorem gbare_applied (w : World) (be : Nat) (op : ByteArray) (x : PX) (c0 : w.cell? ⟨be, 0, none⟩ = some (.string op)) (ho : op = ⟨#[97, 116]⟩ ∨ op = ⟨#[112, 117, 116]⟩)
    (hA : Calls Tryz.prog 116 #[.pointer (some ⟨be, 0, none⟩)] w fun e w' => e = .returned (.string ⟨x.tx.toArray⟩) ∧ Grew w w') : BareT w be x := by
  have HA : Hid (Calls _ _ _ _ _) := hA
  have mo := follows
  unfold BareT
  generalize x.tx = T at HA ⊢
  generalize (x.rk : Int) = rk
  clear hA
  rcases ho with rfl | rfl
  all_goals
    go_enter Tryz.func61, Tryz.ntmps61
    go_wp2_with fail
    refine HA.out.mono ?_
    rintro e w1 ⟨rfl, hg⟩
    have G1 : Hid (Grew w w1) := hg
    clear hg
    go_wp2_with fail
    go_ret
    exact ⟨rfl, G1.out⟩
end Go.Proofs.YtjbekejcghjhbaaGreatDoor.Sx
