/- The reference: signs between two parts, as text (the others). -/
import Derived.Test.YtjbekejcghjhbaaGreatDoorF41
namespace Go.Proofs.YtjbekejcghjhbaaGreatDoor.Sx
open Go.RowKit Go.Sort

set_option maxRecDepth 100000 in
set_option maxHeartbeats 4000000 in
theorem gbare_bin1 {P : Nat → Prop} {N : Nat} (hP : PrT N) (w : World) (be g off cap : Nat) (op : ByteArray) (nm : ByteArray) (a b : PX) (hn : ND P N w be op nm g off 2 cap [a, b]) (ho : op = ⟨#[108, 101, 97, 100, 115, 116, 111]⟩ ∨ op = ⟨#[117, 110, 116, 105, 108]⟩) (hl : (dBin op.data.toList a b).tx.length ≤ 1000000000) : BareT w be (dBin op.data.toList a b) := by
  have HP : Hid (PrT N) := hP
  have mo := follows
  obtain ⟨l0, hl0⟩ : ∃ l, partX a 2 = l := ⟨_, rfl⟩
  have L0 : Hid (partX a 2 = l0) := hl0
  have hp0 := part_le a 2
  rw [hl0] at hp0
  obtain ⟨l1, hl1⟩ : ∃ l, partX b 2 = l := ⟨_, rfl⟩
  have L1 : Hid (partX b 2 = l1) := hl1
  have hp1 := part_le b 2
  rw [hl1] at hp1
  have hT : (dBin op.data.toList a b).tx = l0 ++ [32] ++ op.data.toList ++ [32] ++ l1 := by rw [← hl0, ← hl1]; rcases ho with rfl | rfl <;> rfl
  rw [hT] at hl
  simp only [List.length_cons, List.length_append, List.length_nil] at hl
  have HE : Hid ((⟨l0.toArray⟩ : ByteArray) ++ ⟨#[32]⟩ ++ op ++ ⟨#[32]⟩ ++ ⟨l1.toArray⟩ = ⟨(dBin op.data.toList a b).tx.toArray⟩) := by show _ = _; rw [hT]; exact ByteArray.ext (by simp [ByteArray.data_append])
  have hop : op.data.toList.length = op.size := by simp
  have HN : Hid (ND P N w be _ nm g off 2 cap _) := hn
  unfold BareT
  have hrk : (((dBin op.data.toList a b).rk : Nat) : Int) = 1 := by rcases ho with rfl | rfl <;> rfl
  rw [hrk]
  clear hrk
  generalize (dBin op.data.toList a b).tx = TT at HE ⊢
  clear hT hn hP hl0 hl1
  have hq0 : a.tx.length ≤ 1000000000 := by omega
  have hq1 : b.tx.length ≤ 1000000000 := by omega
  have hzf1 : ¬ 9223372036854775807 < l0.length + 1 := by omega
  have hzf2 : ¬ 9223372036854775807 < l0.length + 1 + 5 := by omega
  have hzf3 : ¬ 9223372036854775807 < l0.length + 1 + 5 + 1 := by omega
  have hzf4 : ¬ 9223372036854775807 < l0.length + 1 + 5 + 1 + l1.length := by omega
  have hzh1 : ¬ 9223372036854775807 < l0.length + 1 := by omega
  have hzh2 : ¬ 9223372036854775807 < l0.length + 1 + 7 := by omega
  have hzh3 : ¬ 9223372036854775807 < l0.length + 1 + 7 + 1 := by omega
  have hzh4 : ¬ 9223372036854775807 < l0.length + 1 + 7 + 1 + l1.length := by omega
  have hf5a : ¬ 9223372036854775807 < l0.length + 6 := by omega
  have hf5b : ¬ 9223372036854775807 < l0.length + 7 := by omega
  have hf5c : ¬ 9223372036854775807 < l0.length + 7 + l1.length := by omega
  have hf7a : ¬ 9223372036854775807 < l0.length + 8 := by omega
  have hf7b : ¬ 9223372036854775807 < l0.length + 9 := by omega
  have hf7c : ¬ 9223372036854775807 < l0.length + 9 + l1.length := by omega
  clear hl hp0 hp1 hop
  rcases ho with rfl | rfl
  all_goals
    obtain ⟨c0, c2, c8, hbe, hgl⟩ := HN.out.cells
    obtain ⟨v0, hv0, hr0⟩ := HN.out.2.2.2 0 _ rfl
    have HC0 : Hid (Calls _ _ _ _ _) := HP.out P w _ v0 2 hr0 hq0 (by omega)
    rw [L0.out] at HC0
    clear hr0
    rw [Nat.add_zero] at hv0
    go_enter Tryz.func61, Tryz.ntmps61
    go_wp2_with fail
    refine HC0.out.mono ?_
    rintro e W1 ⟨rfl, hg0⟩
    have G1 : Hid (Grew w W1) := hg0
    have HN1 : Hid (ND P N W1 be _ nm g off _ cap _) := HN.out.grew hg0
    clear hg0 c0 c2 c8 hbe hgl hv0 HC0 HN
    obtain ⟨c0, c2, c8, hbe, hgl⟩ := HN1.out.cells
    obtain ⟨v1, hv1, hr1⟩ := HN1.out.2.2.2 1 _ rfl
    have HC1 : Hid (Calls _ _ _ _ _) := HP.out P W1 _ v1 2 hr1 hq1 (by omega)
    rw [L1.out] at HC1
    clear hr1
    go_wp2_with fail
    refine HC1.out.mono ?_
    rintro e W2 ⟨rfl, hg1⟩
    have G2 : Hid (Grew w W2) := G1.out.trans hg1
    have HN2 : Hid (ND P N W2 be _ nm g off _ cap _) := HN1.out.grew hg1
    clear hg1 c0 c2 c8 hbe hgl hv1 HC1 HN1
    obtain ⟨c0, c2, c8, hbe, hgl⟩ := HN2.out.cells
    go_wp2_with fail
    go_ret
    exact ⟨congrArg (fun b => Ending.returned (Value.string b)) HE.out, G2.out⟩
set_option maxRecDepth 100000 in
set_option maxHeartbeats 4000000 in
theorem gbare_bin2 {P : Nat → Prop} {N : Nat} (hP : PrT N) (w : World) (be g off cap : Nat)  (nm : ByteArray) (a b : PX) (hn : ND P N w be ⟨#[105, 102, 102]⟩ nm g off 2 cap [a, b]) (hl : (dBin [105, 102, 102] a b).tx.length ≤ 1000000000) : BareT w be (dBin [105, 102, 102] a b) := by
  have HP : Hid (PrT N) := hP
  have mo := follows
  obtain ⟨l0, hl0⟩ : ∃ l, partX a 2 = l := ⟨_, rfl⟩
  have L0 : Hid (partX a 2 = l0) := hl0
  have hp0 := part_le a 2
  rw [hl0] at hp0
  obtain ⟨l1, hl1⟩ : ∃ l, partX b 3 = l := ⟨_, rfl⟩
  have L1 : Hid (partX b 3 = l1) := hl1
  have hp1 := part_le b 3
  rw [hl1] at hp1
  have hT : (dBin [105, 102, 102] a b).tx = l0 ++ [32] ++ [105, 102, 102] ++ [32] ++ l1 := by rw [← hl0, ← hl1]; rfl
  rw [hT] at hl
  simp only [List.length_cons, List.length_append, List.length_nil] at hl
  have HE : Hid ((⟨l0.toArray⟩ : ByteArray) ++ ⟨#[32]⟩ ++ ⟨#[105, 102, 102]⟩ ++ ⟨#[32]⟩ ++ ⟨l1.toArray⟩ = ⟨(dBin [105, 102, 102] a b).tx.toArray⟩) := by show _ = _; rw [hT]; exact ByteArray.ext (by simp [ByteArray.data_append])
  have HN : Hid (ND P N w be _ nm g off 2 cap _) := hn
  unfold BareT
  have hrk : (((dBin [105, 102, 102] a b).rk : Nat) : Int) = 2 := by rfl
  rw [hrk]
  clear hrk
  generalize (dBin [105, 102, 102] a b).tx = TT at HE ⊢
  clear hT hn hP hl0 hl1
  have hq0 : a.tx.length ≤ 1000000000 := by omega
  have hq1 : b.tx.length ≤ 1000000000 := by omega
  have hzd1 : ¬ 9223372036854775807 < l0.length + 1 := by omega
  have hzd2 : ¬ 9223372036854775807 < l0.length + 1 + 3 := by omega
  have hzd3 : ¬ 9223372036854775807 < l0.length + 1 + 3 + 1 := by omega
  have hzd4 : ¬ 9223372036854775807 < l0.length + 1 + 3 + 1 + l1.length := by omega
  have hf3a : ¬ 9223372036854775807 < l0.length + 4 := by omega
  have hf3b : ¬ 9223372036854775807 < l0.length + 5 := by omega
  have hf3c : ¬ 9223372036854775807 < l0.length + 5 + l1.length := by omega
  clear hl hp0 hp1
  obtain ⟨c0, c2, c8, hbe, hgl⟩ := HN.out.cells
  obtain ⟨v0, hv0, hr0⟩ := HN.out.2.2.2 0 _ rfl
  have HC0 : Hid (Calls _ _ _ _ _) := HP.out P w _ v0 2 hr0 hq0 (by omega)
  rw [L0.out] at HC0
  clear hr0
  rw [Nat.add_zero] at hv0
  go_enter Tryz.func61, Tryz.ntmps61
  go_wp2_with fail
  refine HC0.out.mono ?_
  rintro e W1 ⟨rfl, hg0⟩
  have G1 : Hid (Grew w W1) := hg0
  have HN1 : Hid (ND P N W1 be _ nm g off _ cap _) := HN.out.grew hg0
  clear hg0 c0 c2 c8 hbe hgl hv0 HC0 HN
  obtain ⟨c0, c2, c8, hbe, hgl⟩ := HN1.out.cells
  obtain ⟨v1, hv1, hr1⟩ := HN1.out.2.2.2 1 _ rfl
  have HC1 : Hid (Calls _ _ _ _ _) := HP.out P W1 _ v1 3 hr1 hq1 (by omega)
  rw [L1.out] at HC1
  clear hr1
  go_wp2_with fail
  refine HC1.out.mono ?_
  rintro e W2 ⟨rfl, hg1⟩
  have G2 : Hid (Grew w W2) := G1.out.trans hg1
  have HN2 : Hid (ND P N W2 be _ nm g off _ cap _) := HN1.out.grew hg1
  clear hg1 c0 c2 c8 hbe hgl hv1 HC1 HN1
  obtain ⟨c0, c2, c8, hbe, hgl⟩ := HN2.out.cells
  go_wp2_with fail
  go_ret
  exact ⟨congrArg (fun b => Ending.returned (Value.string b)) HE.out, G2.out⟩
set_option maxRecDepth 100000 in
set_option maxHeartbeats 4000000 in
theorem gbare_bin3 {P : Nat → Prop} {N : Nat} (hP : PrT N) (w : World) (be g off cap : Nat)  (nm : ByteArray) (a b : PX) (hn : ND P N w be ⟨#[105, 109, 112, 108, 105, 101, 115]⟩ nm g off 2 cap [a, b]) (hl : (dBin [105, 109, 112, 108, 105, 101, 115] a b).tx.length ≤ 1000000000) : BareT w be (dBin [105, 109, 112, 108, 105, 101, 115] a b) := by
  have HP : Hid (PrT N) := hP
  have mo := follows
  obtain ⟨l0, hl0⟩ : ∃ l, partX a 4 = l := ⟨_, rfl⟩
  have L0 : Hid (partX a 4 = l0) := hl0
  have hp0 := part_le a 4
  rw [hl0] at hp0
  obtain ⟨l1, hl1⟩ : ∃ l, partX b 3 = l := ⟨_, rfl⟩
  have L1 : Hid (partX b 3 = l1) := hl1
  have hp1 := part_le b 3
  rw [hl1] at hp1
  have hT : (dBin [105, 109, 112, 108, 105, 101, 115] a b).tx = l0 ++ [32] ++ [105, 109, 112, 108, 105, 101, 115] ++ [32] ++ l1 := by rw [← hl0, ← hl1]; rfl
  rw [hT] at hl
  simp only [List.length_cons, List.length_append, List.length_nil] at hl
  have HE : Hid ((⟨l0.toArray⟩ : ByteArray) ++ ⟨#[32]⟩ ++ ⟨#[105, 109, 112, 108, 105, 101, 115]⟩ ++ ⟨#[32]⟩ ++ ⟨l1.toArray⟩ = ⟨(dBin [105, 109, 112, 108, 105, 101, 115] a b).tx.toArray⟩) := by show _ = _; rw [hT]; exact ByteArray.ext (by simp [ByteArray.data_append])
  have HN : Hid (ND P N w be _ nm g off 2 cap _) := hn
  unfold BareT
  have hrk : (((dBin [105, 109, 112, 108, 105, 101, 115] a b).rk : Nat) : Int) = 3 := by rfl
  rw [hrk]
  clear hrk
  generalize (dBin [105, 109, 112, 108, 105, 101, 115] a b).tx = TT at HE ⊢
  clear hT hn hP hl0 hl1
  have hq0 : a.tx.length ≤ 1000000000 := by omega
  have hq1 : b.tx.length ≤ 1000000000 := by omega
  have hzh1 : ¬ 9223372036854775807 < l0.length + 1 := by omega
  have hzh2 : ¬ 9223372036854775807 < l0.length + 1 + 7 := by omega
  have hzh3 : ¬ 9223372036854775807 < l0.length + 1 + 7 + 1 := by omega
  have hzh4 : ¬ 9223372036854775807 < l0.length + 1 + 7 + 1 + l1.length := by omega
  have hf7a : ¬ 9223372036854775807 < l0.length + 8 := by omega
  have hf7b : ¬ 9223372036854775807 < l0.length + 9 := by omega
  have hf7c : ¬ 9223372036854775807 < l0.length + 9 + l1.length := by omega
  clear hl hp0 hp1
  obtain ⟨c0, c2, c8, hbe, hgl⟩ := HN.out.cells
  obtain ⟨v0, hv0, hr0⟩ := HN.out.2.2.2 0 _ rfl
  have HC0 : Hid (Calls _ _ _ _ _) := HP.out P w _ v0 4 hr0 hq0 (by omega)
  rw [L0.out] at HC0
  clear hr0
  rw [Nat.add_zero] at hv0
  go_enter Tryz.func61, Tryz.ntmps61
  go_wp2_with fail
  refine HC0.out.mono ?_
  rintro e W1 ⟨rfl, hg0⟩
  have G1 : Hid (Grew w W1) := hg0
  have HN1 : Hid (ND P N W1 be _ nm g off _ cap _) := HN.out.grew hg0
  clear hg0 c0 c2 c8 hbe hgl hv0 HC0 HN
  obtain ⟨c0, c2, c8, hbe, hgl⟩ := HN1.out.cells
  obtain ⟨v1, hv1, hr1⟩ := HN1.out.2.2.2 1 _ rfl
  have HC1 : Hid (Calls _ _ _ _ _) := HP.out P W1 _ v1 3 hr1 hq1 (by omega)
  rw [L1.out] at HC1
  clear hr1
  go_wp2_with fail
  refine HC1.out.mono ?_
  rintro e W2 ⟨rfl, hg1⟩
  have G2 : Hid (Grew w W2) := G1.out.trans hg1
  have HN2 : Hid (ND P N W2 be _ nm g off _ cap _) := HN1.out.grew hg1
  clear hg1 c0 c2 c8 hbe hgl hv1 HC1 HN1
  obtain ⟨c0, c2, c8, hbe, hgl⟩ := HN2.out.cells
  go_wp2_with fail
  go_ret
  exact ⟨congrArg (fun b => Ending.returned (Value.string b)) HE.out, G2.out⟩
set_option maxRecDepth 100000 in
set_option maxHeartbeats 4000000 in
theorem gbare_bin4 {P : Nat → Prop} {N : Nat} (hP : PrT N) (w : World) (be g off cap : Nat)  (nm : ByteArray) (a b : PX) (hn : ND P N w be ⟨#[111, 114]⟩ nm g off 2 cap [a, b]) (hl : (dBin [111, 114] a b).tx.length ≤ 1000000000) : BareT w be (dBin [111, 114] a b) := by
  have HP : Hid (PrT N) := hP
  have mo := follows
  obtain ⟨l0, hl0⟩ : ∃ l, partX a 4 = l := ⟨_, rfl⟩
  have L0 : Hid (partX a 4 = l0) := hl0
  have hp0 := part_le a 4
  rw [hl0] at hp0
  obtain ⟨l1, hl1⟩ : ∃ l, partX b 5 = l := ⟨_, rfl⟩
  have L1 : Hid (partX b 5 = l1) := hl1
  have hp1 := part_le b 5
  rw [hl1] at hp1
  have hT : (dBin [111, 114] a b).tx = l0 ++ [32] ++ [111, 114] ++ [32] ++ l1 := by rw [← hl0, ← hl1]; rfl
  rw [hT] at hl
  simp only [List.length_cons, List.length_append, List.length_nil] at hl
  have HE : Hid ((⟨l0.toArray⟩ : ByteArray) ++ ⟨#[32]⟩ ++ ⟨#[111, 114]⟩ ++ ⟨#[32]⟩ ++ ⟨l1.toArray⟩ = ⟨(dBin [111, 114] a b).tx.toArray⟩) := by show _ = _; rw [hT]; exact ByteArray.ext (by simp [ByteArray.data_append])
  have HN : Hid (ND P N w be _ nm g off 2 cap _) := hn
  unfold BareT
  have hrk : (((dBin [111, 114] a b).rk : Nat) : Int) = 4 := by rfl
  rw [hrk]
  clear hrk
  generalize (dBin [111, 114] a b).tx = TT at HE ⊢
  clear hT hn hP hl0 hl1
  have hq0 : a.tx.length ≤ 1000000000 := by omega
  have hq1 : b.tx.length ≤ 1000000000 := by omega
  have hzc1 : ¬ 9223372036854775807 < l0.length + 1 := by omega
  have hzc2 : ¬ 9223372036854775807 < l0.length + 1 + 2 := by omega
  have hzc3 : ¬ 9223372036854775807 < l0.length + 1 + 2 + 1 := by omega
  have hzc4 : ¬ 9223372036854775807 < l0.length + 1 + 2 + 1 + l1.length := by omega
  have hf2a : ¬ 9223372036854775807 < l0.length + 3 := by omega
  have hf2b : ¬ 9223372036854775807 < l0.length + 4 := by omega
  have hf2c : ¬ 9223372036854775807 < l0.length + 4 + l1.length := by omega
  clear hl hp0 hp1
  obtain ⟨c0, c2, c8, hbe, hgl⟩ := HN.out.cells
  obtain ⟨v0, hv0, hr0⟩ := HN.out.2.2.2 0 _ rfl
  have HC0 : Hid (Calls _ _ _ _ _) := HP.out P w _ v0 4 hr0 hq0 (by omega)
  rw [L0.out] at HC0
  clear hr0
  rw [Nat.add_zero] at hv0
  go_enter Tryz.func61, Tryz.ntmps61
  go_wp2_with fail
  refine HC0.out.mono ?_
  rintro e W1 ⟨rfl, hg0⟩
  have G1 : Hid (Grew w W1) := hg0
  have HN1 : Hid (ND P N W1 be _ nm g off _ cap _) := HN.out.grew hg0
  clear hg0 c0 c2 c8 hbe hgl hv0 HC0 HN
  obtain ⟨c0, c2, c8, hbe, hgl⟩ := HN1.out.cells
  obtain ⟨v1, hv1, hr1⟩ := HN1.out.2.2.2 1 _ rfl
  have HC1 : Hid (Calls _ _ _ _ _) := HP.out P W1 _ v1 5 hr1 hq1 (by omega)
  rw [L1.out] at HC1
  clear hr1
  go_wp2_with fail
  refine HC1.out.mono ?_
  rintro e W2 ⟨rfl, hg1⟩
  have G2 : Hid (Grew w W2) := G1.out.trans hg1
  have HN2 : Hid (ND P N W2 be _ nm g off _ cap _) := HN1.out.grew hg1
  clear hg1 c0 c2 c8 hbe hgl hv1 HC1 HN1
  obtain ⟨c0, c2, c8, hbe, hgl⟩ := HN2.out.cells
  go_wp2_with fail
  go_ret
  exact ⟨congrArg (fun b => Ending.returned (Value.string b)) HE.out, G2.out⟩
set_option maxRecDepth 100000 in
set_option maxHeartbeats 4000000 in
theorem gbare_bin5 {P : Nat → Prop} {N : Nat} (hP : PrT N) (w : World) (be g off cap : Nat)  (nm : ByteArray) (a b : PX) (hn : ND P N w be ⟨#[97, 110, 100]⟩ nm g off 2 cap [a, b]) (hl : (dBin [97, 110, 100] a b).tx.length ≤ 1000000000) : BareT w be (dBin [97, 110, 100] a b) := by
  have HP : Hid (PrT N) := hP
  have mo := follows
  obtain ⟨l0, hl0⟩ : ∃ l, partX a 5 = l := ⟨_, rfl⟩
  have L0 : Hid (partX a 5 = l0) := hl0
  have hp0 := part_le a 5
  rw [hl0] at hp0
  obtain ⟨l1, hl1⟩ : ∃ l, partX b 6 = l := ⟨_, rfl⟩
  have L1 : Hid (partX b 6 = l1) := hl1
  have hp1 := part_le b 6
  rw [hl1] at hp1
  have hT : (dBin [97, 110, 100] a b).tx = l0 ++ [32] ++ [97, 110, 100] ++ [32] ++ l1 := by rw [← hl0, ← hl1]; rfl
  rw [hT] at hl
  simp only [List.length_cons, List.length_append, List.length_nil] at hl
  have HE : Hid ((⟨l0.toArray⟩ : ByteArray) ++ ⟨#[32]⟩ ++ ⟨#[97, 110, 100]⟩ ++ ⟨#[32]⟩ ++ ⟨l1.toArray⟩ = ⟨(dBin [97, 110, 100] a b).tx.toArray⟩) := by show _ = _; rw [hT]; exact ByteArray.ext (by simp [ByteArray.data_append])
  have HN : Hid (ND P N w be _ nm g off 2 cap _) := hn
  unfold BareT
  have hrk : (((dBin [97, 110, 100] a b).rk : Nat) : Int) = 5 := by rfl
  rw [hrk]
  clear hrk
  generalize (dBin [97, 110, 100] a b).tx = TT at HE ⊢
  clear hT hn hP hl0 hl1
  have hq0 : a.tx.length ≤ 1000000000 := by omega
  have hq1 : b.tx.length ≤ 1000000000 := by omega
  have hzd1 : ¬ 9223372036854775807 < l0.length + 1 := by omega
  have hzd2 : ¬ 9223372036854775807 < l0.length + 1 + 3 := by omega
  have hzd3 : ¬ 9223372036854775807 < l0.length + 1 + 3 + 1 := by omega
  have hzd4 : ¬ 9223372036854775807 < l0.length + 1 + 3 + 1 + l1.length := by omega
  have hf3a : ¬ 9223372036854775807 < l0.length + 4 := by omega
  have hf3b : ¬ 9223372036854775807 < l0.length + 5 := by omega
  have hf3c : ¬ 9223372036854775807 < l0.length + 5 + l1.length := by omega
  clear hl hp0 hp1
  obtain ⟨c0, c2, c8, hbe, hgl⟩ := HN.out.cells
  obtain ⟨v0, hv0, hr0⟩ := HN.out.2.2.2 0 _ rfl
  have HC0 : Hid (Calls _ _ _ _ _) := HP.out P w _ v0 5 hr0 hq0 (by omega)
  rw [L0.out] at HC0
  clear hr0
  rw [Nat.add_zero] at hv0
  go_enter Tryz.func61, Tryz.ntmps61
  go_wp2_with fail
  refine HC0.out.mono ?_
  rintro e W1 ⟨rfl, hg0⟩
  have G1 : Hid (Grew w W1) := hg0
  have HN1 : Hid (ND P N W1 be _ nm g off _ cap _) := HN.out.grew hg0
  clear hg0 c0 c2 c8 hbe hgl hv0 HC0 HN
  obtain ⟨c0, c2, c8, hbe, hgl⟩ := HN1.out.cells
  obtain ⟨v1, hv1, hr1⟩ := HN1.out.2.2.2 1 _ rfl
  have HC1 : Hid (Calls _ _ _ _ _) := HP.out P W1 _ v1 6 hr1 hq1 (by omega)
  rw [L1.out] at HC1
  clear hr1
  go_wp2_with fail
  refine HC1.out.mono ?_
  rintro e W2 ⟨rfl, hg1⟩
  have G2 : Hid (Grew w W2) := G1.out.trans hg1
  have HN2 : Hid (ND P N W2 be _ nm g off _ cap _) := HN1.out.grew hg1
  clear hg1 c0 c2 c8 hbe hgl hv1 HC1 HN1
  obtain ⟨c0, c2, c8, hbe, hgl⟩ := HN2.out.cells
  go_wp2_with fail
  go_ret
  exact ⟨congrArg (fun b => Ending.returned (Value.string b)) HE.out, G2.out⟩
set_option maxRecDepth 100000 in
set_option maxHeartbeats 4000000 in
theorem gbare_bin8 {P : Nat → Prop} {N : Nat} (hP : PrT N) (w : World) (be g off cap : Nat)  (nm : ByteArray) (a b : PX) (hn : ND P N w be ⟨#[45, 62]⟩ nm g off 2 cap [a, b]) (hl : (dBin [45, 62] a b).tx.length ≤ 1000000000) : BareT w be (dBin [45, 62] a b) := by
  have HP : Hid (PrT N) := hP
  have mo := follows
  obtain ⟨l0, hl0⟩ : ∃ l, partX a 9 = l := ⟨_, rfl⟩
  have L0 : Hid (partX a 9 = l0) := hl0
  have hp0 := part_le a 9
  rw [hl0] at hp0
  obtain ⟨l1, hl1⟩ : ∃ l, partX b 9 = l := ⟨_, rfl⟩
  have L1 : Hid (partX b 9 = l1) := hl1
  have hp1 := part_le b 9
  rw [hl1] at hp1
  have hT : (dBin [45, 62] a b).tx = l0 ++ [32] ++ [45, 62] ++ [32] ++ l1 := by rw [← hl0, ← hl1]; rfl
  rw [hT] at hl
  simp only [List.length_cons, List.length_append, List.length_nil] at hl
  have HE : Hid ((⟨l0.toArray⟩ : ByteArray) ++ ⟨#[32]⟩ ++ ⟨#[45, 62]⟩ ++ ⟨#[32]⟩ ++ ⟨l1.toArray⟩ = ⟨(dBin [45, 62] a b).tx.toArray⟩) := by show _ = _; rw [hT]; exact ByteArray.ext (by simp [ByteArray.data_append])
  have HN : Hid (ND P N w be _ nm g off 2 cap _) := hn
  unfold BareT
  have hrk : (((dBin [45, 62] a b).rk : Nat) : Int) = 8 := by rfl
  rw [hrk]
  clear hrk
  generalize (dBin [45, 62] a b).tx = TT at HE ⊢
  clear hT hn hP hl0 hl1
  have hq0 : a.tx.length ≤ 1000000000 := by omega
  have hq1 : b.tx.length ≤ 1000000000 := by omega
  have hzc1 : ¬ 9223372036854775807 < l0.length + 1 := by omega
  have hzc2 : ¬ 9223372036854775807 < l0.length + 1 + 2 := by omega
  have hzc3 : ¬ 9223372036854775807 < l0.length + 1 + 2 + 1 := by omega
  have hzc4 : ¬ 9223372036854775807 < l0.length + 1 + 2 + 1 + l1.length := by omega
  have hf2a : ¬ 9223372036854775807 < l0.length + 3 := by omega
  have hf2b : ¬ 9223372036854775807 < l0.length + 4 := by omega
  have hf2c : ¬ 9223372036854775807 < l0.length + 4 + l1.length := by omega
  clear hl hp0 hp1
  obtain ⟨c0, c2, c8, hbe, hgl⟩ := HN.out.cells
  obtain ⟨v0, hv0, hr0⟩ := HN.out.2.2.2 0 _ rfl
  have HC0 : Hid (Calls _ _ _ _ _) := HP.out P w _ v0 9 hr0 hq0 (by omega)
  rw [L0.out] at HC0
  clear hr0
  rw [Nat.add_zero] at hv0
  go_enter Tryz.func61, Tryz.ntmps61
  go_wp2_with fail
  refine HC0.out.mono ?_
  rintro e W1 ⟨rfl, hg0⟩
  have G1 : Hid (Grew w W1) := hg0
  have HN1 : Hid (ND P N W1 be _ nm g off _ cap _) := HN.out.grew hg0
  clear hg0 c0 c2 c8 hbe hgl hv0 HC0 HN
  obtain ⟨c0, c2, c8, hbe, hgl⟩ := HN1.out.cells
  obtain ⟨v1, hv1, hr1⟩ := HN1.out.2.2.2 1 _ rfl
  have HC1 : Hid (Calls _ _ _ _ _) := HP.out P W1 _ v1 9 hr1 hq1 (by omega)
  rw [L1.out] at HC1
  clear hr1
  go_wp2_with fail
  refine HC1.out.mono ?_
  rintro e W2 ⟨rfl, hg1⟩
  have G2 : Hid (Grew w W2) := G1.out.trans hg1
  have HN2 : Hid (ND P N W2 be _ nm g off _ cap _) := HN1.out.grew hg1
  clear hg1 c0 c2 c8 hbe hgl hv1 HC1 HN1
  obtain ⟨c0, c2, c8, hbe, hgl⟩ := HN2.out.cells
  go_wp2_with fail
  go_ret
  exact ⟨congrArg (fun b => Ending.returned (Value.string b)) HE.out, G2.out⟩
set_option maxRecDepth 100000 in
set_option maxHeartbeats 4000000 in
theorem gbare_bin9 {P : Nat → Prop} {N : Nat} (hP : PrT N) (w : World) (be g off cap : Nat)  (nm : ByteArray) (a b : PX) (hn : ND P N w be ⟨#[46, 46]⟩ nm g off 2 cap [a, b]) (hl : (dBin [46, 46] a b).tx.length ≤ 1000000000) : BareT w be (dBin [46, 46] a b) := by
  have HP : Hid (PrT N) := hP
  have mo := follows
  obtain ⟨l0, hl0⟩ : ∃ l, partX a 10 = l := ⟨_, rfl⟩
  have L0 : Hid (partX a 10 = l0) := hl0
  have hp0 := part_le a 10
  rw [hl0] at hp0
  obtain ⟨l1, hl1⟩ : ∃ l, partX b 10 = l := ⟨_, rfl⟩
  have L1 : Hid (partX b 10 = l1) := hl1
  have hp1 := part_le b 10
  rw [hl1] at hp1
  have hT : (dBin [46, 46] a b).tx = l0 ++ [32] ++ [46, 46] ++ [32] ++ l1 := by rw [← hl0, ← hl1]; rfl
  rw [hT] at hl
  simp only [List.length_cons, List.length_append, List.length_nil] at hl
  have HE : Hid ((⟨l0.toArray⟩ : ByteArray) ++ ⟨#[32]⟩ ++ ⟨#[46, 46]⟩ ++ ⟨#[32]⟩ ++ ⟨l1.toArray⟩ = ⟨(dBin [46, 46] a b).tx.toArray⟩) := by show _ = _; rw [hT]; exact ByteArray.ext (by simp [ByteArray.data_append])
  have HN : Hid (ND P N w be _ nm g off 2 cap _) := hn
  unfold BareT
  have hrk : (((dBin [46, 46] a b).rk : Nat) : Int) = 9 := by rfl
  rw [hrk]
  clear hrk
  generalize (dBin [46, 46] a b).tx = TT at HE ⊢
  clear hT hn hP hl0 hl1
  have hq0 : a.tx.length ≤ 1000000000 := by omega
  have hq1 : b.tx.length ≤ 1000000000 := by omega
  have hzc1 : ¬ 9223372036854775807 < l0.length + 1 := by omega
  have hzc2 : ¬ 9223372036854775807 < l0.length + 1 + 2 := by omega
  have hzc3 : ¬ 9223372036854775807 < l0.length + 1 + 2 + 1 := by omega
  have hzc4 : ¬ 9223372036854775807 < l0.length + 1 + 2 + 1 + l1.length := by omega
  have hf2a : ¬ 9223372036854775807 < l0.length + 3 := by omega
  have hf2b : ¬ 9223372036854775807 < l0.length + 4 := by omega
  have hf2c : ¬ 9223372036854775807 < l0.length + 4 + l1.length := by omega
  clear hl hp0 hp1
  obtain ⟨c0, c2, c8, hbe, hgl⟩ := HN.out.cells
  obtain ⟨v0, hv0, hr0⟩ := HN.out.2.2.2 0 _ rfl
  have HC0 : Hid (Calls _ _ _ _ _) := HP.out P w _ v0 10 hr0 hq0 (by omega)
  rw [L0.out] at HC0
  clear hr0
  rw [Nat.add_zero] at hv0
  go_enter Tryz.func61, Tryz.ntmps61
  go_wp2_with fail
  refine HC0.out.mono ?_
  rintro e W1 ⟨rfl, hg0⟩
  have G1 : Hid (Grew w W1) := hg0
  have HN1 : Hid (ND P N W1 be _ nm g off _ cap _) := HN.out.grew hg0
  clear hg0 c0 c2 c8 hbe hgl hv0 HC0 HN
  obtain ⟨c0, c2, c8, hbe, hgl⟩ := HN1.out.cells
  obtain ⟨v1, hv1, hr1⟩ := HN1.out.2.2.2 1 _ rfl
  have HC1 : Hid (Calls _ _ _ _ _) := HP.out P W1 _ v1 10 hr1 hq1 (by omega)
  rw [L1.out] at HC1
  clear hr1
  go_wp2_with fail
  refine HC1.out.mono ?_
  rintro e W2 ⟨rfl, hg1⟩
  have G2 : Hid (Grew w W2) := G1.out.trans hg1
  have HN2 : Hid (ND P N W2 be _ nm g off _ cap _) := HN1.out.grew hg1
  clear hg1 c0 c2 c8 hbe hgl hv1 HC1 HN1
  obtain ⟨c0, c2, c8, hbe, hgl⟩ := HN2.out.cells
  go_wp2_with fail
  go_ret
  exact ⟨congrArg (fun b => Ending.returned (Value.string b)) HE.out, G2.out⟩
end Go.Proofs.YtjbekejcghjhbaaGreatDoor.Sx
