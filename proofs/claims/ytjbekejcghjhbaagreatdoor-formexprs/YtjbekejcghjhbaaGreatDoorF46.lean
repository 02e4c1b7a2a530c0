/- The reference: signs between two parts, as text (of numbers and sets). -/
import Derived.Test.YtjbekejcghjhbaaGreatDoorF41
namespace Go.Proofs.YtjbekejcghjhbaaGreatDoor.Sx
open Go.RowKit Go.Sort

set_option maxRecDepth 100000 in
set_option maxHeartbeats 4000000 in
theorem gbare_bin10 {P : Nat → Prop} {N : Nat} (hP : PrT N) (w : World) (be g off cap : Nat) (op : ByteArray) (nm : ByteArray) (a b : PX) (hn : ND P N w be op nm g off 2 cap [a, b]) (ho : op = ⟨#[43]⟩ ∨ op = ⟨#[45]⟩ ∨ op = ⟨#[117, 110, 105, 111, 110]⟩ ∨ op = ⟨#[109, 105, 110, 117, 115]⟩ ∨ op = ⟨#[43, 43]⟩) (hl : (dBin op.data.toList a b).tx.length ≤ 1000000000) : BareT w be (dBin op.data.toList a b) := by
  have HP : Hid (PrT N) := hP
  have mo := follows
  obtain ⟨l0, hl0⟩ : ∃ l, partX a 10 = l := ⟨_, rfl⟩
  have L0 : Hid (partX a 10 = l0) := hl0
  have hp0 := part_le a 10
  rw [hl0] at hp0
  obtain ⟨l1, hl1⟩ : ∃ l, partX b 11 = l := ⟨_, rfl⟩
  have L1 : Hid (partX b 11 = l1) := hl1
  have hp1 := part_le b 11
  rw [hl1] at hp1
  have hT : (dBin op.data.toList a b).tx = l0 ++ [32] ++ op.data.toList ++ [32] ++ l1 := by rw [← hl0, ← hl1]; rcases ho with rfl | rfl | rfl | rfl | rfl <;> rfl
  rw [hT] at hl
  simp only [List.length_cons, List.length_append, List.length_nil] at hl
  have HE : Hid ((⟨l0.toArray⟩ : ByteArray) ++ ⟨#[32]⟩ ++ op ++ ⟨#[32]⟩ ++ ⟨l1.toArray⟩ = ⟨(dBin op.data.toList a b).tx.toArray⟩) := by show _ = _; rw [hT]; exact ByteArray.ext (by simp [ByteArray.data_append])
  have hop : op.data.toList.length = op.size := by simp
  have HN : Hid (ND P N w be _ nm g off 2 cap _) := hn
  unfold BareT
  have hrk : (((dBin op.data.toList a b).rk : Nat) : Int) = 10 := by rcases ho with rfl | rfl | rfl | rfl | rfl <;> rfl
  rw [hrk]
  clear hrk
  generalize (dBin op.data.toList a b).tx = TT at HE ⊢
  clear hT hn hP hl0 hl1
  have hq0 : a.tx.length ≤ 1000000000 := by omega
  have hq1 : b.tx.length ≤ 1000000000 := by omega
  have hzb1 : ¬ 9223372036854775807 < l0.length + 1 := by omega
  have hzb2 : ¬ 9223372036854775807 < l0.length + 1 + 1 := by omega
  have hzb3 : ¬ 9223372036854775807 < l0.length + 1 + 1 + 1 := by omega
  have hzb4 : ¬ 9223372036854775807 < l0.length + 1 + 1 + 1 + l1.length := by omega
  have hzc1 : ¬ 9223372036854775807 < l0.length + 1 := by omega
  have hzc2 : ¬ 9223372036854775807 < l0.length + 1 + 2 := by omega
  have hzc3 : ¬ 9223372036854775807 < l0.length + 1 + 2 + 1 := by omega
  have hzc4 : ¬ 9223372036854775807 < l0.length + 1 + 2 + 1 + l1.length := by omega
  have hzf1 : ¬ 9223372036854775807 < l0.length + 1 := by omega
  have hzf2 : ¬ 9223372036854775807 < l0.length + 1 + 5 := by omega
  have hzf3 : ¬ 9223372036854775807 < l0.length + 1 + 5 + 1 := by omega
  have hzf4 : ¬ 9223372036854775807 < l0.length + 1 + 5 + 1 + l1.length := by omega
  have hf1a : ¬ 9223372036854775807 < l0.length + 2 := by omega
  have hf1b : ¬ 9223372036854775807 < l0.length + 3 := by omega
  have hf1c : ¬ 9223372036854775807 < l0.length + 3 + l1.length := by omega
  have hf2a : ¬ 9223372036854775807 < l0.length + 3 := by omega
  have hf2b : ¬ 9223372036854775807 < l0.length + 4 := by omega
  have hf2c : ¬ 9223372036854775807 < l0.length + 4 + l1.length := by omega
  have hf5a : ¬ 9223372036854775807 < l0.length + 6 := by omega
  have hf5b : ¬ 9223372036854775807 < l0.length + 7 := by omega
  have hf5c : ¬ 9223372036854775807 < l0.length + 7 + l1.length := by omega
  clear hl hp0 hp1 hop
  rcases ho with rfl | rfl | rfl | rfl | rfl
  all_goals
    obtain ⟨c0, c2, c8, hbe, hgl⟩ := HN.out.cells
    obtain ⟨v0, hv0, hr0⟩ := HN.out.2.2.2 0 _ rfl
    have HC0 : Hid (Calls _ _ _ _ _) := HP.out P w _ v0 10 hr0 hq0 (by omega)
    rw [L0.out] at HC0
    clear hr0
    rw [Nat.add_zero] at hv0
    go_enter Tryz.func61, Tryz.ntmps61
    go_wp2_with fail
    refine HC0.out.mono ?_
    rintro e W1 ⟨rfl, hg0⟩
    have G1 : Hid (Grew w W1) := hg0
    have HN1 : Hid (ND P N W1 be _ nm g off _ cap _) := HN.out.grew hg0
    clear hg0 c0 c2 c8 hbe hgl hv0 HC0 HN
    obtain ⟨c0, c2, c8, hbe, hgl⟩ := HN1.out.cells
    obtain ⟨v1, hv1, hr1⟩ := HN1.out.2.2.2 1 _ rfl
    have HC1 : Hid (Calls _ _ _ _ _) := HP.out P W1 _ v1 11 hr1 hq1 (by omega)
    rw [L1.out] at HC1
    clear hr1
    go_wp2_with fail
    refine HC1.out.mono ?_
    rintro e W2 ⟨rfl, hg1⟩
    have G2 : Hid (Grew w W2) := G1.out.trans hg1
    have HN2 : Hid (ND P N W2 be _ nm g off _ cap _) := HN1.out.grew hg1
    clear hg1 c0 c2 c8 hbe hgl hv1 HC1 HN1
    obtain ⟨c0, c2, c8, hbe, hgl⟩ := HN2.out.cells
    go_wp2_with fail
    go_ret
    exact ⟨congrArg (fun b => Ending.returned (Value.string b)) HE.out, G2.out⟩
set_option maxRecDepth 100000 in
set_option maxHeartbeats 4000000 in
theorem gbare_bin11 {P : Nat → Prop} {N : Nat} (hP : PrT N) (w : World) (be g off cap : Nat) (op : ByteArray) (nm : ByteArray) (a b : PX) (hn : ND P N w be op nm g off 2 cap [a, b]) (ho : op = ⟨#[42]⟩ ∨ op = ⟨#[47]⟩ ∨ op = ⟨#[37]⟩ ∨ op = ⟨#[105, 110, 116, 101, 114]⟩) (hl : (dBin op.data.toList a b).tx.length ≤ 1000000000) : BareT w be (dBin op.data.toList a b) := by
  have HP : Hid (PrT N) := hP
  have mo := follows
  obtain ⟨l0, hl0⟩ : ∃ l, partX a 11 = l := ⟨_, rfl⟩
  have L0 : Hid (partX a 11 = l0) := hl0
  have hp0 := part_le a 11
  rw [hl0] at hp0
  obtain ⟨l1, hl1⟩ : ∃ l, partX b 12 = l := ⟨_, rfl⟩
  have L1 : Hid (partX b 12 = l1) := hl1
  have hp1 := part_le b 12
  rw [hl1] at hp1
  have hT : (dBin op.data.toList a b).tx = l0 ++ [32] ++ op.data.toList ++ [32] ++ l1 := by rw [← hl0, ← hl1]; rcases ho with rfl | rfl | rfl | rfl <;> rfl
  rw [hT] at hl
  simp only [List.length_cons, List.length_append, List.length_nil] at hl
  have HE : Hid ((⟨l0.toArray⟩ : ByteArray) ++ ⟨#[32]⟩ ++ op ++ ⟨#[32]⟩ ++ ⟨l1.toArray⟩ = ⟨(dBin op.data.toList a b).tx.toArray⟩) := by show _ = _; rw [hT]; exact ByteArray.ext (by simp [ByteArray.data_append])
  have hop : op.data.toList.length = op.size := by simp
  have HN : Hid (ND P N w be _ nm g off 2 cap _) := hn
  unfold BareT
  have hrk : (((dBin op.data.toList a b).rk : Nat) : Int) = 11 := by rcases ho with rfl | rfl | rfl | rfl <;> rfl
  rw [hrk]
  clear hrk
  generalize (dBin op.data.toList a b).tx = TT at HE ⊢
  clear hT hn hP hl0 hl1
  have hq0 : a.tx.length ≤ 1000000000 := by omega
  have hq1 : b.tx.length ≤ 1000000000 := by omega
  have hzb1 : ¬ 9223372036854775807 < l0.length + 1 := by omega
  have hzb2 : ¬ 9223372036854775807 < l0.length + 1 + 1 := by omega
  have hzb3 : ¬ 9223372036854775807 < l0.length + 1 + 1 + 1 := by omega
  have hzb4 : ¬ 9223372036854775807 < l0.length + 1 + 1 + 1 + l1.length := by omega
  have hzf1 : ¬ 9223372036854775807 < l0.length + 1 := by omega
  have hzf2 : ¬ 9223372036854775807 < l0.length + 1 + 5 := by omega
  have hzf3 : ¬ 9223372036854775807 < l0.length + 1 + 5 + 1 := by omega
  have hzf4 : ¬ 9223372036854775807 < l0.length + 1 + 5 + 1 + l1.length := by omega
  have hf1a : ¬ 9223372036854775807 < l0.length + 2 := by omega
  have hf1b : ¬ 9223372036854775807 < l0.length + 3 := by omega
  have hf1c : ¬ 9223372036854775807 < l0.length + 3 + l1.length := by omega
  have hf5a : ¬ 9223372036854775807 < l0.length + 6 := by omega
  have hf5b : ¬ 9223372036854775807 < l0.length + 7 := by omega
  have hf5c : ¬ 9223372036854775807 < l0.length + 7 + l1.length := by omega
  clear hl hp0 hp1 hop
  rcases ho with rfl | rfl | rfl | rfl
  all_goals
    obtain ⟨c0, c2, c8, hbe, hgl⟩ := HN.out.cells
    obtain ⟨v0, hv0, hr0⟩ := HN.out.2.2.2 0 _ rfl
    have HC0 : Hid (Calls _ _ _ _ _) := HP.out P w _ v0 11 hr0 hq0 (by omega)
    rw [L0.out] at HC0
    clear hr0
    rw [Nat.add_zero] at hv0
    go_enter Tryz.func61, Tryz.ntmps61
    go_wp2_with fail
    refine HC0.out.mono ?_
    rintro e W1 ⟨rfl, hg0⟩
    have G1 : Hid (Grew w W1) := hg0
    have HN1 : Hid (ND P N W1 be _ nm g off _ cap _) := HN.out.grew hg0
    clear hg0 c0 c2 c8 hbe hgl hv0 HC0 HN
    obtain ⟨c0, c2, c8, hbe, hgl⟩ := HN1.out.cells
    obtain ⟨v1, hv1, hr1⟩ := HN1.out.2.2.2 1 _ rfl
    have HC1 : Hid (Calls _ _ _ _ _) := HP.out P W1 _ v1 12 hr1 hq1 (by omega)
    rw [L1.out] at HC1
    clear hr1
    go_wp2_with fail
    refine HC1.out.mono ?_
    rintro e W2 ⟨rfl, hg1⟩
    have G2 : Hid (Grew w W2) := G1.out.trans hg1
    have HN2 : Hid (ND P N W2 be _ nm g off _ cap _) := HN1.out.grew hg1
    clear hg1 c0 c2 c8 hbe hgl hv1 HC1 HN1
    obtain ⟨c0, c2, c8, hbe, hgl⟩ := HN2.out.cells
    go_wp2_with fail
    go_ret
    exact ⟨congrArg (fun b => Ending.returned (Value.string b)) HE.out, G2.out⟩
end Go.Proofs.YtjbekejcghjhbaaGreatDoor.Sx
