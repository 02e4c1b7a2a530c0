/- The reference: choices and bindings, as text. -/
import Derived.Test.YtjbekejcghjhbaaGreatDoorF41
namespace Go.Proofs.YtjbekejcghjhbaaGreatDoor.Sx
open Go.RowKit Go.Sort

set_option maxRecDepth 100000 in
set_option maxHeartbeats 1000000 in
theorem gbare_if {P : Nat → Prop} {N : Nat} (hP : PrT N) (w : World) (be g off cap : Nat)  (nm : ByteArray) (a b c : PX) (hn : ND P N w be ⟨#[105, 102]⟩ nm g off 3 cap [a, b, c]) (hl : (dIf a b c).tx.length ≤ 1000000000) : BareT w be (dIf a b c) := by
  have HP : Hid (PrT N) := hP
  have mo := follows
  obtain ⟨l0, hl0⟩ : ∃ l, partX a 0 = l := ⟨_, rfl⟩
  have L0 : Hid (partX a 0 = l0) := hl0
  have hp0 := part_le a 0
  rw [hl0] at hp0
  obtain ⟨l1, hl1⟩ : ∃ l, partX b 0 = l := ⟨_, rfl⟩
  have L1 : Hid (partX b 0 = l1) := hl1
  have hp1 := part_le b 0
  rw [hl1] at hp1
  obtain ⟨l2, hl2⟩ : ∃ l, partX c 0 = l := ⟨_, rfl⟩
  have L2 : Hid (partX c 0 = l2) := hl2
  have hp2 := part_le c 0
  rw [hl2] at hp2
  have hT : (dIf a b c).tx = [105, 102, 32] ++ l0 ++ [32, 116, 104, 101, 110, 32] ++ l1 ++ [32, 101, 108, 115, 101, 32] ++ l2 := by rw [← hl0, ← hl1, ← hl2, part0, part0, part0]; rfl
  rw [hT] at hl
  simp only [List.length_cons, List.length_append, List.length_nil] at hl
  have HE : Hid ((⟨#[105, 102, 32]⟩ : ByteArray) ++ ⟨l0.toArray⟩ ++ ⟨#[32, 116, 104, 101, 110, 32]⟩ ++ ⟨l1.toArray⟩ ++ ⟨#[32, 101, 108, 115, 101, 32]⟩ ++ ⟨l2.toArray⟩ = ⟨(dIf a b c).tx.toArray⟩) := by show _ = _; rw [hT]; exact ByteArray.ext (by simp [ByteArray.data_append])
  have HN : Hid (ND P N w be _ nm g off 3 cap _) := hn
  unfold BareT
  generalize (((dIf a b c).rk : Nat) : Int) = rk
  generalize (dIf a b c).tx = TT at HE ⊢
  clear hT hn hP hl0 hl1 hl2
  have hq0 : a.tx.length ≤ 1000000000 := by omega
  have hq1 : b.tx.length ≤ 1000000000 := by omega
  have hq2 : c.tx.length ≤ 1000000000 := by omega
  have hz1 : ¬ 9223372036854775807 < 3 + l0.length := by omega
  have hz2 : ¬ 9223372036854775807 < 3 + l0.length + 6 := by omega
  have hz3 : ¬ 9223372036854775807 < 3 + l0.length + 6 + l1.length := by omega
  have hz4 : ¬ 9223372036854775807 < 3 + l0.length + 6 + l1.length + 6 := by omega
  have hz5 : ¬ 9223372036854775807 < 3 + l0.length + 6 + l1.length + 6 + l2.length := by omega
  clear hl hp0 hp1 hp2
  obtain ⟨c0, c2, c8, hbe, hgl⟩ := HN.out.cells
  obtain ⟨v0, hv0, hr0⟩ := HN.out.2.2.2 0 _ rfl
  have HC0 : Hid (Calls _ _ _ _ _) := HP.out P w _ v0 0 hr0 hq0 (by omega)
  rw [L0.out] at HC0
  clear hr0
  rw [Nat.add_zero] at hv0
  go_enter Tryz.func61, Tryz.ntmps61
  go_wp2_with fail
  refine HC0.out.mono ?_
  rintro e W1 ⟨rfl, hg0⟩
  have G1 : Hid (Grew w W1) := hg0
  have HN1 : Hid (ND P N W1 be _ nm g off _ cap _) := HN.out.grew hg0
  clear hg0 c0 c2 c8 hbe hgl hv0 HC0 HN
  obtain ⟨c0, c2, c8, hbe, hgl⟩ := HN1.out.cells
  obtain ⟨v1, hv1, hr1⟩ := HN1.out.2.2.2 1 _ rfl
  have HC1 : Hid (Calls _ _ _ _ _) := HP.out P W1 _ v1 0 hr1 hq1 (by omega)
  rw [L1.out] at HC1
  clear hr1
  go_wp2_with fail
  refine HC1.out.mono ?_
  rintro e W2 ⟨rfl, hg1⟩
  have G2 : Hid (Grew w W2) := G1.out.trans hg1
  have HN2 : Hid (ND P N W2 be _ nm g off _ cap _) := HN1.out.grew hg1
  clear hg1 c0 c2 c8 hbe hgl hv1 HC1 HN1
  obtain ⟨c0, c2, c8, hbe, hgl⟩ := HN2.out.cells
  obtain ⟨v2, hv2, hr2⟩ := HN2.out.2.2.2 2 _ rfl
  have HC2 : Hid (Calls _ _ _ _ _) := HP.out P W2 _ v2 0 hr2 hq2 (by omega)
  rw [L2.out] at HC2
  clear hr2
  go_wp2_with fail
  refine HC2.out.mono ?_
  rintro e W3 ⟨rfl, hg2⟩
  have G3 : Hid (Grew w W3) := G2.out.trans hg2
  have HN3 : Hid (ND P N W3 be _ nm g off _ cap _) := HN2.out.grew hg2
  clear hg2 c0 c2 c8 hbe hgl hv2 HC2 HN2
  obtain ⟨c0, c2, c8, hbe, hgl⟩ := HN3.out.cells
  go_wp2_with fail
  go_ret
  exact ⟨congrArg (fun b => Ending.returned (Value.string b)) HE.out, G3.out⟩
set_option maxRecDepth 100000 in
set_option maxHeartbeats 1000000 in
theorem gbare_let {P : Nat → Prop} {N : Nat} (hP : PrT N) (w : World) (be g off cap : Nat)  (nm : ByteArray) (a b : PX) (hn : ND P N w be ⟨#[108, 101, 116]⟩ nm g off 2 cap [a, b]) (hl : (dLet nm.data.toList a b).tx.length ≤ 1000000000) : BareT w be (dLet nm.data.toList a b) := by
  have HP : Hid (PrT N) := hP
  have mo := follows
  obtain ⟨l0, hl0⟩ : ∃ l, partX a 0 = l := ⟨_, rfl⟩
  have L0 : Hid (partX a 0 = l0) := hl0
  have hp0 := part_le a 0
  rw [hl0] at hp0
  obtain ⟨l1, hl1⟩ : ∃ l, partX b 0 = l := ⟨_, rfl⟩
  have L1 : Hid (partX b 0 = l1) := hl1
  have hp1 := part_le b 0
  rw [hl1] at hp1
  have hT : (dLet nm.data.toList a b).tx = [108, 101, 116, 32] ++ nm.data.toList ++ [32, 61, 32] ++ l0 ++ [32, 58, 32] ++ l1 := by rw [← hl0, ← hl1, part0, part0]; rfl
  rw [hT] at hl
  simp only [List.length_cons, List.length_append, List.length_nil] at hl
  have HE : Hid ((⟨#[108, 101, 116, 32]⟩ : ByteArray) ++ nm ++ ⟨#[32, 61, 32]⟩ ++ ⟨l0.toArray⟩ ++ ⟨#[32, 58, 32]⟩ ++ ⟨l1.toArray⟩ = ⟨(dLet nm.data.toList a b).tx.toArray⟩) := by show _ = _; rw [hT]; exact ByteArray.ext (by simp [ByteArray.data_append])
  have hnm : nm.data.toList.length = nm.size := by simp
  have HN : Hid (ND P N w be _ nm g off 2 cap _) := hn
  unfold BareT
  generalize (((dLet nm.data.toList a b).rk : Nat) : Int) = rk
  generalize (dLet nm.data.toList a b).tx = TT at HE ⊢
  clear hT hn hP hl0 hl1
  have hq0 : a.tx.length ≤ 1000000000 := by omega
  have hq1 : b.tx.length ≤ 1000000000 := by omega
  have hz1 : ¬ 9223372036854775807 < 4 + nm.size := by omega
  have hz2 : ¬ 9223372036854775807 < 4 + nm.size + 3 := by omega
  have hz3 : ¬ 9223372036854775807 < 4 + nm.size + 3 + l0.length := by omega
  have hz4 : ¬ 9223372036854775807 < 4 + nm.size + 3 + l0.length + 3 := by omega
  have hz5 : ¬ 9223372036854775807 < 4 + nm.size + 3 + l0.length + 3 + l1.length := by omega
  clear hl hp0 hp1 hnm
  obtain ⟨c0, c2, c8, hbe, hgl⟩ := HN.out.cells
  obtain ⟨v0, hv0, hr0⟩ := HN.out.2.2.2 0 _ rfl
  have HC0 : Hid (Calls _ _ _ _ _) := HP.out P w _ v0 0 hr0 hq0 (by omega)
  rw [L0.out] at HC0
  clear hr0
  rw [Nat.add_zero] at hv0
  go_enter Tryz.func61, Tryz.ntmps61
  go_wp2_with fail
  refine HC0.out.mono ?_
  rintro e W1 ⟨rfl, hg0⟩
  have G1 : Hid (Grew w W1) := hg0
  have HN1 : Hid (ND P N W1 be _ nm g off _ cap _) := HN.out.grew hg0
  clear hg0 c0 c2 c8 hbe hgl hv0 HC0 HN
  obtain ⟨c0, c2, c8, hbe, hgl⟩ := HN1.out.cells
  obtain ⟨v1, hv1, hr1⟩ := HN1.out.2.2.2 1 _ rfl
  have HC1 : Hid (Calls _ _ _ _ _) := HP.out P W1 _ v1 0 hr1 hq1 (by omega)
  rw [L1.out] at HC1
  clear hr1
  go_wp2_with fail
  refine HC1.out.mono ?_
  rintro e W2 ⟨rfl, hg1⟩
  have G2 : Hid (Grew w W2) := G1.out.trans hg1
  have HN2 : Hid (ND P N W2 be _ nm g off _ cap _) := HN1.out.grew hg1
  clear hg1 c0 c2 c8 hbe hgl hv1 HC1 HN1
  obtain ⟨c0, c2, c8, hbe, hgl⟩ := HN2.out.cells
  go_wp2_with fail
  go_ret
  exact ⟨congrArg (fun b => Ending.returned (Value.string b)) HE.out, G2.out⟩
set_option maxRecDepth 100000 in
set_option maxHeartbeats 1000000 in
theorem gbare_bind3 {P : Nat → Prop} {N : Nat} (hP : PrT N) (w : World) (be g off cap : Nat) (op : ByteArray) (nm : ByteArray) (a b : PX) (hn : ND P N w be op nm g off 2 cap [a, b]) (ho : op = ⟨#[97, 108, 108]⟩ ∨ op = ⟨#[115, 111, 109, 101]⟩ ∨ op = ⟨#[99, 104, 111, 111, 115, 101]⟩) (hl : (dBind op.data.toList nm.data.toList a b).tx.length ≤ 1000000000) : BareT w be (dBind op.data.toList nm.data.toList a b) := by
  have HP : Hid (PrT N) := hP
  have mo := follows
  obtain ⟨l0, hl0⟩ : ∃ l, partX a 8 = l := ⟨_, rfl⟩
  have L0 : Hid (partX a 8 = l0) := hl0
  have hp0 := part_le a 8
  rw [hl0] at hp0
  obtain ⟨l1, hl1⟩ : ∃ l, partX b 0 = l := ⟨_, rfl⟩
  have L1 : Hid (partX b 0 = l1) := hl1
  have hp1 := part_le b 0
  rw [hl1] at hp1
  have hT : (dBind op.data.toList nm.data.toList a b).tx = op.data.toList ++ [32] ++ nm.data.toList ++ [32, 105, 110, 32] ++ l0 ++ [32, 58, 32] ++ l1 := by rw [← hl0, ← hl1, part0]; rcases ho with rfl | rfl | rfl <;> rfl
  rw [hT] at hl
  simp only [List.length_cons, List.length_append, List.length_nil] at hl
  have HE : Hid ((op : ByteArray) ++ ⟨#[32]⟩ ++ nm ++ ⟨#[32, 105, 110, 32]⟩ ++ ⟨l0.toArray⟩ ++ ⟨#[32, 58, 32]⟩ ++ ⟨l1.toArray⟩ = ⟨(dBind op.data.toList nm.data.toList a b).tx.toArray⟩) := by show _ = _; rw [hT]; exact ByteArray.ext (by simp [ByteArray.data_append])
  have hnm : nm.data.toList.length = nm.size := by simp
  have hop : op.data.toList.length = op.size := by simp
  have HN : Hid (ND P N w be _ nm g off 2 cap _) := hn
  unfold BareT
  generalize (((dBind op.data.toList nm.data.toList a b).rk : Nat) : Int) = rk
  generalize (dBind op.data.toList nm.data.toList a b).tx = TT at HE ⊢
  clear hT hn hP hl0 hl1
  have hq0 : a.tx.length ≤ 1000000000 := by omega
  have hq1 : b.tx.length ≤ 1000000000 := by omega
  have hzd2 : ¬ 9223372036854775807 < 4 + nm.size := by omega
  have hzd3 : ¬ 9223372036854775807 < 4 + nm.size + 4 := by omega
  have hzd4 : ¬ 9223372036854775807 < 4 + nm.size + 4 + l0.length := by omega
  have hzd5 : ¬ 9223372036854775807 < 4 + nm.size + 4 + l0.length + 3 := by omega
  have hzd6 : ¬ 9223372036854775807 < 4 + nm.size + 4 + l0.length + 3 + l1.length := by omega
  have hze2 : ¬ 9223372036854775807 < 5 + nm.size := by omega
  have hze3 : ¬ 9223372036854775807 < 5 + nm.size + 4 := by omega
  have hze4 : ¬ 9223372036854775807 < 5 + nm.size + 4 + l0.length := by omega
  have hze5 : ¬ 9223372036854775807 < 5 + nm.size + 4 + l0.length + 3 := by omega
  have hze6 : ¬ 9223372036854775807 < 5 + nm.size + 4 + l0.length + 3 + l1.length := by omega
  have hzg2 : ¬ 9223372036854775807 < 7 + nm.size := by omega
  have hzg3 : ¬ 9223372036854775807 < 7 + nm.size + 4 := by omega
  have hzg4 : ¬ 9223372036854775807 < 7 + nm.size + 4 + l0.length := by omega
  have hzg5 : ¬ 9223372036854775807 < 7 + nm.size + 4 + l0.length + 3 := by omega
  have hzg6 : ¬ 9223372036854775807 < 7 + nm.size + 4 + l0.length + 3 + l1.length := by omega
  clear hl hp0 hp1 hnm hop
  rcases ho with rfl | rfl | rfl
  all_goals
    obtain ⟨c0, c2, c8, hbe, hgl⟩ := HN.out.cells
    obtain ⟨v0, hv0, hr0⟩ := HN.out.2.2.2 0 _ rfl
    have HC0 : Hid (Calls _ _ _ _ _) := HP.out P w _ v0 8 hr0 hq0 (by omega)
    rw [L0.out] at HC0
    clear hr0
    rw [Nat.add_zero] at hv0
    go_enter Tryz.func61, Tryz.ntmps61
    go_wp2_with fail
    refine HC0.out.mono ?_
    rintro e W1 ⟨rfl, hg0⟩
    have G1 : Hid (Grew w W1) := hg0
    have HN1 : Hid (ND P N W1 be _ nm g off _ cap _) := HN.out.grew hg0
    clear hg0 c0 c2 c8 hbe hgl hv0 HC0 HN
    obtain ⟨c0, c2, c8, hbe, hgl⟩ := HN1.out.cells
    obtain ⟨v1, hv1, hr1⟩ := HN1.out.2.2.2 1 _ rfl
    have HC1 : Hid (Calls _ _ _ _ _) := HP.out P W1 _ v1 0 hr1 hq1 (by omega)
    rw [L1.out] at HC1
    clear hr1
    go_wp2_with fail
    refine HC1.out.mono ?_
    rintro e W2 ⟨rfl, hg1⟩
    have G2 : Hid (Grew w W2) := G1.out.trans hg1
    have HN2 : Hid (ND P N W2 be _ nm g off _ cap _) := HN1.out.grew hg1
    clear hg1 c0 c2 c8 hbe hgl hv1 HC1 HN1
    obtain ⟨c0, c2, c8, hbe, hgl⟩ := HN2.out.cells
    go_wp2_with fail
    go_ret
    exact ⟨congrArg (fun b => Ending.returned (Value.string b)) HE.out, G2.out⟩
set_option maxRecDepth 100000 in
set_option maxHeartbeats 1000000 in
theorem gbare_fun_in {P : Nat → Prop} {N : Nat} (hP : PrT N) (w : World) (be g off cap : Nat)  (nm : ByteArray) (a b : PX) (hn : ND P N w be ⟨#[102, 117, 110, 32, 105, 110]⟩ nm g off 2 cap [a, b]) (hl : (dBind oFun nm.data.toList a b).tx.length ≤ 1000000000) : BareT w be (dBind oFun nm.data.toList a b) := by
  have HP : Hid (PrT N) := hP
  have mo := follows
  obtain ⟨l0, hl0⟩ : ∃ l, partX a 8 = l := ⟨_, rfl⟩
  have L0 : Hid (partX a 8 = l0) := hl0
  have hp0 := part_le a 8
  rw [hl0] at hp0
  obtain ⟨l1, hl1⟩ : ∃ l, partX b 0 = l := ⟨_, rfl⟩
  have L1 : Hid (partX b 0 = l1) := hl1
  have hp1 := part_le b 0
  rw [hl1] at hp1
  have hT : (dBind oFun nm.data.toList a b).tx = [102, 117, 110] ++ [32] ++ nm.data.toList ++ [32, 105, 110, 32] ++ l0 ++ [32, 58, 32] ++ l1 := by rw [← hl0, ← hl1, part0]; rfl
  rw [hT] at hl
  simp only [List.length_cons, List.length_append, List.length_nil] at hl
  have HE : Hid ((⟨#[102, 117, 110]⟩ : ByteArray) ++ ⟨#[32]⟩ ++ nm ++ ⟨#[32, 105, 110, 32]⟩ ++ ⟨l0.toArray⟩ ++ ⟨#[32, 58, 32]⟩ ++ ⟨l1.toArray⟩ = ⟨(dBind oFun nm.data.toList a b).tx.toArray⟩) := by show _ = _; rw [hT]; exact ByteArray.ext (by simp [ByteArray.data_append])
  have hnm : nm.data.toList.length = nm.size := by simp
  have HN : Hid (ND P N w be _ nm g off 2 cap _) := hn
  unfold BareT
  generalize (((dBind oFun nm.data.toList a b).rk : Nat) : Int) = rk
  generalize (dBind oFun nm.data.toList a b).tx = TT at HE ⊢
  clear hT hn hP hl0 hl1
  have hq0 : a.tx.length ≤ 1000000000 := by omega
  have hq1 : b.tx.length ≤ 1000000000 := by omega
  have hz2 : ¬ 9223372036854775807 < 4 + nm.size := by omega
  have hz3 : ¬ 9223372036854775807 < 4 + nm.size + 4 := by omega
  have hz4 : ¬ 9223372036854775807 < 4 + nm.size + 4 + l0.length := by omega
  have hz5 : ¬ 9223372036854775807 < 4 + nm.size + 4 + l0.length + 3 := by omega
  have hz6 : ¬ 9223372036854775807 < 4 + nm.size + 4 + l0.length + 3 + l1.length := by omega
  clear hl hp0 hp1 hnm
  obtain ⟨c0, c2, c8, hbe, hgl⟩ := HN.out.cells
  obtain ⟨v0, hv0, hr0⟩ := HN.out.2.2.2 0 _ rfl
  have HC0 : Hid (Calls _ _ _ _ _) := HP.out P w _ v0 8 hr0 hq0 (by omega)
  rw [L0.out] at HC0
  clear hr0
  rw [Nat.add_zero] at hv0
  go_enter Tryz.func61, Tryz.ntmps61
  go_wp2_with fail
  refine HC0.out.mono ?_
  rintro e W1 ⟨rfl, hg0⟩
  have G1 : Hid (Grew w W1) := hg0
  have HN1 : Hid (ND P N W1 be _ nm g off _ cap _) := HN.out.grew hg0
  clear hg0 c0 c2 c8 hbe hgl hv0 HC0 HN
  obtain ⟨c0, c2, c8, hbe, hgl⟩ := HN1.out.cells
  obtain ⟨v1, hv1, hr1⟩ := HN1.out.2.2.2 1 _ rfl
  have HC1 : Hid (Calls _ _ _ _ _) := HP.out P W1 _ v1 0 hr1 hq1 (by omega)
  rw [L1.out] at HC1
  clear hr1
  go_wp2_with fail
  refine HC1.out.mono ?_
  rintro e W2 ⟨rfl, hg1⟩
  have G2 : Hid (Grew w W2) := G1.out.trans hg1
  have HN2 : Hid (ND P N W2 be _ nm g off _ cap _) := HN1.out.grew hg1
  clear hg1 c0 c2 c8 hbe hgl hv1 HC1 HN1
  obtain ⟨c0, c2, c8, hbe, hgl⟩ := HN2.out.cells
  go_wp2_with fail
  go_ret
  exact ⟨congrArg (fun b => Ending.returned (Value.string b)) HE.out, G2.out⟩
set_option maxRecDepth 100000 in
set_option maxHeartbeats 1000000 in
theorem gbare_bind2 {P : Nat → Prop} {N : Nat} (hP : PrT N) (w : World) (be g off cap : Nat) (op : ByteArray) (nm : ByteArray) (a b : PX) (hn : ND P N w be op nm g off 2 cap [a, b]) (ho : op = ⟨#[101, 97, 99, 104]⟩ ∨ op = ⟨#[116, 104, 111, 115, 101]⟩) (hl : (dBind op.data.toList nm.data.toList a b).tx.length ≤ 1000000000) : BareT w be (dBind op.data.toList nm.data.toList a b) := by
  have HP : Hid (PrT N) := hP
  have mo := follows
  obtain ⟨l0, hl0⟩ : ∃ l, partX a 8 = l := ⟨_, rfl⟩
  have L0 : Hid (partX a 8 = l0) := hl0
  have hp0 := part_le a 8
  rw [hl0] at hp0
  obtain ⟨l1, hl1⟩ : ∃ l, partX b 0 = l := ⟨_, rfl⟩
  have L1 : Hid (partX b 0 = l1) := hl1
  have hp1 := part_le b 0
  rw [hl1] at hp1
  have hT : (dBind op.data.toList nm.data.toList a b).tx = 123 :: (op.data.toList ++ [32] ++ nm.data.toList ++ [32, 105, 110, 32] ++ l0 ++ [32, 58, 32] ++ l1 ++ [125]) := by rw [← hl0, ← hl1, part0]; rcases ho with rfl | rfl <;> rfl
  rw [hT] at hl
  simp only [List.length_cons, List.length_append, List.length_nil] at hl
  have HE : Hid ((⟨#[123]⟩ : ByteArray) ++ (op ++ ⟨#[32]⟩ ++ nm ++ ⟨#[32, 105, 110, 32]⟩ ++ ⟨l0.toArray⟩ ++ ⟨#[32, 58, 32]⟩ ++ ⟨l1.toArray⟩) ++ ⟨#[125]⟩ = ⟨(dBind op.data.toList nm.data.toList a b).tx.toArray⟩) := by show _ = _; rw [hT]; exact ByteArray.ext (by simp [ByteArray.data_append])
  have hnm : nm.data.toList.length = nm.size := by simp
  have hop : op.data.toList.length = op.size := by simp
  have HN : Hid (ND P N w be _ nm g off 2 cap _) := hn
  unfold BareT
  generalize (((dBind op.data.toList nm.data.toList a b).rk : Nat) : Int) = rk
  generalize (dBind op.data.toList nm.data.toList a b).tx = TT at HE ⊢
  clear hT hn hP hl0 hl1
  have hq0 : a.tx.length ≤ 1000000000 := by omega
  have hq1 : b.tx.length ≤ 1000000000 := by omega
  have hze2 : ¬ 9223372036854775807 < 5 + nm.size := by omega
  have hze3 : ¬ 9223372036854775807 < 5 + nm.size + 4 := by omega
  have hze4 : ¬ 9223372036854775807 < 5 + nm.size + 4 + l0.length := by omega
  have hze5 : ¬ 9223372036854775807 < 5 + nm.size + 4 + l0.length + 3 := by omega
  have hze6 : ¬ 9223372036854775807 < 5 + nm.size + 4 + l0.length + 3 + l1.length := by omega
  have hye1 : ¬ 9223372036854775807 < 1 + (5 + nm.size + 4 + l0.length + 3 + l1.length) := by omega
  have hye2 : ¬ 9223372036854775807 < 1 + (5 + nm.size + 4 + l0.length + 3 + l1.length) + 1 := by omega
  have hzf2 : ¬ 9223372036854775807 < 6 + nm.size := by omega
  have hzf3 : ¬ 9223372036854775807 < 6 + nm.size + 4 := by omega
  have hzf4 : ¬ 9223372036854775807 < 6 + nm.size + 4 + l0.length := by omega
  have hzf5 : ¬ 9223372036854775807 < 6 + nm.size + 4 + l0.length + 3 := by omega
  have hzf6 : ¬ 9223372036854775807 < 6 + nm.size + 4 + l0.length + 3 + l1.length := by omega
  have hyf1 : ¬ 9223372036854775807 < 1 + (6 + nm.size + 4 + l0.length + 3 + l1.length) := by omega
  have hyf2 : ¬ 9223372036854775807 < 1 + (6 + nm.size + 4 + l0.length + 3 + l1.length) + 1 := by omega
  clear hl hp0 hp1 hnm hop
  rcases ho with rfl | rfl
  all_goals
    obtain ⟨c0, c2, c8, hbe, hgl⟩ := HN.out.cells
    obtain ⟨v0, hv0, hr0⟩ := HN.out.2.2.2 0 _ rfl
    have HC0 : Hid (Calls _ _ _ _ _) := HP.out P w _ v0 8 hr0 hq0 (by omega)
    rw [L0.out] at HC0
    clear hr0
    rw [Nat.add_zero] at hv0
    go_enter Tryz.func61, Tryz.ntmps61
    go_wp2_with fail
    refine HC0.out.mono ?_
    rintro e W1 ⟨rfl, hg0⟩
    have G1 : Hid (Grew w W1) := hg0
    have HN1 : Hid (ND P N W1 be _ nm g off _ cap _) := HN.out.grew hg0
    clear hg0 c0 c2 c8 hbe hgl hv0 HC0 HN
    obtain ⟨c0, c2, c8, hbe, hgl⟩ := HN1.out.cells
    obtain ⟨v1, hv1, hr1⟩ := HN1.out.2.2.2 1 _ rfl
    have HC1 : Hid (Calls _ _ _ _ _) := HP.out P W1 _ v1 0 hr1 hq1 (by omega)
    rw [L1.out] at HC1
    clear hr1
    go_wp2_with fail
    refine HC1.out.mono ?_
    rintro e W2 ⟨rfl, hg1⟩
    have G2 : Hid (Grew w W2) := G1.out.trans hg1
    have HN2 : Hid (ND P N W2 be _ nm g off _ cap _) := HN1.out.grew hg1
    clear hg1 c0 c2 c8 hbe hgl hv1 HC1 HN1
    obtain ⟨c0, c2, c8, hbe, hgl⟩ := HN2.out.cells
    go_wp2_with fail
    go_ret
    exact ⟨congrArg (fun b => Ending.returned (Value.string b)) HE.out, G2.out⟩
end Go.Proofs.YtjbekejcghjhbaaGreatDoor.Sx
