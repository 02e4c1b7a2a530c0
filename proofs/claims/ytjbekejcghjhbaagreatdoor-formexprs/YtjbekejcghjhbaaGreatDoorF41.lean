/- The reference: nodes with parts, as text. -/
import Derived.Test.YtjbekejcghjhbaaGreatDoorF40
namespace Go.Proofs.YtjbekejcghjhbaaGreatDoor.Sx
open Go.RowKit Go.Sort

/-- a node with its parts -/
def ND (P : Nat → Prop) (N : Nat) (w : World) (be : Nat) (op nm : ByteArray) (g off len cap : Nat) (kids : List PX) : Prop :=
  (∃ a k n tx, XBlk w be op a nm k n tx (some ⟨g, off, none⟩) len cap) ∧ g < w.heap.size ∧ len = kids.length ∧ ∀ i x, kids[i]? = some x → ∃ v, w.cell? ⟨g, off + i, none⟩ = some v ∧ RepT P w N x v
theorem ND.of {P : Nat → Prop} {N be len cap : Nat} {w : World} {op nm tx : ByteArray} {a k n : Int} {pa : Option Addr} {kids : List PX} (he : XBlk w be op a nm k n tx pa len cap) (hr : RowP P w (RepT P w N) pa len kids) (h : kids ≠ []) : ∃ g off, ND P N w be op nm g off len cap kids := by
  obtain ⟨h1, h2, h3 | ⟨g, off, rfl, hg, -, hc⟩⟩ := hr
  · exact absurd (List.length_eq_zero_iff.1 (by omega)) h
  · exact ⟨g, off, ⟨a, k, n, tx, he⟩, hg, h1, hc⟩
theorem ND.grew {P : Nat → Prop} {N be g off len cap : Nat} {w w' : World} {op nm : ByteArray} {kids : List PX} (h : ND P N w be op nm g off len cap kids) (hg : Grew w w') : ND P N w' be op nm g off len cap kids := by
  obtain ⟨⟨a, k, n, tx, he⟩, hl, hn, hc⟩ := h
  refine ⟨⟨a, k, n, tx, he.grew hg⟩, Nat.lt_of_lt_of_le hl hg.below.size, hn, fun i x q => ?_⟩
  obtain ⟨v, hv, hr⟩ := hc i x q
  exact ⟨v, (World.cell?_of_block (w := w) (hg.below.block g hl)).trans hv, hr.grew hg⟩
theorem ND.cells {P : Nat → Prop} {N be g off len cap : Nat} {w : World} {op nm : ByteArray} {kids : List PX} (h : ND P N w be op nm g off len cap kids) : w.cell? ⟨be, 0, none⟩ = some (.string op) ∧ w.cell? ⟨be, 2, none⟩ = some (.string nm) ∧ w.cell? ⟨be, 8, none⟩ = some (.slice (some ⟨g, off, none⟩) len cap) ∧ be < w.heap.size ∧ g < w.heap.size := by
  obtain ⟨⟨a, k, n, tx, he⟩, hl, hn, hc⟩ := h
  exact ⟨block_cell he 0, block_cell he 2, block_cell he 8, block_lt he, hl⟩
theorem part_le (x : PX) (q : Nat) : x.tx.length ≤ (partX x q).length := by
  unfold partX
  split
  · simp; omega
  · exact Nat.le_refl _
set_option maxRecDepth 100000 in
set_option maxHeartbeats 1000000 in
theorem gbare_neg {P : Nat → Prop} {N : Nat} (hP : PrT N) (w : World) (be g off cap : Nat)  (nm : ByteArray) (a : PX) (hn : ND P N w be ⟨#[110, 101, 103]⟩ nm g off 1 cap [a]) (hl : (dAhead 12 wNeg a).tx.length ≤ 1000000000) : BareT w be (dAhead 12 wNeg a) := by
  have HP : Hid (PrT N) := hP
  have mo := follows
  obtain ⟨l0, hl0⟩ : ∃ l, partX a 12 = l := ⟨_, rfl⟩
  have L0 : Hid (partX a 12 = l0) := hl0
  have hp0 := part_le a 12
  rw [hl0] at hp0
  have hT : (dAhead 12 wNeg a).tx = 45 :: l0 := by rw [← hl0]; rfl
  rw [hT] at hl
  simp only [List.length_cons] at hl
  have HE : Hid ((⟨#[45]⟩ : ByteArray) ++ ⟨l0.toArray⟩ = ⟨(dAhead 12 wNeg a).tx.toArray⟩) := by show _ = _; rw [hT]; exact ByteArray.ext (by simp [ByteArray.data_append])
  have HN : Hid (ND P N w be _ nm g off 1 cap _) := hn
  unfold BareT
  generalize (((dAhead 12 wNeg a).rk : Nat) : Int) = rk
  generalize (dAhead 12 wNeg a).tx = TT at HE ⊢
  clear hT hn hP hl0
  have hq0 : a.tx.length ≤ 1000000000 := by omega
  have hz1 : ¬ 9223372036854775807 < 1 + l0.length := by omega
  clear hl hp0
  obtain ⟨c0, c2, c8, hbe, hgl⟩ := HN.out.cells
  obtain ⟨v0, hv0, hr0⟩ := HN.out.2.2.2 0 _ rfl
  have HC0 : Hid (Calls _ _ _ _ _) := HP.out P w _ v0 12 hr0 hq0 (by omega)
  rw [L0.out] at HC0
  clear hr0
  rw [Nat.add_zero] at hv0
  go_enter Tryz.func61, Tryz.ntmps61
  go_wp2_with fail
  refine HC0.out.mono ?_
  rintro e W1 ⟨rfl, hg0⟩
  have G1 : Hid (Grew w W1) := hg0
  have HN1 : Hid (ND P N W1 be _ nm g off _ cap _) := HN.out.grew hg0
  clear hg0 c0 c2 c8 hbe hgl hv0 HC0 HN
  obtain ⟨c0, c2, c8, hbe, hgl⟩ := HN1.out.cells
  go_wp2_with fail
  go_ret
  exact ⟨congrArg (fun b => Ending.returned (Value.string b)) HE.out, G1.out⟩
set_option maxRecDepth 100000 in
set_option maxHeartbeats 1000000 in
theorem gbare_ahead6 {P : Nat → Prop} {N : Nat} (hP : PrT N) (w : World) (be g off cap : Nat) (op : ByteArray) (nm : ByteArray) (a : PX) (hn : ND P N w be op nm g off 1 cap [a]) (ho : op = ⟨#[110, 111, 116]⟩ ∨ op = ⟨#[97, 108, 119, 97, 121, 115]⟩ ∨ op = ⟨#[101, 118, 101, 110, 116, 117, 97, 108, 108, 121]⟩) (hl : (dAhead 6 op.data.toList a).tx.length ≤ 1000000000) : BareT w be (dAhead 6 op.data.toList a) := by
  have HP : Hid (PrT N) := hP
  have mo := follows
  obtain ⟨l0, hl0⟩ : ∃ l, partX a 6 = l := ⟨_, rfl⟩
  have L0 : Hid (partX a 6 = l0) := hl0
  have hp0 := part_le a 6
  rw [hl0] at hp0
  have hT : (dAhead 6 op.data.toList a).tx = op.data.toList ++ 32 :: l0 := by rw [← hl0]; rcases ho with rfl | rfl | rfl <;> rfl
  rw [hT] at hl
  simp only [List.length_cons, List.length_append] at hl
  have HE : Hid ((op : ByteArray) ++ ⟨#[32]⟩ ++ ⟨l0.toArray⟩ = ⟨(dAhead 6 op.data.toList a).tx.toArray⟩) := by show _ = _; rw [hT]; exact ByteArray.ext (by simp [ByteArray.data_append])
  have hop : op.data.toList.length = op.size := by simp
  have HN : Hid (ND P N w be _ nm g off 1 cap _) := hn
  unfold BareT
  have hrk : (((dAhead 6 op.data.toList a).rk : Nat) : Int) = 6 := rfl
  rw [hrk]
  clear hrk
  generalize (dAhead 6 op.data.toList a).tx = TT at HE ⊢
  clear hT hn hP hl0
  have hq0 : a.tx.length ≤ 1000000000 := by omega
  have hzd2 : ¬ 9223372036854775807 < 4 + l0.length := by omega
  have hzg2 : ¬ 9223372036854775807 < 7 + l0.length := by omega
  have hzk2 : ¬ 9223372036854775807 < 11 + l0.length := by omega
  clear hl hp0 hop
  rcases ho with rfl | rfl | rfl
  all_goals
    obtain ⟨c0, c2, c8, hbe, hgl⟩ := HN.out.cells
    obtain ⟨v0, hv0, hr0⟩ := HN.out.2.2.2 0 _ rfl
    have HC0 : Hid (Calls _ _ _ _ _) := HP.out P w _ v0 6 hr0 hq0 (by omega)
    rw [L0.out] at HC0
    clear hr0
    rw [Nat.add_zero] at hv0
    go_enter Tryz.func61, Tryz.ntmps61
    go_wp2_with fail
    refine HC0.out.mono ?_
    rintro e W1 ⟨rfl, hg0⟩
    have G1 : Hid (Grew w W1) := hg0
    have HN1 : Hid (ND P N W1 be _ nm g off _ cap _) := HN.out.grew hg0
    clear hg0 c0 c2 c8 hbe hgl hv0 HC0 HN
    obtain ⟨c0, c2, c8, hbe, hgl⟩ := HN1.out.cells
    go_wp2_with fail
    go_ret
    exact ⟨congrArg (fun b => Ending.returned (Value.string b)) HE.out, G1.out⟩
set_option maxRecDepth 100000 in
set_option maxHeartbeats 1000000 in
theorem gbare_ahead12 {P : Nat → Prop} {N : Nat} (hP : PrT N) (w : World) (be g off cap : Nat) (op : ByteArray) (nm : ByteArray) (a : PX) (hn : ND P N w be op nm g off 1 cap [a]) (ho : op = ⟨#[100, 111, 109, 97, 105, 110]⟩ ∨ op = ⟨#[112, 111, 119, 101, 114, 115, 101, 116]⟩ ∨ op = ⟨#[102, 108, 97, 116, 116, 101, 110]⟩) (hl : (dAhead 12 op.data.toList a).tx.length ≤ 1000000000) : BareT w be (dAhead 12 op.data.toList a) := by
  have HP : Hid (PrT N) := hP
  have mo := follows
  obtain ⟨l0, hl0⟩ : ∃ l, partX a 12 = l := ⟨_, rfl⟩
  have L0 : Hid (partX a 12 = l0) := hl0
  have hp0 := part_le a 12
  rw [hl0] at hp0
  have hT : (dAhead 12 op.data.toList a).tx = op.data.toList ++ 32 :: l0 := by rw [← hl0]; rcases ho with rfl | rfl | rfl <;> rfl
  rw [hT] at hl
  simp only [List.length_cons, List.length_append] at hl
  have HE : Hid ((op : ByteArray) ++ ⟨#[32]⟩ ++ ⟨l0.toArray⟩ = ⟨(dAhead 12 op.data.toList a).tx.toArray⟩) := by show _ = _; rw [hT]; exact ByteArray.ext (by simp [ByteArray.data_append])
  have hop : op.data.toList.length = op.size := by simp
  have HN : Hid (ND P N w be _ nm g off 1 cap _) := hn
  unfold BareT
  have hrk : (((dAhead 12 op.data.toList a).rk : Nat) : Int) = 12 := rfl
  rw [hrk]
  clear hrk
  generalize (dAhead 12 op.data.toList a).tx = TT at HE ⊢
  clear hT hn hP hl0
  have hq0 : a.tx.length ≤ 1000000000 := by omega
  have hzg2 : ¬ 9223372036854775807 < 7 + l0.length := by omega
  have hzh2 : ¬ 9223372036854775807 < 8 + l0.length := by omega
  have hzi2 : ¬ 9223372036854775807 < 9 + l0.length := by omega
  clear hl hp0 hop
  rcases ho with rfl | rfl | rfl
  all_goals
    obtain ⟨c0, c2, c8, hbe, hgl⟩ := HN.out.cells
    obtain ⟨v0, hv0, hr0⟩ := HN.out.2.2.2 0 _ rfl
    have HC0 : Hid (Calls _ _ _ _ _) := HP.out P w _ v0 12 hr0 hq0 (by omega)
    rw [L0.out] at HC0
    clear hr0
    rw [Nat.add_zero] at hv0
    go_enter Tryz.func61, Tryz.ntmps61
    go_wp2_with fail
    refine HC0.out.mono ?_
    rintro e W1 ⟨rfl, hg0⟩
    have G1 : Hid (Grew w W1) := hg0
    have HN1 : Hid (ND P N W1 be _ nm g off _ cap _) := HN.out.grew hg0
    clear hg0 c0 c2 c8 hbe hgl hv0 HC0 HN
    obtain ⟨c0, c2, c8, hbe, hgl⟩ := HN1.out.cells
    go_wp2_with fail
    go_ret
    exact ⟨congrArg (fun b => Ending.returned (Value.string b)) HE.out, G1.out⟩
end Go.Proofs.YtjbekejcghjhbaaGreatDoor.Sx
