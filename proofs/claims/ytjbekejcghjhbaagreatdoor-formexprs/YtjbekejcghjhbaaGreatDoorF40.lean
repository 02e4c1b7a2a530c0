/- The reference: nodes as text: values, names, lists. -/
import Derived.Test.YtjbekejcghjhbaaGreatDoorF39
namespace Go.Proofs.YtjbekejcghjhbaaGreatDoor.Sx
open Go.RowKit Go.Sort

theorem bytesT {s : ByteArray} {l : List UInt8} (h : s.data.toList = l) : s = ⟨l.toArray⟩ := by rw [← h]
theorem catN (b : ByteArray) (l : List UInt8) : b ++ ⟨l.toArray⟩ = ⟨(b.data.toList ++ l).toArray⟩ := by
  have := catC b.data.toList l
  rw [← bytesT (s := b) rfl] at this
  exact this
/-- a node is printed, without brackets around it -/
def BareT (w : World) (be : Nat) (x : PX) : Prop := Calls Tryz.prog 61 #[.pointer (some ⟨be, 0, none⟩), .int .i64 (x.rk : Int)] w fun e w' => e = .returned (.string ⟨x.tx.toArray⟩) ∧ Grew w w'

set_option maxRecDepth 100000 in
set_option maxHeartbeats 1000000 in
theorem gbare_value (w : World) (be : Nat) (nm tx : ByteArray) (a k n : Int) (pa : Option Addr) (len cap : Nat) (x : PX) (he : XBlk w be ⟨#[118, 97, 108, 117, 101]⟩ a nm k n tx pa len cap) (hx : ValMeans k n tx.data.toList x) (hl : x.tx.length ≤ 1000000000) : BareT w be x := by
  have HS : Hid (Calls _ _ _ _ _) := gshow_leaf w k n tx x hx (fun e => by
    subst e
    rcases hx with ⟨h, -⟩ | ⟨h, -⟩ | ⟨h, -⟩ | ⟨h, -⟩ | ⟨-, rfl⟩
    · omega
    · omega
    · omega
    · omega
    · simp [dTxt] at hl; omega)
  have c0 := block_cell he 0
  have c3 := block_cell he 3
  have c4 := block_cell he 4
  have c5 := block_cell he 5
  have c6 := block_cell he 6
  have c7 := block_cell he 7
  have hb := block_lt he
  have mo := follows
  clear he hx hl
  unfold BareT
  generalize x.tx = l at HS ⊢
  generalize (x.rk : Int) = rk
  go_enter Tryz.func61, Tryz.ntmps61
  go_wp2_with fail
  refine HS.out.mono ?_
  rintro e w1 ⟨rfl, hg⟩
  have G1 : Hid (Grew w w1) := hg
  clear hg
  go_wp2_with fail
  go_ret
  exact ⟨rfl, G1.out⟩

set_option maxRecDepth 100000 in
set_option maxHeartbeats 1000000 in
theorem gbare_name (w : World) (be : Nat) (nm tx : ByteArray) (a k n : Int) (pa : Option Addr) (len cap : Nat) (he : XBlk w be ⟨#[110, 97, 109, 101]⟩ a nm k n tx pa len cap) : BareT w be (dLeaf nm.data.toList) := by
  have c0 := block_cell he 0
  have c2 := block_cell he 2
  have hb := block_lt he
  have mo := follows
  clear he
  have HE : Hid (nm = ⟨(dLeaf nm.data.toList).tx.toArray⟩) := bytesT rfl
  unfold BareT
  generalize (dLeaf nm.data.toList).tx = l at HE ⊢
  generalize (((dLeaf nm.data.toList).rk : Nat) : Int) = rk
  go_enter Tryz.func61, Tryz.ntmps61
  go_wp2_with fail
  go_ret
  exact ⟨by rw [← HE.out]; rfl, Grew.refl _⟩

set_option maxRecDepth 100000 in
set_option maxHeartbeats 1000000 in
theorem gbare_prime (w : World) (be : Nat) (nm tx : ByteArray) (a k n : Int) (pa : Option Addr) (len cap : Nat) (he : XBlk w be ⟨#[112, 114, 105, 109, 101]⟩ a nm k n tx pa len cap) (hl : (dLeaf (nm.data.toList ++ [39])).tx.length ≤ 1000000000) : BareT w be (dLeaf (nm.data.toList ++ [39])) := by
  have c0 := block_cell he 0
  have c2 := block_cell he 2
  have hb := block_lt he
  have mo := follows
  clear he
  have hs1 : ¬ 9223372036854775807 < nm.size + 1 := by simp [dLeaf] at hl; omega
  have HE : Hid (nm ++ ⟨#[39]⟩ = ⟨(dLeaf (nm.data.toList ++ [39])).tx.toArray⟩) := catN nm [39]
  unfold BareT
  generalize (dLeaf (nm.data.toList ++ [39])).tx = l at HE hl ⊢
  generalize (((dLeaf (nm.data.toList ++ [39])).rk : Nat) : Int) = rk
  clear hl
  go_enter Tryz.func61, Tryz.ntmps61
  go_wp2_with fail
  go_ret
  exact ⟨congrArg (fun b => Ending.returned (Value.string b)) HE.out, Grew.refl _⟩

set_option maxRecDepth 100000 in
set_option maxHeartbeats 1000000 in
theorem gbare_ofname (w : World) (be r : Nat) (op nm tx : ByteArray) (a k n : Int) (pa : Option Addr) (len cap : Nat) (he : XBlk w be op a nm k n tx pa len cap) (ho : op = ⟨#[117, 110, 99, 104, 97, 110, 103, 101, 100]⟩ ∨ op = ⟨#[101, 110, 97, 98, 108, 101, 100]⟩) (hl : (dOfName r op.data.toList nm.data.toList).tx.length ≤ 1000000000) : BareT w be (dOfName r op.data.toList nm.data.toList) := by
  have c0 := block_cell he 0
  have c2 := block_cell he 2
  have d0 := block_cell (he.grew (Grew.refl w).drew) 0
  have d2 := block_cell (he.grew (Grew.refl w).drew) 2
  have hb := block_lt he
  have mo := follows
  clear he
  have HE : Hid (op ++ ⟨#[32]⟩ ++ nm = ⟨(dOfName r op.data.toList nm.data.toList).tx.toArray⟩) := ByteArray.ext (by simp [dOfName, ByteArray.data_append])
  have hz : op.size + 1 + nm.size ≤ 1000000000 := by simp [dOfName] at hl; omega
  unfold BareT
  generalize (dOfName r op.data.toList nm.data.toList).tx = l at HE hl ⊢
  generalize (((dOfName r op.data.toList nm.data.toList).rk : Nat) : Int) = rk
  clear hl
  rcases ho with rfl | rfl
  all_goals
    have hz1 : nm.size ≤ 1000000000 := by omega
    have hz2 : ¬ 9223372036854775807 < 10 + nm.size := by omega
    have hz3 : ¬ 9223372036854775807 < 8 + nm.size := by omega
    clear hz
    go_enter Tryz.func61, Tryz.ntmps61
    go_wp2_with fail
    go_big_region_o
    have G1 : Hid (Grew w w.drew) := (Grew.refl w).drew
    generalize w.drew = W1 at G1 ⊢
    go_wp2_with fail
    go_ret
    exact ⟨congrArg (fun b => Ending.returned (Value.string b)) HE.out, G1.out⟩

def lit (l : List UInt8) : ByteArray := ⟨l.toArray⟩
set_option maxRecDepth 100000 in
set_option maxHeartbeats 2000000 in
theorem gbare_call {N : Nat} (hP : PrT N) (P : Nat → Prop) (w : World) (be : Nat) (op nm tx : ByteArray) (a k n : Int) (pa : Option Addr) (len cap : Nat) (kids : List PX) (he : XBlk w be op a nm k n tx pa len cap) (hr : RowP P w (RepT P w N) pa len kids) (ho : op.data.toList = tCall ∨ op.data.toList ∈ called7) (hl : (dCall nm.data.toList kids).tx.length ≤ 1000000000) : BareT w be (dCall nm.data.toList kids) := by
  have hz : nm.size + 1 + (commasX kids).length + 1 ≤ 1000000000 := by simp [dCall] at hl; omega
  have HC : Hid (Calls _ _ _ _ _) := gcommas_any hP P w pa len cap kids hr (by omega)
  have HX : Hid (XBlk w be op a nm k n tx pa len cap) := he
  have c0 := block_cell he 0
  have c8 := block_cell he 8
  have hb := block_lt he
  have mo := follows
  clear he hr hP
  have HE : Hid (nm ++ ⟨#[40]⟩ ++ ⟨(commasX kids).toArray⟩ ++ ⟨#[41]⟩ = ⟨(dCall nm.data.toList kids).tx.toArray⟩) := ByteArray.ext (by simp [dCall, ByteArray.data_append])
  unfold BareT
  generalize (dCall nm.data.toList kids).tx = l at HE hl ⊢
  generalize (((dCall nm.data.toList kids).rk : Nat) : Int) = rk
  generalize commasX kids = S at HE HC hz
  clear hl
  have hz1 : ¬ 9223372036854775807 < nm.size + 1 := by omega
  have hz2 : ¬ 9223372036854775807 < nm.size + 1 + S.length := by omega
  have hz3 : ¬ 9223372036854775807 < nm.size + 1 + S.length + 1 := by omega
  clear hz
  simp only [tCall, called7, List.mem_cons, List.not_mem_nil, or_false] at ho
  have hs : op = ⟨⟨op.data.toList⟩⟩ := by cases op; rfl
  generalize op.data.toList = lo at ho hs
  subst hs
  rcases ho with rfl | rfl | rfl | rfl | rfl | rfl | rfl | rfl
  all_goals
    go_enter Tryz.func61, Tryz.ntmps61
    go_wp2_with fail
    refine HC.out.mono ?_
    rintro e w1 ⟨rfl, hg⟩
    have G1 : Hid (Grew w w1) := hg
    have e2 := block_cell (HX.out.grew hg) 2
    clear hg c0 c8
    go_wp2_with fail
    go_ret
    exact ⟨congrArg (fun b => Ending.returned (Value.string b)) HE.out, G1.out⟩
set_option maxRecDepth 100000 in
set_option maxHeartbeats 1000000 in
theorem gbare_set {N : Nat} (hP : PrT N) (P : Nat → Prop) (w : World) (be : Nat) (nm tx : ByteArray) (a k n : Int) (pa : Option Addr) (len cap : Nat) (kids : List PX) (he : XBlk w be ⟨#[115, 101, 116]⟩ a nm k n tx pa len cap) (hr : RowP P w (RepT P w N) pa len kids) (hl : (dSet kids).tx.length ≤ 1000000000) : BareT w be (dSet kids) := by
  have hz : 1 + (commasX kids).length + 1 ≤ 1000000000 := by simp [dSet] at hl; omega
  have HC : Hid (Calls _ _ _ _ _) := gcommas_any hP P w pa len cap kids hr (by omega)
  have c0 := block_cell he 0
  have c8 := block_cell he 8
  have hb := block_lt he
  have mo := follows
  clear he hr hP
  have HE : Hid ((⟨#[123]⟩ : ByteArray) ++ ⟨(commasX kids).toArray⟩ ++ ⟨#[125]⟩ = ⟨(dSet kids).tx.toArray⟩) := ByteArray.ext (by simp [dSet, ByteArray.data_append])
  unfold BareT
  generalize (dSet kids).tx = l at HE hl ⊢
  generalize (((dSet kids).rk : Nat) : Int) = rk
  generalize commasX kids = S at HE HC hz
  clear hl
  have hz2 : ¬ 9223372036854775807 < 1 + S.length := by omega
  have hz3 : ¬ 9223372036854775807 < 1 + S.length + 1 := by omega
  clear hz
  go_enter Tryz.func61, Tryz.ntmps61
  go_wp2_with fail
  refine HC.out.mono ?_
  rintro e w1 ⟨rfl, hg⟩
  have G1 : Hid (Grew w w1) := hg
  clear hg c0 c8
  go_wp2_with fail
  go_ret
  exact ⟨congrArg (fun b => Ending.returned (Value.string b)) HE.out, G1.out⟩
set_option maxRecDepth 100000 in
set_option maxHeartbeats 1000000 in
theorem gbare_seq {N : Nat} (hP : PrT N) (P : Nat → Prop) (w : World) (be : Nat) (nm tx : ByteArray) (a k n : Int) (pa : Option Addr) (len cap : Nat) (kids : List PX) (he : XBlk w be ⟨#[115, 101, 113]⟩ a nm k n tx pa len cap) (hr : RowP P w (RepT P w N) pa len kids) (hl : (dSeq kids).tx.length ≤ 1000000000) : BareT w be (dSeq kids) := by
  have hz : 2 + (commasX kids).length + 2 ≤ 1000000000 := by simp [dSeq] at hl; omega
  have HC : Hid (Calls _ _ _ _ _) := gcommas_any hP P w pa len cap kids hr (by omega)
  have c0 := block_cell he 0
  have c8 := block_cell he 8
  have hb := block_lt he
  have mo := follows
  clear he hr hP
  have HE : Hid ((⟨#[60, 60]⟩ : ByteArray) ++ ⟨(commasX kids).toArray⟩ ++ ⟨#[62, 62]⟩ = ⟨(dSeq kids).tx.toArray⟩) := ByteArray.ext (by simp [dSeq, ByteArray.data_append])
  unfold BareT
  generalize (dSeq kids).tx = l at HE hl ⊢
  generalize (((dSeq kids).rk : Nat) : Int) = rk
  generalize commasX kids = S at HE HC hz
  clear hl
  have hz2 : ¬ 9223372036854775807 < 2 + S.length := by omega
  have hz3 : ¬ 9223372036854775807 < 2 + S.length + 2 := by omega
  clear hz
  go_enter Tryz.func61, Tryz.ntmps61
  go_wp2_with fail
  refine HC.out.mono ?_
  rintro e w1 ⟨rfl, hg⟩
  have G1 : Hid (Grew w w1) := hg
  clear hg c0 c8
  go_wp2_with fail
  go_ret
  exact ⟨congrArg (fun b => Ending.returned (Value.string b)) HE.out, G1.out⟩
end Go.Proofs.YtjbekejcghjhbaaGreatDoor.Sx

namespace Go.Proofs.YtjbekejcghjhbaaGreatDoor.Sx
open Go.RowKit Go.Sort

set_option maxRecDepth 100000 in
set_option maxHeartbeats 2000000 in
theorem gbare_fun {N : Nat} (hP : PrT N) (P : Nat → Prop) (w : World) (be : Nat) (nm tx : ByteArray) (a k0 n : Int) (pa : Option Addr) (len cap : Nat) (kids : List PX) (he : XBlk w be ⟨#[102, 117, 110]⟩ a nm k0 n tx pa len cap) (hr : RowP P w (RepT P w N) pa len kids) (hl : (dFun kids).tx.length ≤ 1000000000) : BareT w be (dFun kids) := by
  have hz : 1 + (sepFrom pairS 0 (kids.map PX.tx)).length + 1 ≤ 1000000000 := by simp [dFun] at hl; omega
  have HP : Hid (PrT N) := hP
  have HR : Hid (RowP P w (RepT P w N) pa len kids) := hr
  have HX : Hid (XBlk w be ⟨#[102, 117, 110]⟩ a nm k0 n tx pa len cap) := he
  have HLE : Hid (∀ k, (sepsT pairS kids k).length ≤ 999999998) := fun k => Nat.le_trans (sepsT_le _ _ _) (by omega)
  have hlen := hr.1
  have h32 := hr.2.1
  have HLN : Hid (len = kids.length) := hlen
  have c0 := block_cell he 0
  have hb := block_lt he
  have mo := follows
  have HSS : Hid (sepsT pairS kids len = sepFrom pairS 0 (kids.map PX.tx)) := sepsT_all _ _ _ (by omega)
  have HE : Hid ((⟨#[91]⟩ : ByteArray) ++ ⟨(sepFrom pairS 0 (kids.map PX.tx)).toArray⟩ ++ ⟨#[93]⟩ = ⟨(dFun kids).tx.toArray⟩) := ByteArray.ext (by simp [dFun, ByteArray.data_append])
  unfold BareT
  generalize (dFun kids).tx = l at HE hl ⊢
  generalize (((dFun kids).rk : Nat) : Int) = rk
  generalize sepFrom pairS 0 (kids.map PX.tx) = S at HE HSS hz
  have hz2 : ¬ 9223372036854775807 < 1 + S.length := by omega
  have hz3 : ¬ 9223372036854775807 < 1 + S.length + 1 := by omega
  clear hl hz hP hr hlen he
  go_enter Tryz.func61, Tryz.ntmps61
  go_wp2_with fail
  go_loopw [8, 9] (fun s8 i wr => ∃ k : Nat, k ≤ len ∧ i = .int .i64 (k : Int) ∧ s8 = .string ⟨(sepsT pairS kids k).toArray⟩ ∧ Hid (Grew w wr)) (fun _ i _ => len - (intOf i).toNat)
  case atStart => exact ⟨0, Nat.zero_le _, rfl, by simp [sepsT, sepFrom], Grew.refl _⟩
  case round =>
    clear c0
    obtain ⟨k, hk, rfl, rfl, HG⟩ := hrel
    have e8 := block_cell (HX.out.grew HG.out) 8
    have hbw := block_lt (HX.out.grew HG.out)
    by_cases hlt : k < len
    · obtain ⟨x, hx⟩ : ∃ x, kids[k]? = some x := ⟨_, List.getElem?_eq_getElem (by have := HLN.out; omega)⟩
      obtain ⟨-, -, hz | ⟨g, off, rfl, hg, -, hc⟩⟩ := rowT_grew HR.out HG.out
      · omega
      obtain ⟨v, hv, hrep⟩ := hc k x hx
      have hsu := sepsT_succ pairS kids k x hx
      have hl1 := HLE.out (k + 1)
      have hl0 := HLE.out k
      rw [hsu] at hl1
      simp only [List.length_append] at hl1
      have HC : Hid (Calls _ _ _ _ _) := HP.out P wr x v 0 hrep (by omega) (by omega)
      rw [part0] at HC
      have HSU : Hid (sepsT pairS kids (k + 1) = sepsT pairS kids k ++ (pairS k ++ x.tx)) := hsu
      obtain ⟨t, ht⟩ : ∃ t, x.tx = t := ⟨_, rfl⟩
      obtain ⟨s, hs⟩ : ∃ s, sepsT pairS kids k = s := ⟨_, rfl⟩
      rw [ht] at HC HSU hl1
      rw [hs] at HSU hl1 hl0 ⊢
      clear hx hc hrep hsu ht hs
      by_cases hk1 : k % 2 = 1
      · have e0 : pairS k = [58, 32] := by unfold pairS; rw [if_pos hk1]
        rw [e0] at HSU hl1
        simp only [List.length_cons, List.length_nil] at hl1
        have hs1 : ¬ 9223372036854775807 < s.length + 2 := by omega
        have hs2 : ¬ 9223372036854775807 < s.length + 2 + t.length := by omega
        have hk' : (0 : Int) < (k : Int) := by omega
        have hm : (k : Int) % 2 = 1 := by omega
        clear e0
        go_wp2_with fail
        refine HC.out.mono ?_
        rintro e w1 ⟨rfl, hg1⟩
        have G1 : Hid (Grew w w1) := HG.out.trans hg1
        clear hg1 e8
        go_wp2_with fail
        go_roundw
        case rel => exact ⟨k + 1, by omega, by go_num, by show Value.string ((⟨s.toArray⟩ ++ ⟨[58, 32].toArray⟩) ++ ⟨t.toArray⟩) = _; rw [catC, catC, HSU.out, List.append_assoc], G1⟩
        case measure => simp [intOf]; omega
      · by_cases hk0 : k = 0
        · subst hk0
          rw [Nat.add_zero] at hv
          have e0 : pairS 0 = [] := rfl
          rw [e0] at HSU hl1
          simp only [List.length_nil] at hl1
          have hs1 : ¬ 9223372036854775807 < s.length + t.length := by omega
          clear e0 hk1
          go_wp2_with fail
          refine HC.out.mono ?_
          rintro e w1 ⟨rfl, hg1⟩
          have G1 : Hid (Grew w w1) := HG.out.trans hg1
          clear hg1 e8
          go_wp2_with fail
          go_roundw
          case rel => exact ⟨1, by omega, by go_num, by show Value.string (_ ++ _) = _; rw [catC, HSU.out]; rfl, G1⟩
          case measure => simp [intOf]; omega
        · have e0 : pairS k = [44, 32] := by unfold pairS; rw [if_neg hk1, if_neg hk0]
          rw [e0] at HSU hl1
          simp only [List.length_cons, List.length_nil] at hl1
          have hs1 : ¬ 9223372036854775807 < s.length + 2 := by omega
          have hs2 : ¬ 9223372036854775807 < s.length + 2 + t.length := by omega
          have hk' : (0 : Int) < (k : Int) := by omega
          have hm : (k : Int) % 2 = 0 := by omega
          clear e0 hk1 hk0
          go_wp2_with fail
          refine HC.out.mono ?_
          rintro e w1 ⟨rfl, hg1⟩
          have G1 : Hid (Grew w w1) := HG.out.trans hg1
          clear hg1 e8
          go_wp2_with fail
          go_roundw
          case rel => exact ⟨k + 1, by omega, by go_num, by show Value.string ((⟨s.toArray⟩ ++ ⟨[44, 32].toArray⟩) ++ ⟨t.toArray⟩) = _; rw [catC, catC, HSU.out, List.append_assoc], G1⟩
          case measure => simp [intOf]; omega
    · obtain rfl : k = len := by omega
      rw [HSS.out]
      go_wp2_with fail
      go_ret
      exact ⟨congrArg (fun b => Ending.returned (Value.string b)) HE.out, HG.out⟩
end Go.Proofs.YtjbekejcghjhbaaGreatDoor.Sx
