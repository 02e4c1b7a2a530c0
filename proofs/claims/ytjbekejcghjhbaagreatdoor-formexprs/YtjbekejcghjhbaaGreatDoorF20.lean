/- The writer: operators that are written in their own way. -/
import Derived.Test.YtjbekejcghjhbaaGreatDoorF19
namespace Go.Proofs.YtjbekejcghjhbaaGreatDoor.Sx
open Go.RowKit Go.Sort
attribute [local go_sem] grip_rank

def minusT (x : PX) : List UInt8 := [45] ++ partX x 12
theorem lit_of {op : ByteArray} {l : List UInt8} (h : op.data.toList = l) : op = ⟨l.toArray⟩ := ByteArray.ext (by rw [← h])
theorem fjoining_no (op : ByteArray) (w : World) (h : levelF op.data.toList = 0) : Calls Tryz.prog 151 #[.string op] w fun e w' => e = .returned (.agg #[.int .i64 (-1), .int .i64 0, .int .i64 0]) ∧ Grew w w' := by
  have := fjoining_any op w
  unfold gripV at this
  rw [if_pos h] at this
  exact this
set_option maxRecDepth 100000 in
set_option maxHeartbeats 1000000 in
theorem woperator_set {n : Nat} (hW : WrE n) (B b be sort at' len cap : Nat) (l : List UInt8) (w : World) (op nm : ByteArray) (i : Int) (pa : Option Addr) (kids : List PX) (he : EBlk w be sort op nm i at' pa len cap) (hr : RowP (· < B) w (RepE (· < B) w n) pa len kids) (hB : Bld B b l w) (hop : op.data.toList = [115, 101, 116])
    (hlen : l.length + ((dSet kids).tx).length ≤ 140737488355328) :
    Calls Tryz.prog 100 #[.pointer (some ⟨b, 0, none⟩), .pointer (some ⟨be, 0, none⟩)] w (WrotePost B b l ((dSet kids).tx) w) := by
  obtain rfl : op = ⟨#[115, 101, 116]⟩ := lit_of hop
  have HE : Hid (EBlk w be sort _ nm i at' pa len cap) := he
  have HW : Hid (WrE n) := hW
  have W0 : Hid (Wrote B b l ([] : List UInt8) w w) := Wrote.nil hB
  have HL : Hid (l.length + ((dSet kids).tx).length ≤ 140737488355328) := hlen
  have HR : Hid (RowP (· < B) w (RepE (· < B) w n) pa len kids) := hr
  have HJ : Hid (Calls _ _ _ _ _) := fjoining_no ⟨#[115, 101, 116]⟩ w rfl
  have mo := follows
  clear he hW hB hr hlen hop
  go_enter Tryz.func100, Tryz.ntmps100
  have c1 := block_cell HE.out 1
  have c5 := block_cell HE.out 5
  have V0A : Hid (∀ w2 : World, Grew w w2 → Wrote B b l ([] : List UInt8) w (w2.alloc (.cells #[.int .i64 (-1), .int .i64 0, .int .i64 0] 204))) := fun w2 hg => W0.out.grew (hg.alloc _)
  have hbl := block_lt HE.out
  go_wp2_with (go_at_call 151; refine HJ.out.mono ?_; rintro e w2 ⟨rfl, hg⟩; have V0 : Hid (Wrote B b l ([] : List UInt8) w (w2.alloc (.cells #[.int .i64 (-1), .int .i64 0, .int .i64 0] 204))) := V0A.out w2 hg; have g1 := block_cell (HE.out.of (P := fun _ => True) (Fr.grew hg) trivial) 1; have g5 := block_cell (HE.out.of (P := fun _ => True) (Fr.grew hg) trivial) 5; have hbl2 := block_lt (HE.out.of (P := fun _ => True) (Fr.grew hg) trivial); clear hg)
  have e1 : (⟨#[123]⟩ : ByteArray).data.toList ++ (commasX kids ++ (⟨#[125]⟩ : ByteArray).data.toList) = (dSet kids).tx := rfl
  have HC := wlist_any HW.out B b (l ++ []) _ ⟨#[123]⟩ ⟨#[125]⟩ pa len cap kids (HR.out.kp V0.out.kp) V0.out.1 (by rw [e1, List.append_nil]; exact HL.out)
  rw [e1] at HC
  refine HC.mono ?_
  rintro e v1 ⟨rfl, hw⟩
  have V1 : Hid (Wrote B b l (dSet kids).tx w v1) := V0.out.put hw rfl
  clear hw HC e1 V0
  go_wp2_with fail
  go_end0
  exact ⟨rfl, V1.out⟩
set_option maxRecDepth 100000 in
set_option maxHeartbeats 1000000 in
theorem woperator_seq {n : Nat} (hW : WrE n) (B b be sort at' len cap : Nat) (l : List UInt8) (w : World) (op nm : ByteArray) (i : Int) (pa : Option Addr) (kids : List PX) (he : EBlk w be sort op nm i at' pa len cap) (hr : RowP (· < B) w (RepE (· < B) w n) pa len kids) (hB : Bld B b l w) (hop : op.data.toList = [115, 101, 113])
    (hlen : l.length + ((dSeq kids).tx).length ≤ 140737488355328) :
    Calls Tryz.prog 100 #[.pointer (some ⟨b, 0, none⟩), .pointer (some ⟨be, 0, none⟩)] w (WrotePost B b l ((dSeq kids).tx) w) := by
  obtain rfl : op = ⟨#[115, 101, 113]⟩ := lit_of hop
  have HE : Hid (EBlk w be sort _ nm i at' pa len cap) := he
  have HW : Hid (WrE n) := hW
  have W0 : Hid (Wrote B b l ([] : List UInt8) w w) := Wrote.nil hB
  have HL : Hid (l.length + ((dSeq kids).tx).length ≤ 140737488355328) := hlen
  have HR : Hid (RowP (· < B) w (RepE (· < B) w n) pa len kids) := hr
  have HJ : Hid (Calls _ _ _ _ _) := fjoining_no ⟨#[115, 101, 113]⟩ w rfl
  have mo := follows
  clear he hW hB hr hlen hop
  go_enter Tryz.func100, Tryz.ntmps100
  have c1 := block_cell HE.out 1
  have c5 := block_cell HE.out 5
  have V0A : Hid (∀ w2 : World, Grew w w2 → Wrote B b l ([] : List UInt8) w (w2.alloc (.cells #[.int .i64 (-1), .int .i64 0, .int .i64 0] 204))) := fun w2 hg => W0.out.grew (hg.alloc _)
  have hbl := block_lt HE.out
  go_wp2_with (go_at_call 151; refine HJ.out.mono ?_; rintro e w2 ⟨rfl, hg⟩; have V0 : Hid (Wrote B b l ([] : List UInt8) w (w2.alloc (.cells #[.int .i64 (-1), .int .i64 0, .int .i64 0] 204))) := V0A.out w2 hg; have g1 := block_cell (HE.out.of (P := fun _ => True) (Fr.grew hg) trivial) 1; have g5 := block_cell (HE.out.of (P := fun _ => True) (Fr.grew hg) trivial) 5; have hbl2 := block_lt (HE.out.of (P := fun _ => True) (Fr.grew hg) trivial); clear hg)
  have e1 : (⟨#[60, 60]⟩ : ByteArray).data.toList ++ (commasX kids ++ (⟨#[62, 62]⟩ : ByteArray).data.toList) = (dSeq kids).tx := rfl
  have HC := wlist_any HW.out B b (l ++ []) _ ⟨#[60, 60]⟩ ⟨#[62, 62]⟩ pa len cap kids (HR.out.kp V0.out.kp) V0.out.1 (by rw [e1, List.append_nil]; exact HL.out)
  rw [e1] at HC
  refine HC.mono ?_
  rintro e v1 ⟨rfl, hw⟩
  have V1 : Hid (Wrote B b l (dSeq kids).tx w v1) := V0.out.put hw rfl
  clear hw HC e1 V0
  go_wp2_with fail
  go_end0
  exact ⟨rfl, V1.out⟩
set_option maxRecDepth 100000 in
set_option maxHeartbeats 1000000 in
theorem woperator_fun {n : Nat} (hW : WrE n) (B b be sort at' len cap : Nat) (l : List UInt8) (w : World) (op nm : ByteArray) (i : Int) (pa : Option Addr) (kids : List PX) (he : EBlk w be sort op nm i at' pa len cap) (hr : RowP (· < B) w (RepE (· < B) w n) pa len kids) (hB : Bld B b l w) (hop : op.data.toList = [102, 117, 110])
    (hlen : l.length + ((dFun kids).tx).length ≤ 140737488355328) :
    Calls Tryz.prog 100 #[.pointer (some ⟨b, 0, none⟩), .pointer (some ⟨be, 0, none⟩)] w (WrotePost B b l ((dFun kids).tx) w) := by
  obtain rfl : op = ⟨#[102, 117, 110]⟩ := lit_of hop
  have HE : Hid (EBlk w be sort _ nm i at' pa len cap) := he
  have HW : Hid (WrE n) := hW
  have W0 : Hid (Wrote B b l ([] : List UInt8) w w) := Wrote.nil hB
  have HL : Hid (l.length + ((dFun kids).tx).length ≤ 140737488355328) := hlen
  have HR : Hid (RowP (· < B) w (RepE (· < B) w n) pa len kids) := hr
  have HJ : Hid (Calls _ _ _ _ _) := fjoining_no ⟨#[102, 117, 110]⟩ w rfl
  have mo := follows
  clear he hW hB hr hlen hop
  go_enter Tryz.func100, Tryz.ntmps100
  have c1 := block_cell HE.out 1
  have c5 := block_cell HE.out 5
  have V0A : Hid (∀ w2 : World, Grew w w2 → Wrote B b l ([] : List UInt8) w (w2.alloc (.cells #[.int .i64 (-1), .int .i64 0, .int .i64 0] 204))) := fun w2 hg => W0.out.grew (hg.alloc _)
  have hbl := block_lt HE.out
  go_wp2_with (go_at_call 151; refine HJ.out.mono ?_; rintro e w2 ⟨rfl, hg⟩; have V0 : Hid (Wrote B b l ([] : List UInt8) w (w2.alloc (.cells #[.int .i64 (-1), .int .i64 0, .int .i64 0] 204))) := V0A.out w2 hg; have g1 := block_cell (HE.out.of (P := fun _ => True) (Fr.grew hg) trivial) 1; have g5 := block_cell (HE.out.of (P := fun _ => True) (Fr.grew hg) trivial) 5; have hbl2 := block_lt (HE.out.of (P := fun _ => True) (Fr.grew hg) trivial); clear hg)
  refine (wfunction_any HW.out B b (l ++ []) _ pa len cap kids (HR.out.kp V0.out.kp) V0.out.1 (by rw [List.append_nil]; exact HL.out)).mono ?_
  rintro e v1 ⟨rfl, hw⟩
  have V1 : Hid (Wrote B b l (dFun kids).tx w v1) := V0.out.put hw rfl
  clear hw V0
  go_wp2_with fail
  go_end0
  exact ⟨rfl, V1.out⟩
set_option maxRecDepth 100000 in
set_option maxHeartbeats 1000000 in
theorem woperator_put {n : Nat} (hW : WrE n) (B b be sort at' len cap : Nat) (l : List UInt8) (w : World) (op nm : ByteArray) (i : Int) (pa : Option Addr) (ka kb kc : PX) (he : EBlk w be sort op nm i at' pa len cap) (hbe : be < B) (hr : RowP (· < B) w (RepE (· < B) w n) pa len [ka, kb, kc]) (hB : Bld B b l w) (hop : op.data.toList = [112, 117, 116])
    (hlen : l.length + ((dPut ka kb kc).tx).length ≤ 140737488355328) :
    Calls Tryz.prog 100 #[.pointer (some ⟨b, 0, none⟩), .pointer (some ⟨be, 0, none⟩)] w (WrotePost B b l ((dPut ka kb kc).tx) w) := by
  obtain rfl : op = ⟨#[112, 117, 116]⟩ := lit_of hop
  have HE : Hid (EBlk w be sort _ nm i at' pa len cap) := he
  have HJ : Hid (Calls _ _ _ _ _) := fjoining_no ⟨#[112, 117, 116]⟩ w rfl
  have HW : Hid (WrE n) := hW
  have HB : Hid (Bld B b l w) := hB
  have W0 : Hid (Wrote B b l ([] : List UInt8) w w) := Wrote.nil hB
  have mo := follows
  have HL : Hid (l.length + ((dPut ka kb kc).tx).length ≤ 140737488355328) := hlen
  obtain ⟨rfl, pb, off, hpa, hpB, hpl, x0, q0, r0, x1, q1, r1, x2, q2, r2⟩ := row3 hr
  subst hpa
  have HX0 : Hid (RepE (· < B) w n _ _) := r0
  have HY0 : Hid (∀ W, Kp B b w W → W.cell? ⟨pb, off, none⟩ = some (.pointer (some ⟨x0, 0, none⟩))) := fun W k => (World.cell?_of_block (w := w) (k.1.block pb hpB)).trans q0
  have HX1 : Hid (RepE (· < B) w n _ _) := r1
  have HY1 : Hid (∀ W, Kp B b w W → W.cell? ⟨pb, off + 1, none⟩ = some (.pointer (some ⟨x1, 0, none⟩))) := fun W k => (World.cell?_of_block (w := w) (k.1.block pb hpB)).trans q1
  have HX2 : Hid (RepE (· < B) w n _ _) := r2
  have HY2 : Hid (∀ W, Kp B b w W → W.cell? ⟨pb, off + 2, none⟩ = some (.pointer (some ⟨x2, 0, none⟩))) := fun W k => (World.cell?_of_block (w := w) (k.1.block pb hpB)).trans q2
  clear q0 r0 q1 r1 q2 r2
  clear he hW hB hr hlen hop
  simp only [dPut] at HL ⊢
  go_enter Tryz.func100, Tryz.ntmps100
  have c1 := block_cell HE.out 1
  have c5 := block_cell HE.out 5
  have y0 := HY0.out _ W0.out.kp
  have y1 := HY1.out _ W0.out.kp
  have y2 := HY2.out _ W0.out.kp
  have V0A : Hid (∀ w2 : World, Grew w w2 → Wrote B b l ([] : List UInt8) w (w2.alloc (.cells #[.int .i64 (-1), .int .i64 0, .int .i64 0] 204))) := fun w2 hg => W0.out.grew (hg.alloc _)
  have hbl := block_lt HE.out
  go_wp2_with (go_at_call 151; refine HJ.out.mono ?_; rintro e w2 ⟨rfl, hg⟩; have V0 : Hid (Wrote B b l ([] : List UInt8) w (w2.alloc (.cells #[.int .i64 (-1), .int .i64 0, .int .i64 0] 204))) := V0A.out w2 hg; have g1 := block_cell (HE.out.of (P := fun _ => True) (Fr.grew hg) trivial) 1; have g5 := block_cell (HE.out.of (P := fun _ => True) (Fr.grew hg) trivial) 5; have hbl2 := block_lt (HE.out.of (P := fun _ => True) (Fr.grew hg) trivial); have gy0 := HY0.out _ (Kp.grew hg HB.out.low); have hy0 := HY0.out _ V0.out.kp; have gy1 := HY1.out _ (Kp.grew hg HB.out.low); have hy1 := HY1.out _ V0.out.kp; have gy2 := HY2.out _ (Kp.grew hg HB.out.low); have hy2 := HY2.out _ V0.out.kp; have hpl2 : pb < w2.heap.size := Nat.lt_of_lt_of_le hpl hg.below.size; clear hg)
  clear c1 c5 y0 y1 y2 hbl g1 g5 hbl2 hpl2 gy0 hy0 gy1 hy1 gy2 hy2
  refine (wpart_any HW.out B b _ _ ka _ 13 (HX0.out.kp V0.out.kp) V0.out.1 (by have hL := HL.out; simp only [List.length_append, List.length_cons, List.length_nil] at hL ⊢; omega)).mono ?_
  rintro e v1 ⟨rfl, hw⟩
  have V1 : Hid (Wrote B b l (([] : List UInt8) ++ partX ka 13) w v1) := V0.out.put hw rfl
  clear hw
  have c1 := block_cell (HE.out.kp V1.out.kp hbe) 1
  have c5 := block_cell (HE.out.kp V1.out.kp hbe) 5
  have y0 := HY0.out _ V1.out.kp
  have y1 := HY1.out _ V1.out.kp
  have y2 := HY2.out _ V1.out.kp
  go_wp2_with fail
  clear c1 c5 y0 y1 y2
  refine (put_call B b _ v1 _ [⟨#[91]⟩] 1 [91] rfl rfl (by decide) (by simp [catB]) V1.out.1 (by have hL := HL.out; simp only [List.length_append, List.length_cons, List.length_nil] at hL ⊢; omega)).mono ?_
  rintro e v2 ⟨rfl, hw⟩
  have V2 : Hid (Wrote B b l ((([] : List UInt8) ++ partX ka 13) ++ [91]) w v2) := V1.out.put hw rfl
  clear hw
  have c1 := block_cell (HE.out.kp V2.out.kp hbe) 1
  have c5 := block_cell (HE.out.kp V2.out.kp hbe) 5
  have y0 := HY0.out _ V2.out.kp
  have y1 := HY1.out _ V2.out.kp
  have y2 := HY2.out _ V2.out.kp
  go_wp2_with fail
  clear c1 c5 y0 y1 y2
  refine (HW.out B b _ v2 kb _ (HX1.out.kp V2.out.kp) V2.out.1 (by have hL := HL.out; simp only [List.length_append, List.length_cons, List.length_nil] at hL ⊢; omega)).mono ?_
  rintro e v3 ⟨rfl, hw⟩
  have V3 : Hid (Wrote B b l (((([] : List UInt8) ++ partX ka 13) ++ [91]) ++ kb.tx) w v3) := V2.out.put hw rfl
  clear hw
  have c1 := block_cell (HE.out.kp V3.out.kp hbe) 1
  have c5 := block_cell (HE.out.kp V3.out.kp hbe) 5
  have y0 := HY0.out _ V3.out.kp
  have y1 := HY1.out _ V3.out.kp
  have y2 := HY2.out _ V3.out.kp
  go_wp2_with fail
  clear c1 c5 y0 y1 y2
  refine (put_call B b _ v3 _ [⟨#[32, 58, 61, 32]⟩] 1 [32, 58, 61, 32] rfl rfl (by decide) (by simp [catB]) V3.out.1 (by have hL := HL.out; simp only [List.length_append, List.length_cons, List.length_nil] at hL ⊢; omega)).mono ?_
  rintro e v4 ⟨rfl, hw⟩
  have V4 : Hid (Wrote B b l ((((([] : List UInt8) ++ partX ka 13) ++ [91]) ++ kb.tx) ++ [32, 58, 61, 32]) w v4) := V3.out.put hw rfl
  clear hw
  have c1 := block_cell (HE.out.kp V4.out.kp hbe) 1
  have c5 := block_cell (HE.out.kp V4.out.kp hbe) 5
  have y0 := HY0.out _ V4.out.kp
  have y1 := HY1.out _ V4.out.kp
  have y2 := HY2.out _ V4.out.kp
  go_wp2_with fail
  clear c1 c5 y0 y1 y2
  refine (HW.out B b _ v4 kc _ (HX2.out.kp V4.out.kp) V4.out.1 (by have hL := HL.out; simp only [List.length_append, List.length_cons, List.length_nil] at hL ⊢; omega)).mono ?_
  rintro e v5 ⟨rfl, hw⟩
  have V5 : Hid (Wrote B b l (((((([] : List UInt8) ++ partX ka 13) ++ [91]) ++ kb.tx) ++ [32, 58, 61, 32]) ++ kc.tx) w v5) := V4.out.put hw rfl
  clear hw
  have c1 := block_cell (HE.out.kp V5.out.kp hbe) 1
  have c5 := block_cell (HE.out.kp V5.out.kp hbe) 5
  have y0 := HY0.out _ V5.out.kp
  have y1 := HY1.out _ V5.out.kp
  have y2 := HY2.out _ V5.out.kp
  go_wp2_with fail
  clear c1 c5 y0 y1 y2
  refine (put_call B b _ v5 _ [⟨#[93]⟩] 1 [93] rfl rfl (by decide) (by simp [catB]) V5.out.1 (by have hL := HL.out; simp only [List.length_append, List.length_cons, List.length_nil] at hL ⊢; omega)).mono ?_
  rintro e v6 ⟨rfl, hw⟩
  have V6 : Hid (Wrote B b l ((((((([] : List UInt8) ++ partX ka 13) ++ [91]) ++ kb.tx) ++ [32, 58, 61, 32]) ++ kc.tx) ++ [93]) w v6) := V5.out.put hw rfl
  clear hw
  go_wp2_with fail
  go_end0
  exact ⟨rfl, by have h := V6.out; simpa using h⟩
set_option maxRecDepth 100000 in
set_option maxHeartbeats 1000000 in
theorem woperator_neg {n : Nat} (hW : WrE n) (B b be sort at' len cap : Nat) (l : List UInt8) (w : World) (op nm : ByteArray) (i : Int) (pa : Option Addr) (ka : PX) (he : EBlk w be sort op nm i at' pa len cap) (hbe : be < B) (hr : RowP (· < B) w (RepE (· < B) w n) pa len [ka]) (hB : Bld B b l w) (hop : op.data.toList = [110, 101, 103])
    (hlen : l.length + (minusT ka).length ≤ 140737488355328) :
    Calls Tryz.prog 100 #[.pointer (some ⟨b, 0, none⟩), .pointer (some ⟨be, 0, none⟩)] w (WrotePost B b l (minusT ka) w) := by
  obtain rfl : op = ⟨#[110, 101, 103]⟩ := lit_of hop
  have HE : Hid (EBlk w be sort _ nm i at' pa len cap) := he
  have HJ : Hid (Calls _ _ _ _ _) := fjoining_no ⟨#[110, 101, 103]⟩ w rfl
  have HW : Hid (WrE n) := hW
  have HB : Hid (Bld B b l w) := hB
  have W0 : Hid (Wrote B b l ([] : List UInt8) w w) := Wrote.nil hB
  have mo := follows
  have HL : Hid (l.length + (minusT ka).length ≤ 140737488355328) := hlen
  obtain ⟨rfl, pb, off, hpa, hpB, hpl, x0, q0, r0⟩ := row1 hr
  subst hpa
  have HX0 : Hid (RepE (· < B) w n _ _) := r0
  have HY0 : Hid (∀ W, Kp B b w W → W.cell? ⟨pb, off, none⟩ = some (.pointer (some ⟨x0, 0, none⟩))) := fun W k => (World.cell?_of_block (w := w) (k.1.block pb hpB)).trans q0
  clear q0 r0
  clear he hW hB hr hlen hop
  simp only [minusT] at HL ⊢
  go_enter Tryz.func100, Tryz.ntmps100
  have c1 := block_cell HE.out 1
  have c5 := block_cell HE.out 5
  have y0 := HY0.out _ W0.out.kp
  have V0A : Hid (∀ w2 : World, Grew w w2 → Wrote B b l ([] : List UInt8) w (w2.alloc (.cells #[.int .i64 (-1), .int .i64 0, .int .i64 0] 204))) := fun w2 hg => W0.out.grew (hg.alloc _)
  have hbl := block_lt HE.out
  go_wp2_with (go_at_call 151; refine HJ.out.mono ?_; rintro e w2 ⟨rfl, hg⟩; have V0 : Hid (Wrote B b l ([] : List UInt8) w (w2.alloc (.cells #[.int .i64 (-1), .int .i64 0, .int .i64 0] 204))) := V0A.out w2 hg; have g1 := block_cell (HE.out.of (P := fun _ => True) (Fr.grew hg) trivial) 1; have g5 := block_cell (HE.out.of (P := fun _ => True) (Fr.grew hg) trivial) 5; have hbl2 := block_lt (HE.out.of (P := fun _ => True) (Fr.grew hg) trivial); have gy0 := HY0.out _ (Kp.grew hg HB.out.low); have hy0 := HY0.out _ V0.out.kp; have hpl2 : pb < w2.heap.size := Nat.lt_of_lt_of_le hpl hg.below.size; clear hg)
  clear c1 c5 y0 hbl g1 g5 hbl2 hpl2 gy0 hy0
  have hsz : (w2.alloc (.cells #[.int .i64 (-1), .int .i64 0, .int .i64 0] 204)).heap.size = w2.heap.size + 1 := by simp
  rw [← hsz]
  clear hsz
  generalize w2.alloc (.cells #[.int .i64 (-1), .int .i64 0, .int .i64 0] 204) = v0 at V0 ⊢
  refine (put_call B b _ v0 _ [⟨#[45]⟩] 1 [45] rfl rfl (by decide) (by simp [catB]) V0.out.1 (by have hL := HL.out; simp only [List.length_append, List.length_cons, List.length_nil] at hL ⊢; omega)).mono ?_
  rintro e v1 ⟨rfl, hw⟩
  have V1 : Hid (Wrote B b l (([] : List UInt8) ++ [45]) w v1) := V0.out.put hw rfl
  clear hw
  have c1 := block_cell (HE.out.kp V1.out.kp hbe) 1
  have c5 := block_cell (HE.out.kp V1.out.kp hbe) 5
  have y0 := HY0.out _ V1.out.kp
  go_wp2_with fail
  clear c1 c5 y0
  refine (wpart_any HW.out B b _ v1 ka _ 12 (HX0.out.kp V1.out.kp) V1.out.1 (by have hL := HL.out; simp only [List.length_append, List.length_cons, List.length_nil] at hL ⊢; omega)).mono ?_
  rintro e v2 ⟨rfl, hw⟩
  have V2 : Hid (Wrote B b l ((([] : List UInt8) ++ [45]) ++ partX ka 12) w v2) := V1.out.put hw rfl
  clear hw
  go_wp2_with fail
  go_end0
  exact ⟨rfl, by have h := V2.out; simpa using h⟩
set_option maxRecDepth 100000 in
set_option maxHeartbeats 1000000 in
theorem woperator_at {n : Nat} (hW : WrE n) (B b be sort at' len cap : Nat) (l : List UInt8) (w : World) (op nm : ByteArray) (i : Int) (pa : Option Addr) (ka kb : PX) (he : EBlk w be sort op nm i at' pa len cap) (hbe : be < B) (hr : RowP (· < B) w (RepE (· < B) w n) pa len [ka, kb]) (hB : Bld B b l w) (hop : op.data.toList = [97, 116])
    (hlen : l.length + ((dAt ka kb).tx).length ≤ 140737488355328) :
    Calls Tryz.prog 100 #[.pointer (some ⟨b, 0, none⟩), .pointer (some ⟨be, 0, none⟩)] w (WrotePost B b l ((dAt ka kb).tx) w) := by
  obtain rfl : op = ⟨#[97, 116]⟩ := lit_of hop
  have HE : Hid (EBlk w be sort _ nm i at' pa len cap) := he
  have HJ : Hid (Calls _ _ _ _ _) := fjoining_no ⟨#[97, 116]⟩ w rfl
  have HW : Hid (WrE n) := hW
  have HB : Hid (Bld B b l w) := hB
  have W0 : Hid (Wrote B b l ([] : List UInt8) w w) := Wrote.nil hB
  have mo := follows
  have HL : Hid (l.length + ((dAt ka kb).tx).length ≤ 140737488355328) := hlen
  obtain ⟨rfl, pb, off, hpa, hpB, hpl, x0, q0, r0, x1, q1, r1⟩ := row2 hr
  subst hpa
  have HX0 : Hid (RepE (· < B) w n _ _) := r0
  have HY0 : Hid (∀ W, Kp B b w W → W.cell? ⟨pb, off, none⟩ = some (.pointer (some ⟨x0, 0, none⟩))) := fun W k => (World.cell?_of_block (w := w) (k.1.block pb hpB)).trans q0
  have HX1 : Hid (RepE (· < B) w n _ _) := r1
  have HY1 : Hid (∀ W, Kp B b w W → W.cell? ⟨pb, off + 1, none⟩ = some (.pointer (some ⟨x1, 0, none⟩))) := fun W k => (World.cell?_of_block (w := w) (k.1.block pb hpB)).trans q1
  clear q0 r0 q1 r1
  clear he hW hB hr hlen hop
  go_enter Tryz.func100, Tryz.ntmps100
  have c1 := block_cell HE.out 1
  have c5 := block_cell HE.out 5
  have y0 := HY0.out _ W0.out.kp
  have y1 := HY1.out _ W0.out.kp
  have V0A : Hid (∀ w2 : World, Grew w w2 → Wrote B b l ([] : List UInt8) w (w2.alloc (.cells #[.int .i64 (-1), .int .i64 0, .int .i64 0] 204))) := fun w2 hg => W0.out.grew (hg.alloc _)
  have hbl := block_lt HE.out
  go_wp2_with (go_at_call 151; refine HJ.out.mono ?_; rintro e w2 ⟨rfl, hg⟩; have V0 : Hid (Wrote B b l ([] : List UInt8) w (w2.alloc (.cells #[.int .i64 (-1), .int .i64 0, .int .i64 0] 204))) := V0A.out w2 hg; have g1 := block_cell (HE.out.of (P := fun _ => True) (Fr.grew hg) trivial) 1; have g5 := block_cell (HE.out.of (P := fun _ => True) (Fr.grew hg) trivial) 5; have hbl2 := block_lt (HE.out.of (P := fun _ => True) (Fr.grew hg) trivial); have gy0 := HY0.out _ (Kp.grew hg HB.out.low); have hy0 := HY0.out _ V0.out.kp; have gy1 := HY1.out _ (Kp.grew hg HB.out.low); have hy1 := HY1.out _ V0.out.kp; have hpl2 : pb < w2.heap.size := Nat.lt_of_lt_of_le hpl hg.below.size; clear hg)
  clear c1 c5 y0 y1 hbl g1 g5 hbl2 hpl2 gy0 hy0 gy1 hy1
  generalize w2.alloc (.cells #[.int .i64 (-1), .int .i64 0, .int .i64 0] 204) = v0 at V0 ⊢
  have c5 := block_cell (HE.out.kp V0.out.kp hbe) 5
  have y0 := HY0.out _ V0.out.kp
  have y1 := HY1.out _ V0.out.kp
  have hbl0 := block_lt (HE.out.kp V0.out.kp hbe)
  have hpl0 : pb < v0.heap.size := Nat.lt_of_lt_of_le hpl V0.out.kp.1.size
  have WD : Hid (Wrote B b l ([] : List UInt8) w v0.drew) := V0.out.grew (Grew.refl _).drew
  go_region_held3 (fun w' => w'.cell? ⟨be, 5, none⟩ = some (.slice (some ⟨pb, off, none⟩) 2 cap) ∧ w'.cell? ⟨pb, off, none⟩ = some (.pointer (some ⟨x0, 0, none⟩)) ∧ w'.cell? ⟨pb, off + 1, none⟩ = some (.pointer (some ⟨x1, 0, none⟩))) (first | (refine ⟨?_, ?_, ?_⟩ <;> assumption) | go_keep)
      ((go_at_call 153; refine (wasked_any HW.out B b x0 x1 (l ++ []) v0.drew ka kb (HX0.out.kp WD.out.kp) (HX1.out.kp WD.out.kp) WD.out.1 (by rw [List.append_nil]; exact HL.out)).mono ?_; rintro e v1 ⟨rfl, hw⟩; have V1 : Hid (Wrote B b l (dAt ka kb).tx w v1) := WD.out.put hw rfl; have j5 := block_cell (HE.out.kp V1.out.kp hbe) 5; have jy0 := HY0.out _ V1.out.kp; have jy1 := HY1.out _ V1.out.kp; clear hw))
  go_wp2_with fail
  go_end0
  exact ⟨rfl, V1.out⟩
end Go.Proofs.YtjbekejcghjhbaaGreatDoor.Sx

namespace Go.Proofs.YtjbekejcghjhbaaGreatDoor.Sx
open Go.RowKit Go.Sort
attribute [local go_sem] grip_rank

def six : List (List UInt8) := [oSet, oSeq, oFun, oAt, oPut, oNeg]
set_option maxRecDepth 100000 in
set_option maxHeartbeats 1000000 in
theorem woperator_word (B b be sort at' len cap : Nat) (l T : List UInt8) (w : World) (op nm : ByteArray) (i : Int) (pa : Option Addr) (he : EBlk w be sort op nm i at' pa len cap) (hB : Bld B b l w) (h0 : levelF op.data.toList = 0) (h6 : op.data.toList ∉ six)
    (hC : ∀ W, Kp B b w W → Bld B b (l ++ []) W → Calls Tryz.prog 154 #[.pointer (some ⟨b, 0, none⟩), .pointer (some ⟨be, 0, none⟩)] W (WrotePost B b (l ++ []) T W)) :
    Calls Tryz.prog 100 #[.pointer (some ⟨b, 0, none⟩), .pointer (some ⟨be, 0, none⟩)] w (WrotePost B b l T w) := by
  have HE : Hid (EBlk w be sort op nm i at' pa len cap) := he
  have W0 : Hid (Wrote B b l ([] : List UInt8) w w) := Wrote.nil hB
  have HC : Hid (∀ W, Kp B b w W → Bld B b (l ++ []) W → _) := hC
  have HJ : Hid (Calls _ _ _ _ _) := fjoining_no op w h0
  have htl : op.toList = op.data.toList := ByteArray.toList_eq op
  simp only [six, List.mem_cons, List.not_mem_nil, or_false, not_or] at h6
  obtain ⟨n1, n2, n3, n4, n5, n6⟩ := h6
  have k1 : (op.toList == [115, 101, 116]) = false := by rw [htl]; simpa [oSet] using n1
  have k2 : (op.toList == [115, 101, 113]) = false := by rw [htl]; simpa [oSeq] using n2
  have k3 : (op.toList == [102, 117, 110]) = false := by rw [htl]; simpa [oFun] using n3
  have k4 : (op.toList == [97, 116]) = false := by rw [htl]; simpa [oAt] using n4
  have k5 : (op.toList == [112, 117, 116]) = false := by rw [htl]; simpa [oPut] using n5
  have k6 : (op.toList == [110, 101, 103]) = false := by rw [htl]; simpa [oNeg] using n6
  have hbl := block_lt he
  have c1 := block_cell he 1
  have mo := follows
  clear he hB h0 n1 n2 n3 n4 n5 n6 htl hC
  go_enter Tryz.func100, Tryz.ntmps100
  go_wp2_with (go_at_call 151; refine HJ.out.mono ?_; rintro e w2 ⟨rfl, hg⟩; have V0 : Hid (Wrote B b l ([] : List UInt8) w (w2.alloc (.cells #[.int .i64 (-1), .int .i64 0, .int .i64 0] 204))) := W0.out.grew (hg.alloc _); have g1 := block_cell (HE.out.of (P := fun _ => True) (Fr.grew hg) trivial) 1; have hbl2 := block_lt (HE.out.of (P := fun _ => True) (Fr.grew hg) trivial); clear hg)
  refine (HC.out _ V0.out.kp V0.out.1).mono ?_
  rintro e v1 ⟨rfl, hw⟩
  have V1 : Hid (Wrote B b l T w v1) := V0.out.put hw rfl
  clear hw V0
  go_wp2_with fail
  go_end0
  exact ⟨rfl, V1.out⟩
theorem word_facts {op : List UInt8} (h : op ∈ aheads6 ∨ op ∈ aheads12 ∨ op ∈ called7) : levelF op = 0 ∧ op ∉ six := by
  simp only [aheads6, aheads12, called7, List.mem_cons, List.not_mem_nil, or_false] at h
  rcases h with (rfl | rfl | rfl) | (rfl | rfl | rfl) | (rfl | rfl | rfl | rfl | rfl | rfl | rfl) <;> exact ⟨by decide, by decide⟩
theorem ahead_tx {op : List UInt8} {a : PX} {r : Nat} (h : op ∈ aheads6 ∨ op ∈ aheads12) : (dAhead r op a).tx = op ++ 32 :: partX a r := by
  have : op ≠ wNeg := by
    simp only [aheads6, aheads12, List.mem_cons, List.not_mem_nil, or_false] at h
    rcases h with (rfl | rfl | rfl) | (rfl | rfl | rfl) <;> decide
  unfold dAhead
  rw [if_neg this]
theorem woperator_any {n : Nat} (hW : WrE n) (B b be sort at' len cap : Nat) (l : List UInt8) (w : World) (op nm : ByteArray) (i : Int) (pa : Option Addr) (kids : List PX) (x : PX) (he : EBlk w be sort op nm i at' pa len cap) (hbe : be < B) (hr : RowP (· < B) w (RepE (· < B) w n) pa len kids) (hB : Bld B b l w) (hm : OpMeans op.data.toList kids x)
    (hlen : l.length + x.tx.length ≤ 140737488355328) :
    Calls Tryz.prog 100 #[.pointer (some ⟨b, 0, none⟩), .pointer (some ⟨be, 0, none⟩)] w (WrotePost B b l x.tx w) := by
  rcases hm with ⟨hj, ka, kb, rfl, rfl⟩ | ⟨ho, rfl⟩ | ⟨ho, rfl⟩ | ⟨ho, rfl⟩ | ⟨ho, f, k, rfl, rfl⟩ | ⟨ho, f, k, v, rfl, rfl⟩ | ⟨ho, a, rfl, rfl⟩ | ⟨ho, a, rfl, rfl⟩ | ⟨ho, a, rfl, rfl⟩ | ⟨ho, rfl⟩
  · have hj0 : levelF op.data.toList ≠ 0 := by
      simp only [joins, List.map_cons, List.map_nil, List.mem_cons, List.not_mem_nil, or_false] at hj
      rcases hj with h | h | h | h | h | h | h | h | h | h | h | h | h | h | h | h | h | h | h | h | h | h | h | h | h <;> rw [h] <;> decide
    exact woperator_join hW B b be sort at' len cap l w op nm i pa ka kb he hbe hr hB hj0 hlen
  · exact woperator_set hW B b be sort at' len cap l w op nm i pa kids he hr hB ho hlen
  · exact woperator_seq hW B b be sort at' len cap l w op nm i pa kids he hr hB ho hlen
  · exact woperator_fun hW B b be sort at' len cap l w op nm i pa kids he hr hB ho hlen
  · exact woperator_at hW B b be sort at' len cap l w op nm i pa f k he hbe hr hB ho hlen
  · exact woperator_put hW B b be sort at' len cap l w op nm i pa f k v he hbe hr hB ho hlen
  · exact woperator_neg hW B b be sort at' len cap l w op nm i pa a he hbe hr hB ho hlen
  · obtain ⟨h0, h6⟩ := word_facts (.inl ho)
    have hq : openF op.data.toList = 6 := by
      simp only [aheads6, List.mem_cons, List.not_mem_nil, or_false] at ho
      rcases ho with h | h | h <;> rw [h] <;> rfl
    rw [ahead_tx (.inl ho)] at hlen ⊢
    exact woperator_word B b be sort at' len cap l _ w op nm i pa he hB h0 h6 fun W k hb => wworded_one hW B b be sort at' len cap (l ++ []) W op nm i pa a (he.kp k hbe) hbe (hr.kp k) hb 6 hq (by decide) (by rw [List.append_nil]; exact hlen)
  · obtain ⟨h0, h6⟩ := word_facts (.inr (.inl ho))
    have hq : openF op.data.toList = 12 := by
      simp only [aheads12, List.mem_cons, List.not_mem_nil, or_false] at ho
      rcases ho with h | h | h <;> rw [h] <;> rfl
    rw [ahead_tx (.inr ho)] at hlen ⊢
    exact woperator_word B b be sort at' len cap l _ w op nm i pa he hB h0 h6 fun W k hb => wworded_one hW B b be sort at' len cap (l ++ []) W op nm i pa a (he.kp k hbe) hbe (hr.kp k) hb 12 hq (by decide) (by rw [List.append_nil]; exact hlen)
  · obtain ⟨h0, h6⟩ := word_facts (.inr (.inr ho))
    have hq : openF op.data.toList = 14 := by
      simp only [called7, List.mem_cons, List.not_mem_nil, or_false] at ho
      rcases ho with h | h | h | h | h | h | h <;> rw [h] <;> rfl
    exact woperator_word B b be sort at' len cap l _ w op nm i pa he hB h0 h6 fun W k hb => wworded_call hW B b be sort at' len cap (l ++ []) W op nm i pa kids (he.kp k hbe) (hr.kp k) hb hq (by rw [List.append_nil]; exact hlen)
end Go.Proofs.YtjbekejcghjhbaaGreatDoor.Sx
