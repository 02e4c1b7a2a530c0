/- What a bracket begins: round ones, sets, sequences; nothing of these. -/
import Derived.Test.YtjbekejcghjhbaaGreatDoorF13
import Derived.Lib.AtoiErrMem
import Derived.Deep.RegionLaw
namespace Go.Proofs.YtjbekejcghjhbaaGreatDoor.Sx
open Go.RowKit Go.Sort

set_option maxRecDepth 100000 in
set_option maxHeartbeats 2000000 in
theorem fbracket_par {br : Nat} {t : ByteArray} {self : Nat → Nat → Nat → RX PX} (hS : SelfOK br t self) (w : World) (d i m : Nat) (hd : d ≤ 24) (ht : t.size ≤ 4000) (hI : EnvF w br) (hr : RdF w br t i d) (ho : txF t.data.toList i = [40])
    (r : Except (Nat × Nat) (PX × Nat)) (h : bracketX (tkF t.data.toList) self m d i = some r) :
    Calls Tryz.prog 338 #[.pointer (some ⟨br, 0, none⟩)] w (PostE w br t d r) := by
  have HS : Hid (SelfOK br t self) := hS
  have HI : Hid (EnvF w br) := hI
  have HR : Hid (RdF w br t i d) := hr
  have hlb := block_lt hr
  have h1 := block_cell hr 1
  have HL : Hid (∀ (W : World) (k : Nat), _) := fun W k h => fleave_any W br t k d h hd
  clear hI hS hr
  have mo := follows
  have E1 : Hid (EBlk (w.alloc (.cells #[.int .i64 12, .string ⟨#[]⟩, .string ⟨#[]⟩, .int .i64 0, .int .i64 (atF t.data.toList i : Int), .slice none 0 0] 156)) w.heap.size 12 ⟨#[]⟩ ⟨#[]⟩ 0 (atF t.data.toList i) none 0 0) := heap_new rfl
  have F1 : Hid (Fr (· ≠ br) w (w.alloc (.cells #[.int .i64 12, .string ⟨#[]⟩, .string ⟨#[]⟩, .int .i64 0, .int .i64 (atF t.data.toList i : Int), .slice none 0 0] 156))) := (Fr.refl _ w).alloc _
  have R1 : Hid (RdF (w.alloc (.cells #[.int .i64 12, .string ⟨#[]⟩, .string ⟨#[]⟩, .int .i64 0, .int .i64 (atF t.data.toList i : Int), .slice none 0 0] 156)) br t i d) := RdF.of HR.out (P := fun _ => True) ((Fr.refl _ w).alloc _) trivial
  have hpl : (pcF t i).toList = txF t.data.toList i := by rw [ByteArray.toList_eq, pcF_list]
  have htx : (tkF t.data.toList i).tx = txF t.data.toList i := rfl
  unfold bracketX at h
  simp only [htx] at h
  go_enter Tryz.func338, Tryz.ntmps338
  go_upto_region 2 with fail
  clear h1 HR
  generalize (w.alloc (.cells #[.int .i64 12, .string ⟨#[]⟩, .string ⟨#[]⟩, .int .i64 0, .int .i64 (atF t.data.toList i : Int), .slice none 0 0] 156)) = w1 at E1 F1 R1 ⊢
  obtain ⟨be, hbe⟩ : ∃ be, w.heap.size = be := ⟨_, rfl⟩
  rw [hbe] at E1 hlb ⊢
  have hwb : w.heap.size ≤ be := by omega
  have hbw : be ≤ w.heap.size := by omega
  clear hbe
  have hne : be ≠ br := by omega
  have hle : be < w1.heap.size := block_lt E1.out
  have h2 := block_cell R1.out 2
  have g0 : ((pcF t i).toList == [40]) = true := by rw [hpl, ho]; rfl
  rw [ho] at h
  rw [if_pos (by decide)] at h
  clear hpl htx ho
  go_wp2_with fail
  rcases enterX_cases hd h with ⟨hd2, hk⟩ | ⟨rfl, rfl⟩
  case inr =>
    refine (fenter_full w1 br t i R1.out).mono ?_
    rintro e w2 ⟨rfl, rfl⟩
    exact ⟨rfl, F1.out, rfl⟩
  refine (fenter_ok w1 br t i d R1.out ht hd2).mono ?_
  rintro e w2 ⟨rfl, hr, hf⟩
  have R2 : Hid (RdF w2 br t (i + 1) (d + 1)) := hr
  have E2 : Hid (EBlk w2 be 12 ⟨#[]⟩ ⟨#[]⟩ 0 (atF t.data.toList i) none 0 0) := E1.out.of hf hne
  have F2 : Hid (Fr (· ≠ br) w w2) := F1.out.trans hf
  have hs2 : be < w2.heap.size := block_lt E2.out
  have hz2 := F2.out.size
  clear hr hf E1 F1 R1 h h2
  have HD : Hid (∀ (W : World) (m : ByteArray) (k : Nat) (b : Bool), _) := fun W m k b h => fneed_any W br t m k (d + 1) h ht b
  go_wp2_with fail
  rcases bX_cases hk with ⟨⟨c, p⟩, hn, rfl⟩ | ⟨x, j, hn, hk2⟩
  · refine (fexpr_any HS.out w2 (d + 1) _ _ (by omega) (HI.out.fr F2.out) R2.out hn).mono ?_
    rintro e w3 ⟨hf, rfl⟩
    exact ⟨rfl, F2.out.trans hf, rfl⟩
  refine (fexpr_any HS.out w2 (d + 1) _ _ (by omega) (HI.out.fr F2.out) R2.out hn).mono ?_
  rintro e w3 ⟨hf, ⟨v, rfl, hv⟩, hr⟩
  have R3 : Hid (RdF w3 br t j (d + 1)) := hr
  have F3 : Hid (Fr (· ≠ br) w w3) := F2.out.trans hf
  have T3 : Hid (TreeE (fun k => w.heap.size ≤ k) w3 x v) := hv.fr (Fr.refl _ _) fun _ _ q => by omega
  clear hf hr hv hn hk E2 F2 R2
  obtain ⟨bx, rfl, -, -⟩ := T3.out.ptr
  go_wp2_with fail
  rcases needX_cases hk2 with ⟨hb, hk3⟩ | ⟨hb, rfl⟩
  case inr =>
    refine (HD.out w3 ⟨#[41]⟩ j false R3.out hb).mono ?_
    rintro e w4 ⟨hf, ⟨q, -⟩ | ⟨-, rfl⟩⟩
    · simp at q
    · exact ⟨rfl, F3.out.trans hf, rfl⟩
  refine (HD.out w3 ⟨#[41]⟩ j true R3.out hb).mono ?_
  rintro e w4 ⟨hf, ⟨-, rfl, hr⟩ | ⟨q, -⟩⟩
  case inr => simp at q
  have R4 : Hid (RdF w4 br t (j + 1) (d + 1)) := hr
  have F4 : Hid (Fr (· ≠ br) w w4) := F3.out.trans hf
  have T4 : Hid (TreeE (fun k => w.heap.size ≤ k) w4 x (.pointer (some ⟨bx, 0, none⟩))) := T3.out.fr (hf.mono fun k q => by omega) fun _ _ q => q
  have HQ : Hid (r = .ok (x, j + 1)) := by simp only [okX, Option.some.injEq] at hk3; exact hk3.symm
  clear hf hr hb hk2 hk3 R3 F3 T3
  go_wp2_with (go_at_call 318; refine (HL.out _ _ R4.out).mono ?_; rintro e w5 ⟨rfl, hr, hf⟩; have R5 : Hid (RdF w5 br t (j + 1) d) := hr; have F5 : Hid (Fr (· ≠ br) w w5) := F4.out.trans hf; have T5 : Hid (TreeE (fun k => w.heap.size ≤ k) w5 x (.pointer (some ⟨bx, 0, none⟩))) := T4.out.fr (hf.mono fun k q => by omega) fun _ _ q => q; clear hr hf)
  go_ret
  rw [HQ.out]
  exact ⟨F5.out, ⟨_, rfl, T5.out⟩, R5.out⟩

set_option maxRecDepth 100000 in
set_option maxHeartbeats 2000000 in
theorem fbracket_set {br : Nat} {t : ByteArray} {self : Nat → Nat → Nat → RX PX} (hS : SelfOK br t self) (w : World) (d i m : Nat) (hd : d ≤ 24) (ht : t.size ≤ 4000) (hm : m ≤ 1000000) (hI : EnvF w br) (hr : RdF w br t i d) (ho : txF t.data.toList i = [123])
    (r : Except (Nat × Nat) (PX × Nat)) (h : bracketX (tkF t.data.toList) self m d i = some r) :
    Calls Tryz.prog 338 #[.pointer (some ⟨br, 0, none⟩)] w (PostE w br t d r) := by
  have HS : Hid (SelfOK br t self) := hS
  have HI : Hid (EnvF w br) := hI
  have HR : Hid (RdF w br t i d) := hr
  have hlb := block_lt hr
  have h1 := block_cell hr 1
  have HL : Hid (∀ (W : World) (k : Nat), _) := fun W k h => fleave_any W br t k d h hd
  clear hI hS hr
  have mo := follows
  have E1 : Hid (EBlk (w.alloc (.cells #[.int .i64 12, .string ⟨#[]⟩, .string ⟨#[]⟩, .int .i64 0, .int .i64 (atF t.data.toList i : Int), .slice none 0 0] 156)) w.heap.size 12 ⟨#[]⟩ ⟨#[]⟩ 0 (atF t.data.toList i) none 0 0) := heap_new rfl
  have F1 : Hid (Fr (· ≠ br) w (w.alloc (.cells #[.int .i64 12, .string ⟨#[]⟩, .string ⟨#[]⟩, .int .i64 0, .int .i64 (atF t.data.toList i : Int), .slice none 0 0] 156))) := (Fr.refl _ w).alloc _
  have R1 : Hid (RdF (w.alloc (.cells #[.int .i64 12, .string ⟨#[]⟩, .string ⟨#[]⟩, .int .i64 0, .int .i64 (atF t.data.toList i : Int), .slice none 0 0] 156)) br t i d) := RdF.of HR.out (P := fun _ => True) ((Fr.refl _ w).alloc _) trivial
  have hpl : (pcF t i).toList = txF t.data.toList i := by rw [ByteArray.toList_eq, pcF_list]
  have htx : (tkF t.data.toList i).tx = txF t.data.toList i := rfl
  unfold bracketX at h
  simp only [htx] at h
  go_enter Tryz.func338, Tryz.ntmps338
  go_upto_region 2 with fail
  clear h1 HR
  generalize (w.alloc (.cells #[.int .i64 12, .string ⟨#[]⟩, .string ⟨#[]⟩, .int .i64 0, .int .i64 (atF t.data.toList i : Int), .slice none 0 0] 156)) = w1 at E1 F1 R1 ⊢
  obtain ⟨be, hbe⟩ : ∃ be, w.heap.size = be := ⟨_, rfl⟩
  rw [hbe] at E1 hlb ⊢
  have hwb : w.heap.size ≤ be := by omega
  have hbw : be ≤ w.heap.size := by omega
  clear hbe
  have hne : be ≠ br := by omega
  have hle : be < w1.heap.size := block_lt E1.out
  have h2 := block_cell R1.out 2
  have g0 : ((pcF t i).toList == [40]) = false := by rw [hpl, ho]; rfl
  have g1 : ((pcF t i).toList == [123]) = true := by rw [hpl, ho]; rfl
  rw [ho] at h
  rw [if_neg (by decide), if_pos (by decide)] at h
  clear hpl htx ho
  go_wp2_with fail
  rcases enterX_cases hd h with ⟨hd2, hk⟩ | ⟨rfl, rfl⟩
  case inr =>
    refine (fenter_full w1 br t i R1.out).mono ?_
    rintro e w2 ⟨rfl, rfl⟩
    exact ⟨rfl, F1.out, rfl⟩
  refine (fenter_ok w1 br t i d R1.out ht hd2).mono ?_
  rintro e w2 ⟨rfl, hr, hf⟩
  have R2 : Hid (RdF w2 br t (i + 1) (d + 1)) := hr
  have E2 : Hid (EBlk w2 be 12 ⟨#[]⟩ ⟨#[]⟩ 0 (atF t.data.toList i) none 0 0) := E1.out.of hf hne
  have F2 : Hid (Fr (· ≠ br) w w2) := F1.out.trans hf
  have hs2 : be < w2.heap.size := block_lt E2.out
  have hz2 := F2.out.size
  clear hr hf E1 F1 R1 h h2
  have HD : Hid (∀ (W : World) (m : ByteArray) (k : Nat) (b : Bool), _) := fun W m k b h => fneed_any W br t m k (d + 1) h ht b
  have h34 := HI.out.new hwb
  have HC : Hid (Calls _ _ _ _ _) := fset_any HS.out w2 be (d + 1) (i + 1) m _ (by omega) ht hm hne h34 (HI.out.fr F2.out) R2.out E2.out r hk
  go_wp2_with fail
  refine HC.out.mono ?_
  rintro e w3 ⟨hf, hm3⟩
  rcases r with ⟨c, p⟩ | ⟨x, j⟩
  · obtain rfl := hm3
    exact ⟨rfl, fill_err hwb F2.out hf⟩
  · obtain ⟨rfl, hT, hr⟩ := hm3
    have T3 : Hid (TreeE _ w3 x _) := hT
    have R3 : Hid (RdF w3 br t j (d + 1)) := hr
    have F3 : Hid (Fr _ w2 w3) := hf
    clear hT hr hf HC
    go_wp2_with (go_at_call 318; refine (HL.out _ _ R3.out).mono ?_; rintro e w4 ⟨rfl, hr, hf⟩; have R4 : Hid (RdF w4 br t j d) := hr; have F4 : Hid (Fr (· ≠ br) w3 w4) := hf; clear hr hf)
    go_ret
    exact fill_end hwb (by omega) F2.out F3.out T3.out rfl R4.out F4.out

set_option maxRecDepth 100000 in
set_option maxHeartbeats 2000000 in
theorem fbracket_seq {br : Nat} {t : ByteArray} {self : Nat → Nat → Nat → RX PX} (hS : SelfOK br t self) (w : World) (d i m : Nat) (hd : d ≤ 24) (ht : t.size ≤ 4000) (hm : m ≤ 1000000) (hI : EnvF w br) (hr : RdF w br t i d) (ho : txF t.data.toList i = [60, 60])
    (r : Except (Nat × Nat) (PX × Nat)) (h : bracketX (tkF t.data.toList) self m d i = some r) :
    Calls Tryz.prog 338 #[.pointer (some ⟨br, 0, none⟩)] w (PostE w br t d r) := by
  have HS : Hid (SelfOK br t self) := hS
  have HI : Hid (EnvF w br) := hI
  have HR : Hid (RdF w br t i d) := hr
  have hlb := block_lt hr
  have h1 := block_cell hr 1
  have HL : Hid (∀ (W : World) (k : Nat), _) := fun W k h => fleave_any W br t k d h hd
  clear hI hS hr
  have mo := follows
  have E1 : Hid (EBlk (w.alloc (.cells #[.int .i64 12, .string ⟨#[]⟩, .string ⟨#[]⟩, .int .i64 0, .int .i64 (atF t.data.toList i : Int), .slice none 0 0] 156)) w.heap.size 12 ⟨#[]⟩ ⟨#[]⟩ 0 (atF t.data.toList i) none 0 0) := heap_new rfl
  have F1 : Hid (Fr (· ≠ br) w (w.alloc (.cells #[.int .i64 12, .string ⟨#[]⟩, .string ⟨#[]⟩, .int .i64 0, .int .i64 (atF t.data.toList i : Int), .slice none 0 0] 156))) := (Fr.refl _ w).alloc _
  have R1 : Hid (RdF (w.alloc (.cells #[.int .i64 12, .string ⟨#[]⟩, .string ⟨#[]⟩, .int .i64 0, .int .i64 (atF t.data.toList i : Int), .slice none 0 0] 156)) br t i d) := RdF.of HR.out (P := fun _ => True) ((Fr.refl _ w).alloc _) trivial
  have hpl : (pcF t i).toList = txF t.data.toList i := by rw [ByteArray.toList_eq, pcF_list]
  have htx : (tkF t.data.toList i).tx = txF t.data.toList i := rfl
  unfold bracketX at h
  simp only [htx] at h
  go_enter Tryz.func338, Tryz.ntmps338
  go_upto_region 2 with fail
  clear h1 HR
  generalize (w.alloc (.cells #[.int .i64 12, .string ⟨#[]⟩, .string ⟨#[]⟩, .int .i64 0, .int .i64 (atF t.data.toList i : Int), .slice none 0 0] 156)) = w1 at E1 F1 R1 ⊢
  obtain ⟨be, hbe⟩ : ∃ be, w.heap.size = be := ⟨_, rfl⟩
  rw [hbe] at E1 hlb ⊢
  have hwb : w.heap.size ≤ be := by omega
  have hbw : be ≤ w.heap.size := by omega
  clear hbe
  have hne : be ≠ br := by omega
  have hle : be < w1.heap.size := block_lt E1.out
  have h2 := block_cell R1.out 2
  have g0 : ((pcF t i).toList == [40]) = false := by rw [hpl, ho]; rfl
  have g1 : ((pcF t i).toList == [123]) = false := by rw [hpl, ho]; rfl
  have g2 : ((pcF t i).toList == [60, 60]) = true := by rw [hpl, ho]; rfl
  rw [ho] at h
  rw [if_neg (by decide), if_neg (by decide), if_pos (by decide)] at h
  clear hpl htx ho
  go_wp2_with fail
  rcases enterX_cases hd h with ⟨hd2, hk⟩ | ⟨rfl, rfl⟩
  case inr =>
    refine (fenter_full w1 br t i R1.out).mono ?_
    rintro e w2 ⟨rfl, rfl⟩
    exact ⟨rfl, F1.out, rfl⟩
  refine (fenter_ok w1 br t i d R1.out ht hd2).mono ?_
  rintro e w2 ⟨rfl, hr, hf⟩
  have R2 : Hid (RdF w2 br t (i + 1) (d + 1)) := hr
  have E2 : Hid (EBlk w2 be 12 ⟨#[]⟩ ⟨#[]⟩ 0 (atF t.data.toList i) none 0 0) := E1.out.of hf hne
  have F2 : Hid (Fr (· ≠ br) w w2) := F1.out.trans hf
  have hs2 : be < w2.heap.size := block_lt E2.out
  have hz2 := F2.out.size
  clear hr hf E1 F1 R1 h h2
  have HD : Hid (∀ (W : World) (m : ByteArray) (k : Nat) (b : Bool), _) := fun W m k b h => fneed_any W br t m k (d + 1) h ht b
  go_wp2_with fail
  rcases bX_cases hk with ⟨⟨c, p⟩, hn, rfl⟩ | ⟨l, j, hn, hk2⟩
  · refine (fany_any HS.out w2 (d + 1) _ m ⟨#[62, 62]⟩ (by omega) ht hm (HI.out.fr F2.out) R2.out _ hn).mono ?_
    rintro e w3 ⟨hf, rfl⟩
    exact ⟨rfl, F2.out.trans hf, rfl⟩
  refine (fany_any HS.out w2 (d + 1) _ m ⟨#[62, 62]⟩ (by omega) ht hm (HI.out.fr F2.out) R2.out _ hn).mono ?_
  rintro e w3 ⟨hf, ⟨a, len, cap, rfl, hrow⟩, hr⟩
  have R3 : Hid (RdF w3 br t j (d + 1)) := hr
  have F3 : Hid (Fr (· ≠ br) w w3) := F2.out.trans hf
  have E3 : Hid (EBlk w3 be 12 ⟨#[]⟩ ⟨#[]⟩ 0 (atF t.data.toList i) none 0 0) := E2.out.of hf hne
  have W3 : Hid (RowP (fun k => w2.heap.size ≤ k) w3 (TreeE (fun k => w2.heap.size ≤ k) w3) a len l) := hrow
  have HQ : Hid (r = .ok (dSeq l, j)) := by simp only [okX, Option.some.injEq] at hk2; exact hk2.symm
  have c1 := block_cell E3.out 1
  have f1 := frozen_block E3.out 1
  have c5 := block_cell E3.out 5
  have f5 := frozen_block E3.out 5
  have hf0 : Fr (fun k => w2.heap.size ≤ k) w3 (w3.setCell ⟨be, 1, none⟩ (.string ⟨#[115, 101, 113]⟩)) := (Fr.refl _ _).set (by simp; omega) _
  have hT := node_row (lo := w.heap.size) (cap := cap) hs2 (RowP.fr hf0 (fun _ _ h => h.fr hf0 fun _ _ q => q) (fun _ _ q => q) W3.out) hwb (E3.out.op ⟨#[115, 101, 113]⟩) (x := dSeq l) (.inr (.inr (.inr (.inr (.inr (.inr (.inr (.inr (.inr (.inr (.inr ⟨.inr rfl, .inr (.inr (.inl ⟨rfl, rfl⟩))⟩)))))))))))
  have T4 : Hid (TreeE (fun k => w.heap.size ≤ k) ((w3.setCell ⟨be, 1, none⟩ (.string ⟨#[115, 101, 113]⟩)).setCell ⟨be, 5, none⟩ (.slice a len cap)) (dSeq l) (.pointer (some ⟨be, 0, none⟩))) := hT
  have R4 : Hid (RdF ((w3.setCell ⟨be, 1, none⟩ (.string ⟨#[115, 101, 113]⟩)).setCell ⟨be, 5, none⟩ (.slice a len cap)) br t j (d + 1)) := (R3.out.setB (Ne.symm hne) _).setB (Ne.symm hne) _
  have F4 : Hid (Fr (· ≠ br) w ((w3.setCell ⟨be, 1, none⟩ (.string ⟨#[115, 101, 113]⟩)).setCell ⟨be, 5, none⟩ (.slice a len cap))) := (F3.out.setB hwb _).setB hwb _
  clear hf hr hrow hn hk hk2 E2 F2 R2 hT hf0 E3 W3 R3 F3
  go_wp2_with (go_at_call 318; refine (HL.out _ _ R4.out).mono ?_; rintro e w5 ⟨rfl, hr, hf⟩; have R5 : Hid (RdF w5 br t j d) := hr; have F5 : Hid (Fr (· ≠ br) w w5) := F4.out.trans hf; have T5 : Hid (TreeE (fun k => w.heap.size ≤ k) w5 (dSeq l) (.pointer (some ⟨be, 0, none⟩))) := T4.out.fr (hf.mono fun k q => by omega) fun _ _ q => q; clear hr hf)
  go_ret
  rw [HQ.out]
  exact ⟨F5.out, ⟨_, rfl, T5.out⟩, R5.out⟩

set_option maxRecDepth 100000 in
set_option maxHeartbeats 2000000 in
theorem fbracket_none {br : Nat} {t : ByteArray} {self : Nat → Nat → Nat → RX PX} (hS : SelfOK br t self) (w : World) (d i m : Nat) (hd : d ≤ 24) (hI : EnvF w br) (hr : RdF w br t i d) (ho : txF t.data.toList i ≠ [40] ∧ txF t.data.toList i ≠ [123] ∧ txF t.data.toList i ≠ [60, 60] ∧ txF t.data.toList i ≠ [91])
    (r : Except (Nat × Nat) (PX × Nat)) (h : bracketX (tkF t.data.toList) self m d i = some r) :
    Calls Tryz.prog 338 #[.pointer (some ⟨br, 0, none⟩)] w (PostE w br t d r) := by
  have HS : Hid (SelfOK br t self) := hS
  have HI : Hid (EnvF w br) := hI
  have HR : Hid (RdF w br t i d) := hr
  have hlb := block_lt hr
  have h1 := block_cell hr 1
  have HL : Hid (∀ (W : World) (k : Nat), _) := fun W k h => fleave_any W br t k d h hd
  clear hI hS hr
  have mo := follows
  have E1 : Hid (EBlk (w.alloc (.cells #[.int .i64 12, .string ⟨#[]⟩, .string ⟨#[]⟩, .int .i64 0, .int .i64 (atF t.data.toList i : Int), .slice none 0 0] 156)) w.heap.size 12 ⟨#[]⟩ ⟨#[]⟩ 0 (atF t.data.toList i) none 0 0) := heap_new rfl
  have F1 : Hid (Fr (· ≠ br) w (w.alloc (.cells #[.int .i64 12, .string ⟨#[]⟩, .string ⟨#[]⟩, .int .i64 0, .int .i64 (atF t.data.toList i : Int), .slice none 0 0] 156))) := (Fr.refl _ w).alloc _
  have R1 : Hid (RdF (w.alloc (.cells #[.int .i64 12, .string ⟨#[]⟩, .string ⟨#[]⟩, .int .i64 0, .int .i64 (atF t.data.toList i : Int), .slice none 0 0] 156)) br t i d) := RdF.of HR.out (P := fun _ => True) ((Fr.refl _ w).alloc _) trivial
  have hpl : (pcF t i).toList = txF t.data.toList i := by rw [ByteArray.toList_eq, pcF_list]
  have htx : (tkF t.data.toList i).tx = txF t.data.toList i := rfl
  unfold bracketX at h
  simp only [htx] at h
  go_enter Tryz.func338, Tryz.ntmps338
  go_upto_region 2 with fail
  clear h1 HR
  generalize (w.alloc (.cells #[.int .i64 12, .string ⟨#[]⟩, .string ⟨#[]⟩, .int .i64 0, .int .i64 (atF t.data.toList i : Int), .slice none 0 0] 156)) = w1 at E1 F1 R1 ⊢
  obtain ⟨be, hbe⟩ : ∃ be, w.heap.size = be := ⟨_, rfl⟩
  rw [hbe] at E1 hlb ⊢
  have hwb : w.heap.size ≤ be := by omega
  have hbw : be ≤ w.heap.size := by omega
  clear hbe
  have hne : be ≠ br := by omega
  have hle : be < w1.heap.size := block_lt E1.out
  have h2 := block_cell R1.out 2
  obtain ⟨o1, o2, o3, o4⟩ := ho
  have g0 : ((pcF t i).toList == [40]) = false := by rw [hpl]; simpa using o1
  have g1 : ((pcF t i).toList == [123]) = false := by rw [hpl]; simpa using o2
  have g2 : ((pcF t i).toList == [60, 60]) = false := by rw [hpl]; simpa using o3
  have g3 : ((pcF t i).toList == [91]) = false := by rw [hpl]; simpa using o4
  rw [if_neg (by simpa using o1), if_neg (by simpa using o2), if_neg (by simpa using o3), if_neg (by simpa using o4)] at h
  have hat : (tkF t.data.toList i).at' = atF t.data.toList i := rfl
  rw [hat] at h
  have HQ : Hid (r = .error (1, atF t.data.toList i)) := by simp only [errX, Option.some.injEq] at h; exact h.symm
  have HFL : Hid (Calls _ _ _ _ _) := ffail_any w1 br t i d 1 R1.out
  clear hpl htx o1 o2 o3 o4 h hat
  go_wp2_with (go_at_call 147; refine HFL.out.mono ?_; rintro e w2 ⟨rfl, rfl⟩; unfold Flt)
  rw [HQ.out]
  exact ⟨rfl, F1.out, rfl⟩
end Go.Proofs.YtjbekejcghjhbaaGreatDoor.Sx

namespace Go.Proofs.YtjbekejcghjhbaaGreatDoor.Sx
open Go.RowKit Go.Sort

theorem parseF_any (m : ByteArray) (w : World) (br : Nat) (hE : EnvF w br) (hm : m.size ≤ 4000) :
    Calls Tryz.prog 120 #[.string m, .int .i64 10, .int .i64 64] w fun e w' => Below w.heap.size w w' ∧ ((∃ v, Lib.parseIntB 64 m.data.toList = .ok v ∧ e = .returned (.tuple #[.int .i64 v, .nilIface])) ∨ ((∀ v, Lib.parseIntB 64 m.data.toList ≠ .ok v) ∧ ∃ v T p, e = .returned (.tuple #[.int .i64 v, .iface T p]))) := by
  obtain ⟨h1, h2, ⟨ev, h3, h4⟩, h5, ew, h6, h7⟩ := hE
  cases q : Lib.parseIntB 64 m.data.toList with
  | ok v =>
    refine (Tryz.strconv_ParseInt_10_at64_ok m (by omega) v q w).mono ?_
    rintro e w' ⟨rfl, hw⟩
    refine ⟨?_, .inl ⟨v, rfl, rfl⟩⟩
    rcases hw with rfl | ⟨s, rfl⟩
    · exact Below.refl _ _
    · exact Lib.bytesWorld_below _ _ _
  | range =>
    refine (Tryz.strconv_ParseInt_10_at64_range m (by omega) q ev w h3 h4).mono ?_
    rintro e w' ⟨N, rfl, _, _, hb⟩
    exact ⟨hb, .inr ⟨fun v => by simp, _, _, _, rfl⟩⟩
  | _ =>
    refine (Tryz.strconv_ParseInt_10_at64_syntax m (by omega) q ew w h6 h7).mono ?_
    rintro e w' ⟨N, rfl, _, _, hb⟩
    exact ⟨hb, .inr ⟨fun v => by simp, _, _, _, rfl⟩⟩

/-- what a number is read to -/
def numX (K : Nat → Tk) (i : Nat) : RX PX := match Lib.parseIntB 64 (K i).tx with | .ok v => okX (dLeaf (Lib.itoa v)) (i + 1) | _ => errX 5 (K i).at'
set_option maxRecDepth 100000 in
set_option maxHeartbeats 1000000 in
theorem fnumber_any {br : Nat} {t : ByteArray} (w : World) (d i : Nat) (ht : t.size ≤ 4000) (hI : EnvF w br) (hr : RdF w br t i d) (hv64 : ∀ v, Lib.parseIntB 64 (txF t.data.toList i) = .ok v → -9223372036854775808 ≤ v ∧ v ≤ 9223372036854775807)
    (r : Except (Nat × Nat) (PX × Nat)) (h : numX (tkF t.data.toList) i = some r) :
    Calls Tryz.prog 336 #[.pointer (some ⟨br, 0, none⟩)] w (PostE w br t d r) := by
  have hat := atF_le t.data.toList i
  have hl : t.data.toList.length = t.size := by simp
  have hsz := pcF_size t i
  have HP : Hid (Calls _ _ _ _ _) := parseF_any (pcF t i) w br hI (by omega)
  have HR : Hid (RdF w br t i d) := hr
  have hlb := block_lt hr
  have h2 := block_cell hr 2
  have hsp : (pcF t i).data.toList = txF t.data.toList i := pcF_list t i
  have htx : (tkF t.data.toList i).tx = txF t.data.toList i := rfl
  have hat' : (tkF t.data.toList i).at' = atF t.data.toList i := rfl
  unfold numX at h
  simp only [htx, hat'] at h
  rw [hsp] at HP
  clear hr hI hat hl hsz hsp htx hat'
  have mo := follows
  go_enter Tryz.func336, Tryz.ntmps336
  go_wp2_with fail
  refine HP.out.mono ?_
  rintro e w1 ⟨hb, ⟨v, hv, rfl⟩ | ⟨hno, v, T, p, rfl⟩⟩
  · have R1 : Hid (RdF w1 br t i d) := RdF.of HR.out (P := fun _ => True) (Fr.below hb) trivial
    have F1 : Hid (Fr (· ≠ br) w w1) := Fr.below hb
    have h1 := block_cell R1.out 1
    rw [hv] at h
    have HQ : Hid (r = .ok (dLeaf (Lib.itoa v), i + 1)) := by simp only [okX, Option.some.injEq] at h; exact h.symm
    have HV := hv64 v hv
    clear hb hv h HP HR h2 hv64
    have hfa := (Fr.refl (fun _ => True) w1).alloc (.cells #[.int .i64 0, .string ⟨#[]⟩, .string ⟨#[]⟩, .int .i64 v, .int .i64 (atF t.data.toList i : Int), .slice none 0 0] 156)
    have HA : Hid (Calls _ _ _ _ _) := fadvance_st _ br t i d (RdF.of R1.out hfa trivial) ht
    have hz := F1.out.size
    have E2 : Hid (EBlk (w1.alloc (.cells #[.int .i64 0, .string ⟨#[]⟩, .string ⟨#[]⟩, .int .i64 v, .int .i64 (atF t.data.toList i : Int), .slice none 0 0] 156)) w1.heap.size 0 ⟨#[]⟩ ⟨#[]⟩ v (atF t.data.toList i) none 0 0) := heap_new rfl
    clear hfa
    go_wp2_with (go_at_call 146; refine HA.out.mono ?_; rintro e w3 ⟨rfl, hr, hf⟩; have R3 : Hid (RdF w3 br t (i + 1) d) := hr; have F3 : Hid (Fr (· ≠ br) w w3) := (F1.out.alloc _).trans hf; have E3 : Hid (EBlk w3 w1.heap.size 0 ⟨#[]⟩ ⟨#[]⟩ v (atF t.data.toList i) none 0 0) := E2.out.of hf (by omega); clear hr hf)
    go_ret
    rw [HQ.out]
    exact ⟨F3.out, ⟨_, rfl, TreeE.node ⟨w1.heap.size, 0, ⟨#[]⟩, ⟨#[]⟩, v, atF t.data.toList i, none, 0, 0, [], rfl, hz, E3.out, row_nil _, .inl ⟨rfl, HV.1, HV.2, rfl⟩⟩⟩, R3.out⟩
  · have R1 : Hid (RdF w1 br t i d) := RdF.of HR.out (P := fun _ => True) (Fr.below hb) trivial
    have F1 : Hid (Fr (· ≠ br) w w1) := Fr.below hb
    have HQ : Hid (r = .error (5, atF t.data.toList i)) := by
      cases q : Lib.parseIntB 64 (txF t.data.toList i) with
      | ok v => exact absurd q (hno v)
      | _ => rw [q] at h; simp only [errX, Option.some.injEq] at h; exact h.symm
    have HFL : Hid (Calls _ _ _ _ _) := ffail_any w1 br t i d 5 R1.out
    clear hb hno h HP HR h2 hv64
    go_wp2_with (go_at_call 147; refine HFL.out.mono ?_; rintro e w2 ⟨rfl, rfl⟩; unfold Flt)
    rw [HQ.out]
    exact ⟨rfl, F1.out, rfl⟩
end Go.Proofs.YtjbekejcghjhbaaGreatDoor.Sx

namespace Go.Proofs.YtjbekejcghjhbaaGreatDoor.Sx
open Go.RowKit Go.Sort

/-- what stands in the brackets -/
def askedX (K : Nat → Tk) (self : Nat → Nat → Nat → RX PX) (d : Nat) (x : PX) (i : Nat) : RX PX :=
  enterX K d i fun j => bX (self 0 (d + 1) j) fun k j =>
    if (K j).tx == [58, 61] then bX (self 0 (d + 1) (j + 1)) fun v j => needX K [93] j fun j => okX (dPut x k v) j
    else needX K [93] j fun j => okX (dAt x k) j
set_option maxRecDepth 100000 in
set_option maxHeartbeats 2000000 in
theorem fasked_at {br : Nat} {t : ByteArray} {self : Nat → Nat → Nat → RX PX} (hS : SelfOK br t self) (w : World) (lo d i : Nat) (x : PX) (v : Value) (hd : d ≤ 24) (ht : t.size ≤ 4000) (hI : EnvF w br) (hr : RdF w br t i d) (hlo : lo ≤ w.heap.size) (hbl : br < lo) (hx : TreeE (fun k => lo ≤ k) w x v)
    (hno : ∀ y j, self 0 (d + 1) (i + 1) = some (.ok (y, j)) → (txF t.data.toList j == [58, 61]) = false) (r : Except (Nat × Nat) (PX × Nat)) (h : askedX (tkF t.data.toList) self d x i = some r) :
    Calls Tryz.prog 321 #[.pointer (some ⟨br, 0, none⟩), v] w (PostL lo w br t d r) := by
  have HS : Hid (SelfOK br t self) := hS
  have HI : Hid (EnvF w br) := hI
  have HL : Hid (∀ (W : World) (k : Nat), _) := fun W k h => fleave_any W br t k d h hd
  have HD : Hid (∀ (W : World) (m : ByteArray) (k : Nat) (b : Bool), _) := fun W m k b h => fneed_any W br t m k (d + 1) h ht b
  have HK : Hid (∀ (W : World) (k : Nat) (b : Bool), _) := fun W k b h => fskip_any W br t ⟨#[58, 61]⟩ k (d + 1) h ht b
  have HR : Hid (RdF w br t i d) := hr
  have hlb := block_lt hr
  have h1 := block_cell hr 1
  clear hS hr hI
  have mo := follows
  obtain ⟨bl, rfl, hb1, hb2⟩ := hx.ptr
  have hfa := (Fr.refl (fun _ => True) w).alloc (.cells #[.int .i64 12, .string ⟨#[97, 116]⟩, .string ⟨#[]⟩, .int .i64 0, .int .i64 (atF t.data.toList i : Int), .slice none 0 0] 156)
  have E1 : Hid (EBlk (w.alloc (.cells #[.int .i64 12, .string ⟨#[97, 116]⟩, .string ⟨#[]⟩, .int .i64 0, .int .i64 (atF t.data.toList i : Int), .slice none 0 0] 156)) w.heap.size 12 ⟨#[97, 116]⟩ ⟨#[]⟩ 0 (atF t.data.toList i) none 0 0) := heap_new rfl
  have F1 : Hid (Fr (· ≠ br) w (w.alloc (.cells #[.int .i64 12, .string ⟨#[97, 116]⟩, .string ⟨#[]⟩, .int .i64 0, .int .i64 (atF t.data.toList i : Int), .slice none 0 0] 156))) := hfa.mono fun _ _ => trivial
  have R1 : Hid (RdF (w.alloc (.cells #[.int .i64 12, .string ⟨#[97, 116]⟩, .string ⟨#[]⟩, .int .i64 0, .int .i64 (atF t.data.toList i : Int), .slice none 0 0] 156)) br t i d) := RdF.of HR.out hfa trivial
  have X1 : Hid (TreeE (fun k => lo ≤ k ∧ k < w.heap.size) (w.alloc (.cells #[.int .i64 12, .string ⟨#[97, 116]⟩, .string ⟨#[]⟩, .int .i64 0, .int .i64 (atF t.data.toList i : Int), .slice none 0 0] 156)) x (.pointer (some ⟨bl, 0, none⟩))) := hx.fr (hfa.mono fun _ _ => trivial) fun _ h q => ⟨q, h⟩
  clear hfa hx
  unfold askedX at h
  go_enter Tryz.func321, Tryz.ntmps321
  go_wp2_with fail
  clear h1 HR
  generalize w.alloc (.cells #[.int .i64 12, .string ⟨#[97, 116]⟩, .string ⟨#[]⟩, .int .i64 0, .int .i64 (atF t.data.toList i : Int), .slice none 0 0] 156) = w1 at E1 F1 R1 X1 ⊢
  obtain ⟨be, hbe⟩ : ∃ be, w.heap.size = be := ⟨_, rfl⟩
  rw [hbe] at E1 hlb hlo X1 hb2 ⊢
  have hwb : w.heap.size ≤ be := by omega
  clear hbe
  have hne : be ≠ br := by omega
  rcases enterX_cases hd h with ⟨hd2, hk⟩ | ⟨rfl, rfl⟩
  case inr =>
    refine (fenter_full w1 br t i R1.out).mono ?_
    rintro e w2 ⟨rfl, rfl⟩
    exact ⟨rfl, F1.out, rfl⟩
  refine (fenter_ok w1 br t i d R1.out ht hd2).mono ?_
  rintro e w2 ⟨rfl, hr, hf⟩
  have R2 : Hid (RdF w2 br t (i + 1) (d + 1)) := hr
  have E2 : Hid (EBlk w2 be 12 ⟨#[97, 116]⟩ ⟨#[]⟩ 0 (atF t.data.toList i) none 0 0) := E1.out.of hf hne
  have F2 : Hid (Fr (· ≠ br) w w2) := F1.out.trans hf
  have X2 : Hid (TreeE (fun k => lo ≤ k ∧ k < be) w2 x (.pointer (some ⟨bl, 0, none⟩))) := X1.out.fr (hf.mono fun k q => by omega) fun _ _ q => q
  have hs2 : be < w2.heap.size := block_lt E2.out
  clear hr hf E1 F1 R1 X1 h
  go_wp2_with fail
  rcases bX_cases hk with ⟨⟨c, p⟩, hn, rfl⟩ | ⟨y, j, hn, hk2⟩
  · refine (fexpr_any HS.out w2 (d + 1) _ _ (by omega) (HI.out.fr F2.out) R2.out hn).mono ?_
    rintro e w3 ⟨hf, rfl⟩
    exact ⟨rfl, F2.out.trans hf, rfl⟩
  refine (fexpr_any HS.out w2 (d + 1) _ _ (by omega) (HI.out.fr F2.out) R2.out hn).mono ?_
  rintro e w3 ⟨hf, ⟨vy, rfl, hv⟩, hr⟩
  have hq := hno y j hn
  have R3 : Hid (RdF w3 br t j (d + 1)) := hr
  have F3 : Hid (Fr (· ≠ br) w w3) := F2.out.trans hf
  have E3 : Hid (EBlk w3 be 12 ⟨#[97, 116]⟩ ⟨#[]⟩ 0 (atF t.data.toList i) none 0 0) := E2.out.of hf hne
  have X3 : Hid (TreeE (fun k => lo ≤ k ∧ k < be) w3 x (.pointer (some ⟨bl, 0, none⟩))) := X2.out.fr (hf.mono fun k q => by omega) fun _ _ q => q
  have Y3 : Hid (TreeE (fun k => w2.heap.size ≤ k) w3 y vy) := hv
  have hs3 : be < w3.heap.size := block_lt E3.out
  have hz3 := hf.size
  clear hf hr hv hn hk hno E2 F2 R2 X2
  obtain ⟨bb, rfl, -, -⟩ := Y3.out.ptr
  have c5 := block_cell E3.out 5
  have f5 := frozen_block E3.out 5
  have htx : (tkF t.data.toList j).tx = txF t.data.toList j := rfl
  simp only [htx] at hk2
  clear htx
  rw [hq, if_neg (by simp)] at hk2
  obtain ⟨hT, hF⟩ := fill_row (lo := lo) E3.out (m := 2) (vs := #[.pointer (some ⟨bl, 0, none⟩), .pointer (some ⟨bb, 0, none⟩)]) (kids := [x, y]) (x := dAt x y) rfl (by omega) (fun k z q => by
      match k with
      | 0 => simp at q; subst q; exact ⟨_, rfl, X3.out.fr (Fr.refl _ _) fun _ _ q => by omega⟩
      | 1 => simp at q; subst q; exact ⟨_, rfl, Y3.out.fr (Fr.refl _ _) fun _ _ q => by omega⟩
      | k + 2 => simp at q) (by omega)
    (.inr (.inr (.inr (.inr (.inr (.inr (.inr (.inr (.inr (.inr (.inr ⟨.inr rfl, .inr (.inr (.inr (.inr (.inl ⟨rfl, x, y, rfl, rfl⟩))))⟩)))))))))))
  have T4 : Hid (TreeE (fun k => lo ≤ k) _ (dAt x y) _) := hT.fr (Fr.refl _ _) fun _ _ q => by omega
  have R4 : Hid (RdF _ br t j (d + 1)) := RdF.of R3.out hF (Ne.symm hne)
  have F4 : Hid (Fr (· ≠ br) w _) := F3.out.fresh (hF.mono fun _ q => q.2) hwb
  have HK4 : Hid (Calls _ _ _ _ _) := HK.out _ j false R4.out hq
  clear hT hF E3 F3 R3 X3 Y3 hq
  go_wp2_with (go_at_call 339; refine HK4.out.mono ?_; rintro e w5 ⟨rfl, hr, hf⟩; have R5 : Hid (RdF w5 br t j (d + 1)) := hr; have F5 : Hid (Fr (· ≠ br) w w5) := F4.out.trans hf; have T5 : Hid (TreeE (fun k => lo ≤ k) w5 (dAt x y) (.pointer (some ⟨be, 0, none⟩))) := T4.out.fr (hf.mono fun k q => by omega) fun _ _ q => q; clear hr hf)
  rcases needX_cases hk2 with ⟨hb, hk3⟩ | ⟨hb, rfl⟩
  case inr =>
    refine (HD.out w5 ⟨#[93]⟩ j false R5.out hb).mono ?_
    rintro e w6 ⟨hf, ⟨q, -⟩ | ⟨-, rfl⟩⟩
    · simp at q
    · exact ⟨rfl, F5.out.trans hf, rfl⟩
  refine (HD.out w5 ⟨#[93]⟩ j true R5.out hb).mono ?_
  rintro e w6 ⟨hf, ⟨-, rfl, hr⟩ | ⟨q, -⟩⟩
  case inr => simp at q
  have R6 : Hid (RdF w6 br t (j + 1) (d + 1)) := hr
  have F6 : Hid (Fr (· ≠ br) w w6) := F5.out.trans hf
  have T6 : Hid (TreeE (fun k => lo ≤ k) w6 (dAt x y) (.pointer (some ⟨be, 0, none⟩))) := T5.out.fr (hf.mono fun k q => by omega) fun _ _ q => q
  have HQ : Hid (r = .ok (dAt x y, j + 1)) := by simp only [okX, Option.some.injEq] at hk3; exact hk3.symm
  clear hf hr hb hk2 hk3 R5 F5 T5
  go_wp2_with (go_at_call 318; refine (HL.out _ _ R6.out).mono ?_; rintro e w7 ⟨rfl, hr, hf⟩; have R7 : Hid (RdF w7 br t (j + 1) d) := hr; have F7 : Hid (Fr (· ≠ br) w w7) := F6.out.trans hf; have T7 : Hid (TreeE (fun k => lo ≤ k) w7 (dAt x y) (.pointer (some ⟨be, 0, none⟩))) := T6.out.fr (hf.mono fun k q => by omega) fun _ _ q => q; clear hr hf)
  go_ret
  rw [HQ.out]
  exact ⟨F7.out, ⟨_, rfl, T7.out⟩, R7.out⟩
end Go.Proofs.YtjbekejcghjhbaaGreatDoor.Sx

namespace Go.Proofs.YtjbekejcghjhbaaGreatDoor.Sx
open Go.RowKit Go.Sort

/-- a key, and what is put there, behind a part -/
theorem put_tree {w8 w9 : World} {o : Obj} {lo be bg g cap lz at' bl bb bz : Nat} {x y z : PX} (E8 : EBlk w8 be 12 ⟨#[112, 117, 116]⟩ ⟨#[]⟩ 0 at' (some ⟨bg, 0, none⟩) 2 2)
    (X8 : TreeE (fun k => lo ≤ k ∧ k < bg ∧ k ≠ be) w8 x (.pointer (some ⟨bl, 0, none⟩))) (Y8 : TreeE (fun k => lo ≤ k ∧ k < bg ∧ k ≠ be) w8 y (.pointer (some ⟨bb, 0, none⟩))) (Z8 : TreeE (fun k => lz ≤ k) w8 z (.pointer (some ⟨bz, 0, none⟩)))
    (hlo : lo ≤ be) (hbe : be < bg) (hlz : bg < lz) (hl8 : lz ≤ w8.heap.size) (ho : w9.ownsRow lo 93 1 (.slice (some ⟨g, 0, none⟩) 3 cap) 3 [.pointer (some ⟨bl, 0, none⟩), .pointer (some ⟨bb, 0, none⟩), .pointer (some ⟨bz, 0, none⟩)])
    (hg : (w8.alloc o).grownBy w9 (some bg)) (hat : some bg = some g ∨ g = w8.heap.size + 1) :
    TreeE (fun k => lo ≤ k) (w9.setCell ⟨be, 5, none⟩ (.slice (some ⟨g, 0, none⟩) 3 cap)) (dPut x y z) (.pointer (some ⟨be, 0, none⟩)) ∧ Fr (fun k => k ≠ be ∧ k ≠ bg) w8 (w9.setCell ⟨be, 5, none⟩ (.slice (some ⟨g, 0, none⟩) 3 cap)) := by
  have hbg : bg ≤ g := by
    rcases hat with q | q
    · simp at q; omega
    · omega
  have a1 := World.grownBy_alloc w8 o none
  have hF : Fr (fun k => k ≠ bg) w8 w9 := ⟨hg.os.trans a1.os, hg.tape.trans a1.tape, hg.output.trans a1.output, Nat.le_trans a1.size hg.size, fun k hk hq => (hg.block k (Nat.lt_of_lt_of_le hk a1.size) (by simpa using hq)).trans (a1.block k hk (by simp))⟩
  have hE : EBlk (w9.setCell ⟨be, 5, none⟩ (.slice (some ⟨g, 0, none⟩) 3 cap)) be 12 ⟨#[112, 117, 116]⟩ ⟨#[]⟩ 0 at' (some ⟨g, 0, none⟩) 3 cap := (E8.of hF (by omega)).parts _ _ _
  have hF2 : Fr (fun k => k ≠ be ∧ k ≠ bg) w8 (w9.setCell ⟨be, 5, none⟩ (.slice (some ⟨g, 0, none⟩) 3 cap)) := (hF.mono fun _ q => q.2).set (by simp) _
  have hO : (w9.setCell ⟨be, 5, none⟩ (.slice (some ⟨g, 0, none⟩) 3 cap)).ownsRow lo 93 1 (.slice (some ⟨g, 0, none⟩) 3 cap) 3 [.pointer (some ⟨bl, 0, none⟩), .pointer (some ⟨bb, 0, none⟩), .pointer (some ⟨bz, 0, none⟩)] := owns1_of ho fun q hq _ _ => by
    simp only [Value.ownBlock, Option.some.injEq] at hq
    exact Below.heap_setCell w9 _ _ q (by simp; omega)
  have hL : LSt (w9.setCell ⟨be, 5, none⟩ (.slice (some ⟨g, 0, none⟩) 3 cap)) lo (.slice (some ⟨g, 0, none⟩) 3 cap) [x, y, z] := by
    refine ⟨_, hO, fun i v q => ?_⟩
    match i with
    | 0 => simp at q; subst q; exact ⟨_, rfl, X8.fr (hF2.mono fun k q => by omega) fun k _ q => ⟨q.1, by simp only [Value.ownBlock, ne_eq, Option.some.injEq]; omega⟩⟩
    | 1 => simp at q; subst q; exact ⟨_, rfl, Y8.fr (hF2.mono fun k q => by omega) fun k _ q => ⟨q.1, by simp only [Value.ownBlock, ne_eq, Option.some.injEq]; omega⟩⟩
    | 2 => simp at q; subst q; exact ⟨_, rfl, Z8.fr (hF2.mono fun k q => by omega) fun k hk q => ⟨by omega, by
        simp only [Value.ownBlock, ne_eq, Option.some.injEq]
        rcases hat with q' | q'
        · simp at q'; omega
        · omega⟩⟩
    | i + 3 => simp at q
  obtain ⟨a, len, cp, hsl, hrow⟩ := hL.row (by simp)
  injection hsl with e1 e2 e3
  subst e1 e2 e3
  exact ⟨TreeE.node ⟨be, 12, ⟨#[112, 117, 116]⟩, ⟨#[]⟩, 0, at', _, 3, cap, [x, y, z], rfl, hlo, hE, hrow, .inr (.inr (.inr (.inr (.inr (.inr (.inr (.inr (.inr (.inr (.inr ⟨.inr rfl, .inr (.inr (.inr (.inr (.inr (.inl ⟨rfl, x, y, z, rfl, rfl⟩)))))⟩))))))))))⟩, hF2⟩

theorem Fr.fresh2 {br be bg : Nat} {w w2 w3 : World} (F : Fr (· ≠ br) w w2) (hf : Fr (fun k => k ≠ be ∧ k ≠ bg) w2 w3) (h : w.heap.size ≤ be) (h2 : w.heap.size ≤ bg) : Fr (· ≠ br) w w3 :=
  ⟨hf.os.trans F.os, hf.tape.trans F.tape, hf.output.trans F.output, Nat.le_trans F.size hf.size, fun k hk hq => (hf.block k (Nat.lt_of_lt_of_le hk F.size) ⟨by omega, by omega⟩).trans (F.block k hk hq)⟩
theorem put_cells {w8 w9 : World} {o : Obj} {be bg at' : Nat} (E8 : EBlk w8 be 12 ⟨#[112, 117, 116]⟩ ⟨#[]⟩ 0 at' (some ⟨bg, 0, none⟩) 2 2) (hbe : be ≠ bg) (hg : (w8.alloc o).grownBy w9 (some bg)) : w9.cell? ⟨be, 5, none⟩ = some (.slice (some ⟨bg, 0, none⟩) 2 2) ∧ w9.frozen? ⟨be, 5, none⟩ = false := by
  have a1 := World.grownBy_alloc w8 o none
  have hb : w9.heap[be]? = w8.heap[be]? := (hg.block be (Nat.lt_of_lt_of_le (block_lt E8) a1.size) (by simpa using hbe)).trans (a1.block be (block_lt E8) (by simp))
  have hE : EBlk w9 be 12 ⟨#[112, 117, 116]⟩ ⟨#[]⟩ 0 at' (some ⟨bg, 0, none⟩) 2 2 := hb.trans E8
  exact ⟨block_cell hE 5, frozen_block hE 5⟩
set_option maxRecDepth 100000 in
set_option maxHeartbeats 2000000 in
theorem fasked_put {br : Nat} {t : ByteArray} {self : Nat → Nat → Nat → RX PX} (hS : SelfOK br t self) (w : World) (lo d i : Nat) (x : PX) (v : Value) (hd : d ≤ 24) (ht : t.size ≤ 4000) (hI : EnvF w br) (hr : RdF w br t i d) (hlo : lo ≤ w.heap.size) (hbl : br < lo) (hx : TreeE (fun k => lo ≤ k) w x v)
    (hyes : ∀ y j, self 0 (d + 1) (i + 1) = some (.ok (y, j)) → (txF t.data.toList j == [58, 61]) = true) (r : Except (Nat × Nat) (PX × Nat)) (h : askedX (tkF t.data.toList) self d x i = some r) :
    Calls Tryz.prog 321 #[.pointer (some ⟨br, 0, none⟩), v] w (PostL lo w br t d r) := by
  have HS : Hid (SelfOK br t self) := hS
  have HI : Hid (EnvF w br) := hI
  have HL : Hid (∀ (W : World) (k : Nat), _) := fun W k h => fleave_any W br t k d h hd
  have HD : Hid (∀ (W : World) (m : ByteArray) (k : Nat) (b : Bool), _) := fun W m k b h => fneed_any W br t m k (d + 1) h ht b
  have HK : Hid (∀ (W : World) (k : Nat) (b : Bool), _) := fun W k b h => fskip_any W br t ⟨#[58, 61]⟩ k (d + 1) h ht b
  have HR : Hid (RdF w br t i d) := hr
  have hlb := block_lt hr
  have h1 := block_cell hr 1
  clear hS hr hI
  have mo := follows
  obtain ⟨bl, rfl, hb1, hb2⟩ := hx.ptr
  have hfa := (Fr.refl (fun _ => True) w).alloc (.cells #[.int .i64 12, .string ⟨#[97, 116]⟩, .string ⟨#[]⟩, .int .i64 0, .int .i64 (atF t.data.toList i : Int), .slice none 0 0] 156)
  have E1 : Hid (EBlk (w.alloc (.cells #[.int .i64 12, .string ⟨#[97, 116]⟩, .string ⟨#[]⟩, .int .i64 0, .int .i64 (atF t.data.toList i : Int), .slice none 0 0] 156)) w.heap.size 12 ⟨#[97, 116]⟩ ⟨#[]⟩ 0 (atF t.data.toList i) none 0 0) := heap_new rfl
  have F1 : Hid (Fr (· ≠ br) w (w.alloc (.cells #[.int .i64 12, .string ⟨#[97, 116]⟩, .string ⟨#[]⟩, .int .i64 0, .int .i64 (atF t.data.toList i : Int), .slice none 0 0] 156))) := hfa.mono fun _ _ => trivial
  have R1 : Hid (RdF (w.alloc (.cells #[.int .i64 12, .string ⟨#[97, 116]⟩, .string ⟨#[]⟩, .int .i64 0, .int .i64 (atF t.data.toList i : Int), .slice none 0 0] 156)) br t i d) := RdF.of HR.out hfa trivial
  have X1 : Hid (TreeE (fun k => lo ≤ k ∧ k < w.heap.size) (w.alloc (.cells #[.int .i64 12, .string ⟨#[97, 116]⟩, .string ⟨#[]⟩, .int .i64 0, .int .i64 (atF t.data.toList i : Int), .slice none 0 0] 156)) x (.pointer (some ⟨bl, 0, none⟩))) := hx.fr (hfa.mono fun _ _ => trivial) fun _ h q => ⟨q, h⟩
  clear hfa hx
  unfold askedX at h
  go_enter Tryz.func321, Tryz.ntmps321
  go_wp2_with fail
  clear h1 HR
  generalize w.alloc (.cells #[.int .i64 12, .string ⟨#[97, 116]⟩, .string ⟨#[]⟩, .int .i64 0, .int .i64 (atF t.data.toList i : Int), .slice none 0 0] 156) = w1 at E1 F1 R1 X1 ⊢
  obtain ⟨be, hbe⟩ : ∃ be, w.heap.size = be := ⟨_, rfl⟩
  rw [hbe] at E1 hlb hlo X1 hb2 ⊢
  have hwb : w.heap.size ≤ be := by omega
  clear hbe
  have hne : be ≠ br := by omega
  rcases enterX_cases hd h with ⟨hd2, hk⟩ | ⟨rfl, rfl⟩
  case inr =>
    refine (fenter_full w1 br t i R1.out).mono ?_
    rintro e w2 ⟨rfl, rfl⟩
    exact ⟨rfl, F1.out, rfl⟩
  refine (fenter_ok w1 br t i d R1.out ht hd2).mono ?_
  rintro e w2 ⟨rfl, hr, hf⟩
  have R2 : Hid (RdF w2 br t (i + 1) (d + 1)) := hr
  have E2 : Hid (EBlk w2 be 12 ⟨#[97, 116]⟩ ⟨#[]⟩ 0 (atF t.data.toList i) none 0 0) := E1.out.of hf hne
  have F2 : Hid (Fr (· ≠ br) w w2) := F1.out.trans hf
  have X2 : Hid (TreeE (fun k => lo ≤ k ∧ k < be) w2 x (.pointer (some ⟨bl, 0, none⟩))) := X1.out.fr (hf.mono fun k q => by omega) fun _ _ q => q
  have hs2 : be < w2.heap.size := block_lt E2.out
  clear hr hf E1 F1 R1 X1 h
  go_wp2_with fail
  rcases bX_cases hk with ⟨⟨c, p⟩, hn, rfl⟩ | ⟨y, j, hn, hk2⟩
  · refine (fexpr_any HS.out w2 (d + 1) _ _ (by omega) (HI.out.fr F2.out) R2.out hn).mono ?_
    rintro e w3 ⟨hf, rfl⟩
    exact ⟨rfl, F2.out.trans hf, rfl⟩
  refine (fexpr_any HS.out w2 (d + 1) _ _ (by omega) (HI.out.fr F2.out) R2.out hn).mono ?_
  rintro e w3 ⟨hf, ⟨vy, rfl, hv⟩, hr⟩
  have q := hyes y j hn
  have R3 : Hid (RdF w3 br t j (d + 1)) := hr
  have F3 : Hid (Fr (· ≠ br) w w3) := F2.out.trans hf
  have E3 : Hid (EBlk w3 be 12 ⟨#[97, 116]⟩ ⟨#[]⟩ 0 (atF t.data.toList i) none 0 0) := E2.out.of hf hne
  have X3 : Hid (TreeE (fun k => lo ≤ k ∧ k < be) w3 x (.pointer (some ⟨bl, 0, none⟩))) := X2.out.fr (hf.mono fun k q => by omega) fun _ _ q => q
  have Y3 : Hid (TreeE (fun k => w2.heap.size ≤ k) w3 y vy) := hv
  have hs3 : be < w3.heap.size := block_lt E3.out
  have hz3 := hf.size
  clear hf hr hv hn hk hyes E2 F2 R2 X2
  obtain ⟨bb, rfl, -, -⟩ := Y3.out.ptr
  have c5 := block_cell E3.out 5
  have f5 := frozen_block E3.out 5
  have htx : (tkF t.data.toList j).tx = txF t.data.toList j := rfl
  simp only [htx] at hk2
  clear htx
  rw [q, if_pos rfl] at hk2
  have hF4 : Fr (fun k => k ≠ be) w3 ((w3.setCell ⟨be, 5, none⟩ (.slice (some ⟨w3.heap.size, 0, none⟩) 2 2)).alloc (.cells #[.pointer (some ⟨bl, 0, none⟩), .pointer (some ⟨bb, 0, none⟩)] 93)) := ((Fr.refl _ w3).set (by simp) _).alloc _
  have E4 : Hid (EBlk ((w3.setCell ⟨be, 5, none⟩ (.slice (some ⟨w3.heap.size, 0, none⟩) 2 2)).alloc (.cells #[.pointer (some ⟨bl, 0, none⟩), .pointer (some ⟨bb, 0, none⟩)] 93)) be 12 ⟨#[97, 116]⟩ ⟨#[]⟩ 0 (atF t.data.toList i) (some ⟨w3.heap.size, 0, none⟩) 2 2) := (E3.out.parts _ _ _).of (P := fun _ => True) ((Fr.refl _ _).alloc _) trivial
  have B4 : Hid (((w3.setCell ⟨be, 5, none⟩ (.slice (some ⟨w3.heap.size, 0, none⟩) 2 2)).alloc (.cells #[.pointer (some ⟨bl, 0, none⟩), .pointer (some ⟨bb, 0, none⟩)] 93)).heap[w3.heap.size]? = some (.cells #[.pointer (some ⟨bl, 0, none⟩), .pointer (some ⟨bb, 0, none⟩)] 93 (0, 0))) := heap_new (by simp)
  have R4 : Hid (RdF _ br t j (d + 1)) := RdF.of R3.out hF4 (Ne.symm hne)
  have F4 : Hid (Fr (· ≠ br) w _) := F3.out.fresh (hF4.mono fun _ q => q.2) hwb
  have X4 : Hid (TreeE (fun k => lo ≤ k ∧ k < w3.heap.size ∧ k ≠ be) _ x (.pointer (some ⟨bl, 0, none⟩))) := X3.out.fr (hF4.mono fun _ _ => by omega) fun _ h q => by omega
  have Y4 : Hid (TreeE (fun k => lo ≤ k ∧ k < w3.heap.size ∧ k ≠ be) _ y (.pointer (some ⟨bb, 0, none⟩))) := Y3.out.fr (hF4.mono fun _ _ => by omega) fun _ h q => by omega
  have HK4 : Hid (Calls _ _ _ _ _) := HK.out _ j true R4.out q
  clear hF4 E3 F3 R3 X3 Y3 q
  go_wp2_with fail
  clear c5 f5
  generalize (w3.setCell ⟨be, 5, none⟩ (.slice (some ⟨w3.heap.size, 0, none⟩) 2 2)).alloc (.cells #[.pointer (some ⟨bl, 0, none⟩), .pointer (some ⟨bb, 0, none⟩)] 93) = w4 at E4 B4 R4 F4 X4 Y4 HK4 ⊢
  obtain ⟨bg, hbg⟩ : ∃ bg, w3.heap.size = bg := ⟨_, rfl⟩
  rw [hbg] at E4 B4 X4 Y4 hs3 hz3 ⊢
  clear hbg
  refine HK4.out.mono ?_
  rintro e w5 ⟨rfl, hr, hf⟩
  have R5 : Hid (RdF w5 br t (j + 1) (d + 1)) := hr
  have F5 : Hid (Fr (· ≠ br) w w5) := F4.out.trans hf
  have E5 : Hid (EBlk w5 be 12 ⟨#[97, 116]⟩ ⟨#[]⟩ 0 (atF t.data.toList i) (some ⟨bg, 0, none⟩) 2 2) := E4.out.of hf hne
  have B5 : Hid (w5.heap[bg]? = some (.cells #[.pointer (some ⟨bl, 0, none⟩), .pointer (some ⟨bb, 0, none⟩)] 93 (0, 0))) := (hf.block bg (block_lt B4.out) (by omega)).trans B4.out
  have X5 : Hid (TreeE (fun k => lo ≤ k ∧ k < bg ∧ k ≠ be) w5 x (.pointer (some ⟨bl, 0, none⟩))) := X4.out.fr (hf.mono fun k q => by omega) fun _ _ q => q
  have Y5 : Hid (TreeE (fun k => lo ≤ k ∧ k < bg ∧ k ≠ be) w5 y (.pointer (some ⟨bb, 0, none⟩))) := Y4.out.fr (hf.mono fun k q => by omega) fun _ _ q => q
  have c1 := block_cell E5.out 1
  have f1 := frozen_block E5.out 1
  have c5 := block_cell E5.out 5
  have f5 := frozen_block E5.out 5
  clear hr hf R4 F4 E4 B4 X4 Y4 HK4
  go_wp2_with fail
  have E6 : Hid (EBlk (w5.setCell ⟨be, 1, none⟩ (.string ⟨#[112, 117, 116]⟩)) be 12 ⟨#[112, 117, 116]⟩ ⟨#[]⟩ 0 (atF t.data.toList i) (some ⟨bg, 0, none⟩) 2 2) := E5.out.op _
  have R6 : Hid (RdF (w5.setCell ⟨be, 1, none⟩ (.string ⟨#[112, 117, 116]⟩)) br t (j + 1) (d + 1)) := R5.out.setB (Ne.symm hne) _
  have F6 : Hid (Fr (· ≠ br) w (w5.setCell ⟨be, 1, none⟩ (.string ⟨#[112, 117, 116]⟩))) := F5.out.setB hwb _
  have hf6 : Fr (· ≠ be) w5 (w5.setCell ⟨be, 1, none⟩ (.string ⟨#[112, 117, 116]⟩)) := (Fr.refl _ w5).set (by simp) _
  have X6 : Hid (TreeE (fun k => lo ≤ k ∧ k < bg ∧ k ≠ be) _ x (.pointer (some ⟨bl, 0, none⟩))) := X5.out.fr (hf6.mono fun k q => q.2.2) fun _ _ q => q
  have Y6 : Hid (TreeE (fun k => lo ≤ k ∧ k < bg ∧ k ≠ be) _ y (.pointer (some ⟨bb, 0, none⟩))) := Y5.out.fr (hf6.mono fun k q => q.2.2) fun _ _ q => q
  have B6 : Hid ((w5.setCell ⟨be, 1, none⟩ (.string ⟨#[112, 117, 116]⟩)).heap[bg]? = some (.cells #[.pointer (some ⟨bl, 0, none⟩), .pointer (some ⟨bb, 0, none⟩)] 93 (0, 0))) := (hf6.block bg (block_lt B5.out) (by omega)).trans B5.out
  clear c1 f1 c5 f5 hf6 E5 R5 F5 X5 Y5 B5
  generalize w5.setCell ⟨be, 1, none⟩ (.string ⟨#[112, 117, 116]⟩) = w6 at E6 R6 F6 X6 Y6 B6 ⊢
  have c5 := block_cell E6.out 5
  have k5 := block_cell (E6.out.of (P := fun _ => True) (Fr.grew (Grew.refl _).drew) trivial) 5
  have f5 := frozen_block E6.out 5
  have R7 : Hid (RdF w6.drew br t (j + 1) (d + 1)) := RdF.of R6.out (P := fun _ => True) (Fr.grew (Grew.refl _).drew) trivial
  have F7 : Hid (Fr (· ≠ br) w w6.drew) := F6.out.drew
  rcases bX_cases hk2 with ⟨⟨c, p⟩, hn, rfl⟩ | ⟨z, j2, hn, hk3⟩
  · have HC : Hid (Calls _ _ _ _ _) := fexpr_any HS.out w6.drew (d + 1) _ _ (by omega) (HI.out.fr F7.out) R7.out hn
    refine wp_region_any (by kernel_rfl) ?_
    change wpAny _ _ _ _ _ _ _ (World.drew _)
    refine wpAny_take (i := 0) (v := .pointer (some ⟨be, 0, none⟩)) rfl (by kernel_rfl) (by kernel_rfl) (by kernel_rfl) (fun _ _ _ h => h) (Or.inl ⟨by rfl, by intro w; go_simp⟩) ?_
    refine wpAny_take (i := 1) (v := .pointer (some ⟨be, 0, none⟩)) rfl (by kernel_rfl) (by kernel_rfl) (by kernel_rfl) (fun _ _ _ h => h) (Or.inl ⟨by rfl, by intro w; go_simp⟩) ?_
    refine wpAny_take (i := 5) (v := .pointer (some ⟨br, 0, none⟩)) rfl (by kernel_rfl) (by kernel_rfl) (by kernel_rfl) (fun _ _ _ h => h) (Or.inl ⟨by rfl, by intro w; go_simp⟩) ?_
    refine wpAny_take (i := 2) (v := .pointer (some ⟨be, 0, none⟩)) rfl (by kernel_rfl) (by kernel_rfl) (by kernel_rfl) (fun _ _ _ h => h) (Or.inl ⟨by rfl, by intro w; go_simp⟩) ?_
    refine wpAny_take (i := 3) (v := .pointer (some ⟨be, 5, none⟩)) rfl (by kernel_rfl) (by kernel_rfl) (by kernel_rfl) (fun _ _ _ h => h) (Or.inl ⟨by rfl, by intro w; go_simp⟩) ?_
    refine wpAny_ready (rs := [4, 6]) (by kernel_rfl) (by simp) ?_
    refine AllReady.cons rfl (fun K hK => ?_) (AllReady.cons rfl (fun K hK => ?_) AllReady.nil)
    · go_simp
      refine hK _ _ ?_
      clear hK K
      refine wpAny_ready (rs := [6]) (by kernel_rfl) (by simp) ?_
      refine AllReady.cons rfl (fun K hK => ?_) AllReady.nil
      go_simp
      refine HC.out.mono ?_
      rintro e w8 ⟨hf, rfl⟩
      exact ⟨rfl, F7.out.trans hf, rfl⟩
    · go_simp
      refine HC.out.mono ?_
      rintro e w8 ⟨hf, rfl⟩
      exact ⟨rfl, F7.out.trans hf, rfl⟩
  have HC : Hid (Calls _ _ _ _ _) := fexpr_any HS.out w6.drew (d + 1) _ _ (by omega) (HI.out.fr F7.out) R7.out hn
  obtain ⟨i0, hi0, hz0, hz1, hz2⟩ : ∃ i0, Tryz.prog.info? 93 = some i0 ∧ i0.zero = some (.pointer none) ∧ i0.size = 1 ∧ i0.bytes = 8 := by
    have := infoE
    cases hq : Tryz.prog.info? 93 with
    | none => rw [hq] at this; simp at this
    | some j => rw [hq] at this; simp at this; exact ⟨j, rfl, this.1, this.2.1, this.2.2⟩
  have hbg6 : bg < w6.heap.size := block_lt B6.out
  have hbgd : bg < w6.drew.heap.size := by simp; exact hbg6
  have hmx : 2 + 1 ≤ maxLen := by unfold maxLen; omega
  have hby : (2 + 1) * 8 ≤ 140737488355328 := by omega
  clear hk2 hn
  have HPO : Hid (∀ (w8 : World) (vz : Value), Fr (· ≠ br) w6.drew w8 → TreeE (fun k => w6.drew.heap.size ≤ k) w8 z vz → ∃ bz, vz = .pointer (some ⟨bz, 0, none⟩) ∧ EBlk w8 be 12 ⟨#[112, 117, 116]⟩ ⟨#[]⟩ 0 (atF t.data.toList i) (some ⟨bg, 0, none⟩) 2 2 ∧ (w8.alloc (.cells #[.pointer (some ⟨bz, 0, none⟩)] 93)).ownsRow lo 93 1 (.slice (some ⟨bg, 0, none⟩) 2 2) 2 [.pointer (some ⟨bl, 0, none⟩), .pointer (some ⟨bb, 0, none⟩)] ∧ lo ≤ (w8.alloc (.cells #[.pointer (some ⟨bz, 0, none⟩)] 93)).heap.size ∧ (w8.alloc (.cells #[.pointer (some ⟨bz, 0, none⟩)] 93)).heap[w8.heap.size]? = some (.cells #[.pointer (some ⟨bz, 0, none⟩)] 93 (0, 0))) := by
    intro w8 vz hf hv
    obtain ⟨bz, rfl, -, -⟩ := hv.ptr
    have hfd : Fr (· ≠ br) w6 w8 := (Fr.grew (Grew.refl _).drew).trans hf
    have hB : w8.heap[bg]? = _ := (hfd.block bg hbg6 (by omega)).trans B6.out
    refine ⟨bz, rfl, E6.out.of hfd hne, World.ownsRow.alloc ⟨rfl, .inr ⟨bg, 2, _, rfl, by omega, hB, by omega, by unfold maxLen; omega, rfl, rfl⟩⟩ _, ?_, heap_new rfl⟩
    have := hfd.size
    simp; omega
  go_region_law (first
    | (refine step_append_lies _ rfl _ _ 154 rfl lo 93 i0 _ 1 8 Tryz.underlying154 hi0 hz0 hz1 hz2 rfl (by decide) (.slice (some ⟨bg, 0, none⟩) 2 2) 2 _ (by simp [Act.eval]) OW.out _ 1 1 [.pointer (some ⟨bz, 0, none⟩)] (by simp [Act.eval]) rfl (World.news_of_block NB.out) (by simp; rfl) (by decide) hmx hby LW.out (w8.heap.size + 1) (by simp) ?_
       intro g cap w9 ho hg hat hlt
       have HP9 : Hid (TreeE (fun k => lo ≤ k) (w9.setCell ⟨be, 5, none⟩ (.slice (some ⟨g, 0, none⟩) 3 cap)) (dPut x y z) (.pointer (some ⟨be, 0, none⟩)) ∧ Fr (fun k => k ≠ be ∧ k ≠ bg) w8 (w9.setCell ⟨be, 5, none⟩ (.slice (some ⟨g, 0, none⟩) 3 cap))) := put_tree E8.out X8.out Y8.out Z8.out hlo hs3 hbgd hz8 ho hg hat
       obtain ⟨c9, f9⟩ := put_cells E8.out (by omega) hg
       clear ho hg hat hlt)
    | (go_simp; go_wp2_with (go_at_call 95; refine HC.out.mono ?_; rintro e w8 ⟨hf, ⟨vz, rfl, hv⟩, hr⟩; obtain ⟨bz, rfl, hE, hO, hL, hN⟩ := HPO.out w8 vz hf hv; have R8 : Hid (RdF w8 br t j2 (d + 1)) := hr; have F8 : Hid (Fr (· ≠ br) w w8) := F7.out.trans hf; have E8 : Hid (EBlk w8 be 12 ⟨#[112, 117, 116]⟩ ⟨#[]⟩ 0 (atF t.data.toList i) (some ⟨bg, 0, none⟩) 2 2) := hE; have OW : Hid (World.ownsRow _ _ _ _ _ _ _) := hO; have LW : Hid (_ ≤ _) := hL; have NB : Hid (_ = _) := hN; have X8 : Hid (TreeE (fun k => lo ≤ k ∧ k < bg ∧ k ≠ be) w8 x (.pointer (some ⟨bl, 0, none⟩))) := X6.out.fr (((Fr.grew (Grew.refl _).drew).trans hf).mono fun k q => by omega) fun _ _ q => q; have Y8 : Hid (TreeE (fun k => lo ≤ k ∧ k < bg ∧ k ≠ be) w8 y (.pointer (some ⟨bb, 0, none⟩))) := Y6.out.fr (((Fr.grew (Grew.refl _).drew).trans hf).mono fun k q => by omega) fun _ _ q => q; have Z8 : Hid (TreeE (fun k => w6.drew.heap.size ≤ k) w8 z (.pointer (some ⟨bz, 0, none⟩))) := hv; have hz8 := hf.size; have k8 := block_cell hE 5; have hb8 : be < w8.heap.size := block_lt hE; clear hr hf hv hE hO hL hN)))
  all_goals obtain ⟨hT, hF9⟩ := HP9.out
  all_goals have R9 : Hid (RdF (w9.setCell ⟨be, 5, none⟩ (.slice (some ⟨g, 0, none⟩) 3 cap)) br t j2 (d + 1)) := RdF.of R8.out hF9 ⟨Ne.symm hne, by omega⟩
  all_goals have F9 : Hid (Fr (· ≠ br) w (w9.setCell ⟨be, 5, none⟩ (.slice (some ⟨g, 0, none⟩) 3 cap))) := F8.out.fresh2 hF9 hwb (by omega)
  all_goals have T9 : Hid (TreeE (fun k => lo ≤ k) (w9.setCell ⟨be, 5, none⟩ (.slice (some ⟨g, 0, none⟩) 3 cap)) (dPut x y z) (.pointer (some ⟨be, 0, none⟩))) := hT
  all_goals clear hT hF9 HP9 R8 F8 E8 OW LW NB X8 Y8 Z8 k8 hb8 c9 f9 c5 k5 f5 E6 R6 F6 X6 Y6 B6 R7 F7 HC HPO
  all_goals generalize w9.setCell ⟨be, 5, none⟩ (.slice (some ⟨g, 0, none⟩) 3 cap) = w10 at R9 F9 T9 ⊢
  all_goals
    go_wp2_with fail
    rcases needX_cases hk3 with ⟨hb, hk4⟩ | ⟨hb, rfl⟩
    rotate_left
    · refine (HD.out w10 ⟨#[93]⟩ j2 false R9.out hb).mono ?_
      rintro e w11 ⟨hf, ⟨q, -⟩ | ⟨-, rfl⟩⟩
      · simp at q
      · exact ⟨rfl, F9.out.trans hf, rfl⟩
    refine (HD.out w10 ⟨#[93]⟩ j2 true R9.out hb).mono ?_
    rintro e w11 ⟨hf, ⟨-, rfl, hr⟩ | ⟨q, -⟩⟩
    rotate_left
    · simp at q
    have R11 : Hid (RdF w11 br t (j2 + 1) (d + 1)) := hr
    have F11 : Hid (Fr (· ≠ br) w w11) := F9.out.trans hf
    have T11 : Hid (TreeE (fun k => lo ≤ k) w11 (dPut x y z) (.pointer (some ⟨be, 0, none⟩))) := T9.out.fr (hf.mono fun k q => by omega) fun _ _ q => q
    have HQ : Hid (r = .ok (dPut x y z, j2 + 1)) := by simp only [okX, Option.some.injEq] at hk4; exact hk4.symm
    clear hf hr hb hk3 hk4 R9 F9 T9
    go_wp2_with (go_at_call 318; refine (HL.out _ _ R11.out).mono ?_; rintro e w12 ⟨rfl, hr, hf⟩; have R12 : Hid (RdF w12 br t (j2 + 1) d) := hr; have F12 : Hid (Fr (· ≠ br) w w12) := F11.out.trans hf; have T12 : Hid (TreeE (fun k => lo ≤ k) w12 (dPut x y z) (.pointer (some ⟨be, 0, none⟩))) := T11.out.fr (hf.mono fun k q => by omega) fun _ _ q => q; clear hr hf)
    go_ret
    rw [HQ.out]
    exact ⟨F12.out, ⟨_, rfl, T12.out⟩, R12.out⟩
end Go.Proofs.YtjbekejcghjhbaaGreatDoor.Sx
