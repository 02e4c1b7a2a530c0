/- What a bracket begins; what an expression begins with. -/
import Derived.Test.YtjbekejcghjhbaaGreatDoorF15
namespace Go.Proofs.YtjbekejcghjhbaaGreatDoor.Sx
open Go.RowKit Go.Sort

theorem fbracket_any {br : Nat} {t : ByteArray} {self : Nat → Nat → Nat → RX PX} (hS : SelfOK br t self) (w : World) (d i m : Nat) (hd : d ≤ 24) (ht : t.size ≤ 4000) (hm : m ≤ 1000000) (hI : EnvF w br) (hr : RdF w br t i d)
    (r : Except (Nat × Nat) (PX × Nat)) (h : bracketX (tkF t.data.toList) self m d i = some r) :
    Calls Tryz.prog 338 #[.pointer (some ⟨br, 0, none⟩)] w (PostE w br t d r) := by
  by_cases h1 : txF t.data.toList i = [40]
  · exact fbracket_par hS w d i m hd ht hI hr h1 r h
  by_cases h2 : txF t.data.toList i = [123]
  · exact fbracket_set hS w d i m hd ht hm hI hr h2 r h
  by_cases h3 : txF t.data.toList i = [60, 60]
  · exact fbracket_seq hS w d i m hd ht hm hI hr h3 r h
  by_cases h4 : txF t.data.toList i = [91]
  · exact fbracket_fun hS w d i m hd ht hm hI hr h4 r h
  exact fbracket_none hS w d i m hd hI hr ⟨h1, h2, h3, h4⟩ r h

/-- what a text is read to -/
def txtX (K : Nat → Tk) (i : Nat) : RX PX := okX (dTxt (((K i).tx.take ((K i).tx.length - 1)).drop 1)) (i + 1)
set_option maxRecDepth 100000 in
set_option maxHeartbeats 1000000 in
theorem ffirst_txt {br : Nat} {t : ByteArray} (w : World) (d i : Nat) (ht : t.size ≤ 4000) (hr : RdF w br t i d) (hc : clF t.data.toList i = 3)
    (r : Except (Nat × Nat) (PX × Nat)) (h : txtX (tkF t.data.toList) i = some r) :
    Calls Tryz.prog 320 #[.pointer (some ⟨br, 0, none⟩)] w (PostE w br t d r) := by
  have hl2 : 2 ≤ (pcF t i).size := by
    have := (tkF_ok t.data.toList i).two hc
    rw [pcF_size, ← txF_length]
    exact this
  have hat := atF_le t.data.toList i
  have hl : t.data.toList.length = t.size := by simp
  have hsz := pcF_size t i
  have hs4 : (pcF t i).size ≤ 4000 := by omega
  have HR : Hid (RdF w br t i d) := hr
  have hlb := block_lt hr
  have h1 := block_cell hr 1
  have h2 := block_cell hr 2
  have h3 := block_cell hr 3
  rw [hc] at h3
  have hrd := RdF.of HR.out (P := fun _ => True) (Fr.grew (Grew.refl w).drew) trivial
  have k1 := block_cell hrd 1
  have k2 := block_cell hrd 2
  have hsp : (pcF t i).data.toList = txF t.data.toList i := pcF_list t i
  have HQ : Hid (r = .ok (dTxt ((((pcF t i).data.toList).take ((pcF t i).size - 1)).drop 1), i + 1)) := by
    show _ = _
    have htx : (tkF t.data.toList i).tx = txF t.data.toList i := rfl
    simp only [txtX, okX, htx, Option.some.injEq] at h
    rw [hsp, hsz, ← txF_length]
    exact h.symm
  clear hr hrd hat hl hsz h hsp
  have mo := follows
  have hn1 : (((pcF t i).size : Int) - 1).toNat = (pcF t i).size - 1 := by omega
  have hn2 : (1 : Int) ≤ ((pcF t i).size : Int) - 1 := by omega
  have hn3 : ((pcF t i).size : Int) - 1 ≤ ((pcF t i).size : Int) := by omega
  go_enter Tryz.func320, Tryz.ntmps320
  go_wp2_with fail
  go_big_region_o
  have hfa : Fr (fun _ => True) w (w.alloc (.cells #[.int .i64 1, .string ⟨#[]⟩, .string ((pcF t i).extract 1 ((pcF t i).size - 1)), .int .i64 0, .int .i64 (atF t.data.toList i : Int), .slice none 0 0] 156)).drew := ((Fr.refl _ w).alloc _).drew
  have E1 : Hid (EBlk (w.alloc (.cells #[.int .i64 1, .string ⟨#[]⟩, .string ((pcF t i).extract 1 ((pcF t i).size - 1)), .int .i64 0, .int .i64 (atF t.data.toList i : Int), .slice none 0 0] 156)).drew w.heap.size 1 ⟨#[]⟩ ((pcF t i).extract 1 ((pcF t i).size - 1)) 0 (atF t.data.toList i) none 0 0) := EBlk.of (w := w.alloc (.cells #[.int .i64 1, .string ⟨#[]⟩, .string ((pcF t i).extract 1 ((pcF t i).size - 1)), .int .i64 0, .int .i64 (atF t.data.toList i : Int), .slice none 0 0] 156)) (heap_new rfl) (P := fun _ => True) (Fr.grew (Grew.refl _).drew) trivial
  have F1 : Hid (Fr (· ≠ br) w _) := hfa.mono fun _ _ => trivial
  have R1 : Hid (RdF _ br t i d) := RdF.of HR.out hfa trivial
  clear h1 h2 h3 k1 k2 HR hfa
  generalize (w.alloc (.cells #[.int .i64 1, .string ⟨#[]⟩, .string ((pcF t i).extract 1 ((pcF t i).size - 1)), .int .i64 0, .int .i64 (atF t.data.toList i : Int), .slice none 0 0] 156)).drew = w1 at E1 F1 R1 ⊢
  have HA : Hid (Calls _ _ _ _ _) := fadvance_st w1 br t i d R1.out ht
  go_wp2_with (go_at_call 146; refine HA.out.mono ?_; rintro e w2 ⟨rfl, hr, hf⟩; have R2 : Hid (RdF w2 br t (i + 1) d) := hr; have F2 : Hid (Fr (· ≠ br) w w2) := F1.out.trans hf; have E2 : Hid (EBlk w2 w.heap.size 1 ⟨#[]⟩ ((pcF t i).extract 1 ((pcF t i).size - 1)) 0 (atF t.data.toList i) none 0 0) := E1.out.of hf (by omega); clear hr hf)
  go_ret
  rw [HQ.out]
  exact ⟨F2.out, ⟨_, rfl, TreeE.node ⟨w.heap.size, 1, ⟨#[]⟩, _, 0, atF t.data.toList i, none, 0, 0, [], rfl, Nat.le_refl _, E2.out, row_nil _, .inr (.inl ⟨rfl, by rw [extract_list]⟩)⟩⟩, R2.out⟩

set_option maxRecDepth 100000 in
set_option maxHeartbeats 1000000 in
theorem ffirst_any {br : Nat} {t : ByteArray} {self : Nat → Nat → Nat → RX PX} (hS : SelfOK br t self) (w : World) (d i m : Nat) (hd : d ≤ 24) (ht : t.size ≤ 4000) (hm : m ≤ 1000000) (hI : EnvF w br) (hr : RdF w br t i d)
    (r : Except (Nat × Nat) (PX × Nat)) (h : firstX (tkF t.data.toList) self m d i = some r) :
    Calls Tryz.prog 320 #[.pointer (some ⟨br, 0, none⟩)] w (PostE w br t d r) := by
  have hcl : (tkF t.data.toList i).cl = clF t.data.toList i := rfl
  have h3 := block_cell hr 3
  unfold firstX at h
  rw [hcl] at h
  clear hcl
  have mo := follows
  by_cases q2 : clF t.data.toList i = 2
  · rw [q2] at h3
    rw [if_pos q2] at h
    have HC : Hid (Calls _ _ _ _ _) := fnumber_any w d i ht hI hr (fun v hv => by have := Lib.parseIntB_bounds hv; omega) r h
    clear hS hr h hI q2
    go_enter Tryz.func320, Tryz.ntmps320
    go_wp2_with fail
    refine HC.out.mono ?_
    rintro e w' ⟨hf, hm⟩
    rcases r with ⟨c, p⟩ | ⟨x, j⟩
    · obtain rfl := hm
      exact ⟨rfl, hf, rfl⟩
    · obtain ⟨⟨v, rfl, hv⟩, hr⟩ := hm
      have HH : Hid (PostE w br t d (.ok (x, j)) (.returned v) w') := ⟨hf, ⟨v, rfl, hv⟩, hr⟩
      clear hf hv hr HC
      go_wp2_with fail
      go_ret
      exact HH.out
  rw [if_neg q2] at h
  by_cases q3 : clF t.data.toList i = 3
  · rw [if_pos q3] at h
    exact ffirst_txt w d i ht hr q3 r h
  rw [if_neg q3] at h
  by_cases q1 : clF t.data.toList i = 1
  · rw [q1] at h3
    rw [if_pos q1] at h
    have HC : Hid (Calls _ _ _ _ _) := fword_any hS w d i m hd ht hm hI hr r h
    clear hS hr h hI q1 q2 q3
    go_enter Tryz.func320, Tryz.ntmps320
    go_wp2_with fail
    refine HC.out.mono ?_
    rintro e w' ⟨hf, hm⟩
    rcases r with ⟨c, p⟩ | ⟨x, j⟩
    · obtain rfl := hm
      exact ⟨rfl, hf, rfl⟩
    · obtain ⟨⟨v, rfl, hv⟩, hr⟩ := hm
      have HH : Hid (PostE w br t d (.ok (x, j)) (.returned v) w') := ⟨hf, ⟨v, rfl, hv⟩, hr⟩
      clear hf hv hr HC
      go_wp2_with fail
      go_ret
      exact HH.out
  · rw [if_neg q1] at h
    have HC : Hid (Calls _ _ _ _ _) := fbracket_any hS w d i m hd ht hm hI hr r h
    obtain ⟨c, hc⟩ : ∃ c, clF t.data.toList i = c := ⟨_, rfl⟩
    rw [hc] at h3 q1 q2 q3
    have g1 : ((c : Int) == 2) = false := by simp; omega
    have g2 : ((c : Int) == 3) = false := by simp; omega
    have g3 : ((c : Int) == 1) = false := by simp; omega
    clear hS hr h hI q1 q2 q3 hc
    go_enter Tryz.func320, Tryz.ntmps320
    go_wp2_with fail
    refine HC.out.mono ?_
    rintro e w' ⟨hf, hm⟩
    rcases r with ⟨c, p⟩ | ⟨x, j⟩
    · obtain rfl := hm
      exact ⟨rfl, hf, rfl⟩
    · obtain ⟨⟨v, rfl, hv⟩, hr⟩ := hm
      have HH : Hid (PostE w br t d (.ok (x, j)) (.returned v) w') := ⟨hf, ⟨v, rfl, hv⟩, hr⟩
      clear hf hv hr HC
      go_wp2_with fail
      go_ret
      exact HH.out
end Go.Proofs.YtjbekejcghjhbaaGreatDoor.Sx

namespace Go.Proofs.YtjbekejcghjhbaaGreatDoor.Sx
open Go.RowKit Go.Sort

theorem fasked_any {br : Nat} {t : ByteArray} {self : Nat → Nat → Nat → RX PX} (hS : SelfOK br t self) (w : World) (lo d i : Nat) (x : PX) (v : Value) (hd : d ≤ 24) (ht : t.size ≤ 4000) (hI : EnvF w br) (hr : RdF w br t i d) (hlo : lo ≤ w.heap.size) (hbl : br < lo) (hx : TreeE (fun k => lo ≤ k) w x v)
    (r : Except (Nat × Nat) (PX × Nat)) (h : askedX (tkF t.data.toList) self d x i = some r) :
    Calls Tryz.prog 321 #[.pointer (some ⟨br, 0, none⟩), v] w (PostL lo w br t d r) := by
  cases hq : self 0 (d + 1) (i + 1) with
  | none => exact fasked_at hS w lo d i x v hd ht hI hr hlo hbl hx (fun y j e => by rw [hq] at e; simp at e) r h
  | some q =>
    rcases q with e | ⟨y, j⟩
    · exact fasked_at hS w lo d i x v hd ht hI hr hlo hbl hx (fun y j e => by rw [hq] at e; simp at e) r h
    · cases hb : txF t.data.toList j == [58, 61] with
      | true => exact fasked_put hS w lo d i x v hd ht hI hr hlo hbl hx (fun y' j' e => by rw [hq] at e; simp at e; rw [← e.2]; exact hb) r h
      | false => exact fasked_at hS w lo d i x v hd ht hI hr hlo hbl hx (fun y' j' e => by rw [hq] at e; simp at e; rw [← e.2]; exact hb) r h
theorem needX_bX {γ δ : Type} (K : Nat → Tk) (m : List UInt8) (i : Nat) (k : Nat → RX γ) (l : γ → Nat → RX δ) : bX (needX K m i k) l = needX K m i fun j => bX (k j) l := by
  unfold needX; split <;> rfl
theorem enterX_bX {γ δ : Type} (K : Nat → Tk) (d i : Nat) (k : Nat → RX γ) (l : γ → Nat → RX δ) : bX (enterX K d i k) l = enterX K d i fun j => bX (k j) l := by
  unfold enterX; split <;> rfl
/-- one round of what stands behind -/
theorem behindX_step (K : Nat → Tk) (self : Nat → Nat → Nat → RX PX) (M d m : Nat) (x : PX) (i : Nat) : behindX K self M d (m + 1) x i =
    if (K i).tx == [91] then bX (askedX K self d x i) fun y j => behindX K self M d m y j
    else if (K i).tx == [46] then bX (bX (nameX K (i + 1)) fun n j => okX (dAt x (dTxt n)) j) fun y j => behindX K self M d m y j
    else okX x i := by
  rw [behindX]
  split
  · unfold askedX
    rw [enterX_bX]
    congr 1
    funext j
    rw [bX_assoc]
    congr 1
    funext k j
    split
    · rw [bX_assoc]; congr 1; funext v j; rw [needX_bX]; rfl
    · rw [needX_bX]; rfl
  · split
    · rw [bX_assoc]; rfl
    · rfl
theorem PostE.L {w : World} {br : Nat} {t : ByteArray} {d : Nat} {r : Except (Nat × Nat) (PX × Nat)} {e : Ending} {w' : World} (h : PostE w br t d r e w') : PostL w.heap.size w br t d r e w' := h

set_option maxRecDepth 100000 in
set_option maxHeartbeats 1000000 in
theorem ftight_any {br : Nat} {t : ByteArray} {self : Nat → Nat → Nat → RX PX} (hS : SelfOK br t self) (w : World) (d i m : Nat) (hd : d ≤ 24) (ht : t.size ≤ 4000) (hm : m ≤ 1000000) (hI : EnvF w br) (hr : RdF w br t i d)
    (r : Except (Nat × Nat) (PX × Nat)) (h : tightX (tkF t.data.toList) self m d i = some r) :
    Calls Tryz.prog 292 #[.pointer (some ⟨br, 0, none⟩)] w (PostE w br t d r) := by
  have HS : Hid (SelfOK br t self) := hS
  have HI : Hid (EnvF w br) := hI
  have HR : Hid (RdF w br t i d) := hr
  have hlb := block_lt hr
  clear hS hI hr
  have mo := follows
  unfold tightX at h
  go_enter Tryz.func292, Tryz.ntmps292
  go_wp2_with fail
  rcases bX_cases h with ⟨⟨c, p⟩, hn, rfl⟩ | ⟨x, j, hn, hk⟩
  · refine (ffirst_any HS.out w d i m hd ht hm HI.out HR.out _ hn).mono ?_
    rintro e w1 ⟨hf, rfl⟩
    exact ⟨rfl, hf, rfl⟩
  refine (ffirst_any HS.out w d i m hd ht hm HI.out HR.out _ hn).mono ?_
  rintro e w1 ⟨hf, ⟨v, rfl, hv⟩, hr⟩
  have R1 : Hid (RdF w1 br t j d) := hr
  have F1 : Hid (Fr (· ≠ br) w w1) := hf
  have T1 : Hid (TreeE (fun k => w.heap.size ≤ k) w1 x v) := hv
  have P1 : Hid (behindX (tkF t.data.toList) self m d m x j = some r) := hk
  clear hf hr hv hn h hk HR
  obtain ⟨bx, rfl, -, -⟩ := T1.out.ptr
  go_wp2_with fail
  go_loopg [3] (m) (fun f s7 wr => ∃ (j : Nat) (x : PX), Hid (RdF wr br t j d) ∧ Hid (TreeE (fun k => w.heap.size ≤ k) wr x s7) ∧ Hid (behindX (tkF t.data.toList) self m d f x j = some r) ∧ Hid (Fr (· ≠ br) w wr))
  case atStart => exact ⟨j, x, R1, T1, P1, F1⟩
  case round =>
    clear R1 T1 P1 F1
    obtain ⟨j, x, R1, T1, P1, F1⟩ := hrel
    obtain ⟨f, rfl⟩ : ∃ f, gk = f + 1 := by
      cases gk with
      | zero => exact absurd P1.out (by simp [behindX])
      | succ f => exact ⟨f, rfl⟩
    have hp := P1.out
    rw [behindX_step] at hp
    have htx : (tkF t.data.toList j).tx = txF t.data.toList j := rfl
    rw [htx] at hp
    have hpl : (pcF t j).toList = txF t.data.toList j := by rw [ByteArray.toList_eq, pcF_list]
    have h2 := block_cell R1.out 2
    have hw1 := F1.out.size
    obtain ⟨bx, rfl, -, -⟩ := T1.out.ptr
    cases g0 : (txF t.data.toList j == [91]) with
    | true =>
      have k0 : ((pcF t j).toList == [91]) = true := by rw [hpl]; exact g0
      rw [g0, if_pos rfl] at hp
      clear P1 htx hpl g0
      go_wp2_with fail
      rcases bX_cases hp with ⟨⟨c, p⟩, hn, rfl⟩ | ⟨y, j2, hn, hk⟩
      · refine (fasked_any HS.out wr w.heap.size d j x _ hd ht (HI.out.fr F1.out) R1.out hw1 hlb T1.out _ hn).mono ?_
        rintro e w2 ⟨hf, rfl⟩
        exact ⟨rfl, F1.out.trans hf, rfl⟩
      refine (fasked_any HS.out wr w.heap.size d j x _ hd ht (HI.out.fr F1.out) R1.out hw1 hlb T1.out _ hn).mono ?_
      rintro e w2 ⟨hf, ⟨v, rfl, hv⟩, hr⟩
      have R2 : Hid (RdF w2 br t j2 d) := hr
      have F2 : Hid (Fr (· ≠ br) w w2) := F1.out.trans hf
      have T2 : Hid (TreeE (fun k => w.heap.size ≤ k) w2 y v) := hv
      have P2 : Hid (_ = some r) := hk
      clear hf hr hv hn hk hp R1 F1 T1 h2 k0
      obtain ⟨by', rfl, -, -⟩ := T2.out.ptr
      go_wp2_with fail
      go_roundg f
      case measure => omega
      case rel => exact ⟨j2, y, R2, T2, P2, F2⟩
    | false =>
      have k0 : ((pcF t j).toList == [91]) = false := by rw [hpl]; exact g0
      rw [g0, if_neg (by simp)] at hp
      cases g1 : (txF t.data.toList j == [46]) with
      | true =>
        have k1 : ((pcF t j).toList == [46]) = true := by rw [hpl]; exact g1
        rw [g1, if_pos rfl] at hp
        clear P1 htx hpl g0 g1
        go_wp2_with fail
        rcases bX_cases hp with ⟨⟨c, p⟩, hn, rfl⟩ | ⟨y, j2, hn, hk⟩
        · refine (fdotted_any wr br t w.heap.size d j x _ ht R1.out hw1 hlb T1.out _ hn).mono ?_
          rintro e w2 ⟨hf, rfl⟩
          exact ⟨rfl, F1.out.trans hf, rfl⟩
        refine (fdotted_any wr br t w.heap.size d j x _ ht R1.out hw1 hlb T1.out _ hn).mono ?_
        rintro e w2 ⟨hf, ⟨v, rfl, hv⟩, hr⟩
        have R2 : Hid (RdF w2 br t j2 d) := hr
        have F2 : Hid (Fr (· ≠ br) w w2) := F1.out.trans hf
        have T2 : Hid (TreeE (fun k => w.heap.size ≤ k) w2 y v) := hv
        have P2 : Hid (_ = some r) := hk
        clear hf hr hv hn hk hp R1 F1 T1 h2 k0 k1
        obtain ⟨by', rfl, -, -⟩ := T2.out.ptr
        go_wp2_with fail
        go_roundg f
        case measure => omega
        case rel => exact ⟨j2, y, R2, T2, P2, F2⟩
      | false =>
        have k1 : ((pcF t j).toList == [46]) = false := by rw [hpl]; exact g1
        rw [g1, if_neg (by simp)] at hp
        have HQ : Hid (r = .ok (x, j)) := by simp only [okX, Option.some.injEq] at hp; exact hp.symm
        clear P1 htx hpl g0 g1 hp
        go_wp2_with fail
        go_ret
        rw [HQ.out]
        exact ⟨F1.out, ⟨_, rfl, T1.out⟩, R1.out⟩
end Go.Proofs.YtjbekejcghjhbaaGreatDoor.Sx

namespace Go.Proofs.YtjbekejcghjhbaaGreatDoor.Sx
open Go.RowKit Go.Sort

theorem openF_cases (l : List UInt8) : openF l = 0 ∧ opens0.contains l = true ∨ openF l = 6 ∧ opens6.contains l = true ∨ openF l = 12 ∧ opens12.contains l = true ∨ openF l = 14 := by
  unfold openF
  cases h1 : opens0.contains l with
  | true => exact .inl ⟨by simp, rfl⟩
  | false =>
    cases h2 : opens6.contains l with
    | true => exact .inr (.inl ⟨by simp, rfl⟩)
    | false =>
      cases h3 : opens12.contains l with
      | true => exact .inr (.inr (.inl ⟨by simp, rfl⟩))
      | false => exact .inr (.inr (.inr (by simp)))

set_option maxRecDepth 100000 in
set_option maxHeartbeats 1000000 in
theorem fopened_any {br : Nat} {t : ByteArray} {self : Nat → Nat → Nat → RX PX} (hS : SelfOK br t self) (w : World) (d i m : Nat) (hd : d ≤ 24) (ht : t.size ≤ 4000) (hm : m ≤ 1000000) (hI : EnvF w br) (hr : RdF w br t i d)
    (r : Except (Nat × Nat) (PX × Nat)) (h : openedX (tkF t.data.toList) self m (openF (txF t.data.toList i)) d i = some r) :
    Calls Tryz.prog 246 #[.pointer (some ⟨br, 0, none⟩), .int .i64 (openF (txF t.data.toList i) : Int)] w (PostE w br t d r) := by
  unfold openedX at h
  have mo := follows
  rcases openF_cases (txF t.data.toList i) with ⟨q, ho⟩ | ⟨q, ho⟩ | ⟨q, ho⟩ | q
  · have HC : Hid (Calls _ _ _ _ _) := fbinding_any hS w d i hd ht hI hr ho r (by rw [q, if_pos rfl] at h; exact h)
    rw [q]
    clear hS hr h hI ho q
    go_enter Tryz.func246, Tryz.ntmps246
    go_wp2_with fail
    refine HC.out.mono ?_
    rintro e w' ⟨hf, hm⟩
    rcases r with ⟨c, p⟩ | ⟨x, j⟩
    · obtain rfl := hm
      exact ⟨rfl, hf, rfl⟩
    · obtain ⟨⟨v, rfl, hv⟩, hr⟩ := hm
      have HH : Hid (PostE w br t d (.ok (x, j)) (.returned v) w') := ⟨hf, ⟨v, rfl, hv⟩, hr⟩
      clear hf hv hr HC
      go_wp2_with fail
      go_ret
      exact HH.out
  · have HC : Hid (Calls _ _ _ _ _) := fahead_any hS w d i 6 hd ht hI hr (.inl ⟨rfl, ho⟩) r (by rw [q, if_neg (by decide), if_pos (by decide)] at h; exact h)
    rw [q]
    clear hS hr h hI ho q
    go_enter Tryz.func246, Tryz.ntmps246
    go_wp2_with fail
    refine HC.out.mono ?_
    rintro e w' ⟨hf, hm⟩
    rcases r with ⟨c, p⟩ | ⟨x, j⟩
    · obtain rfl := hm
      exact ⟨rfl, hf, rfl⟩
    · obtain ⟨⟨v, rfl, hv⟩, hr⟩ := hm
      have HH : Hid (PostE w br t d (.ok (x, j)) (.returned v) w') := ⟨hf, ⟨v, rfl, hv⟩, hr⟩
      clear hf hv hr HC
      go_wp2_with fail
      go_ret
      exact HH.out
  · have HC : Hid (Calls _ _ _ _ _) := fahead_any hS w d i 12 hd ht hI hr (.inr ⟨rfl, ho⟩) r (by rw [q, if_neg (by decide), if_pos (by decide)] at h; exact h)
    rw [q]
    clear hS hr h hI ho q
    go_enter Tryz.func246, Tryz.ntmps246
    go_wp2_with fail
    refine HC.out.mono ?_
    rintro e w' ⟨hf, hm⟩
    rcases r with ⟨c, p⟩ | ⟨x, j⟩
    · obtain rfl := hm
      exact ⟨rfl, hf, rfl⟩
    · obtain ⟨⟨v, rfl, hv⟩, hr⟩ := hm
      have HH : Hid (PostE w br t d (.ok (x, j)) (.returned v) w') := ⟨hf, ⟨v, rfl, hv⟩, hr⟩
      clear hf hv hr HC
      go_wp2_with fail
      go_ret
      exact HH.out
  · have HC : Hid (Calls _ _ _ _ _) := ftight_any hS w d i m hd ht hm hI hr r (by rw [q, if_neg (by decide), if_neg (by decide)] at h; exact h)
    rw [q]
    clear hS hr h hI q
    go_enter Tryz.func246, Tryz.ntmps246
    go_wp2_with fail
    refine HC.out.mono ?_
    rintro e w' ⟨hf, hm⟩
    rcases r with ⟨c, p⟩ | ⟨x, j⟩
    · obtain rfl := hm
      exact ⟨rfl, hf, rfl⟩
    · obtain ⟨⟨v, rfl, hv⟩, hr⟩ := hm
      have HH : Hid (PostE w br t d (.ok (x, j)) (.returned v) w') := ⟨hf, ⟨v, rfl, hv⟩, hr⟩
      clear hf hv hr HC
      go_wp2_with fail
      go_ret
      exact HH.out

set_option maxRecDepth 100000 in
set_option maxHeartbeats 1000000 in
theorem fholding_any {br : Nat} {t : ByteArray} {self : Nat → Nat → Nat → RX PX} (hS : SelfOK br t self) (w : World) (d i m n : Nat) (hd : d ≤ 24) (hn : n ≤ 12) (ht : t.size ≤ 4000) (hm : m ≤ 1000000) (hI : EnvF w br) (hr : RdF w br t i d)
    (r : Except (Nat × Nat) (PX × Nat)) (h : bX (holdX (tkF t.data.toList) self m n d i) (fun x j => okX x.1 j) = some r) :
    Calls Tryz.prog 148 #[.pointer (some ⟨br, 0, none⟩), .int .i64 (n : Int)] w (PostE w br t d r) := by
  have HS : Hid (SelfOK br t self) := hS
  have HI : Hid (EnvF w br) := hI
  have HR : Hid (RdF w br t i d) := hr
  have hlb := block_lt hr
  have h2 := block_cell hr 2
  have HO : Hid (∀ W : World, _) := fun W => fopening_any (pcF t i) W
  rw [pcF_list] at HO
  have htx : (tkF t.data.toList i).tx = txF t.data.toList i := rfl
  unfold holdX at h
  simp only [htx] at h
  have HP : Hid (Calls _ _ _ _ _) := HO.out w
  clear hS hI hr htx HO
  have mo := follows
  obtain ⟨o, ho⟩ : ∃ o, openF (txF t.data.toList i) = o := ⟨_, rfl⟩
  have HOF : Hid (openF (txF t.data.toList i) = o) := ho
  rw [ho] at h HP
  clear ho
  by_cases hlt : o < n
  · rw [if_pos hlt] at h
    have HQ : Hid (r = .error (1, atF t.data.toList i)) := by simp only [errX, bX, Option.some.injEq] at h; exact h.symm
    have hlt' : (o : Int) < (n : Int) := by omega
    have HF : Hid (Calls _ _ _ _ _) := ffail_any w br t i d 1 HR.out
    clear h hlt
    go_enter Tryz.func148, Tryz.ntmps148
    go_wp2_with (first | (go_at_call 149; refine HP.out.mono ?_; rintro e w' ⟨rfl, rfl⟩) | (go_at_call 147; refine HF.out.mono ?_; rintro e w' ⟨rfl, rfl⟩; unfold Flt))
    rw [HQ.out]
    exact ⟨rfl, Fr.refl _ _, rfl⟩
  rw [if_neg hlt] at h
  have hlt' : ¬ (o : Int) < (n : Int) := by omega
  clear hlt
  rw [bX_assoc] at h
  go_enter Tryz.func148, Tryz.ntmps148
  go_wp2_with (go_at_call 149; refine HP.out.mono ?_; rintro e w' ⟨rfl, rfl⟩)
  have HO2 : Hid (openF (txF t.data.toList i) = o) := HOF
  rcases bX_cases h with ⟨⟨c, p⟩, hq, rfl⟩ | ⟨x, j, hq, hk⟩
  · have HC := fopened_any HS.out w' d i m hd ht hm HI.out HR.out _ (by rw [HO2.out]; exact hq)
    rw [HO2.out] at HC
    refine HC.mono ?_
    rintro e w1 ⟨hf, rfl⟩
    exact ⟨rfl, hf, rfl⟩
  have HC := fopened_any HS.out w' d i m hd ht hm HI.out HR.out _ (by rw [HO2.out]; exact hq)
  rw [HO2.out] at HC
  refine HC.mono ?_
  rintro e w1 ⟨hf, ⟨v, rfl, hv⟩, hr⟩
  have R1 : Hid (RdF w1 br t j d) := hr
  have F1 : Hid (Fr (· ≠ br) w' w1) := hf
  have T1 : Hid (TreeE (fun k => w'.heap.size ≤ k) w1 x v) := hv
  have P1 : Hid (bX (climbX (tkF t.data.toList) self n d m o x j) (fun x j => okX x.1 j) = some r) := hk
  have ho14 : o ≤ 14 := by rcases openF_cases (txF t.data.toList i) with ⟨q, -⟩ | ⟨q, -⟩ | ⟨q, -⟩ | q <;> (have := HO2.out; omega)
  clear hf hr hv hq h hk HC HR h2 HP hlt' HO2 HOF
  obtain ⟨bx, rfl, -, -⟩ := T1.out.ptr
  go_wp2_with fail
  go_loopg [5, 6] (m) (fun f s5 s6 wr => ∃ (j o : Nat) (x : PX), s5 = .int .i64 (o : Int) ∧ o ≤ 14 ∧ Hid (RdF wr br t j d) ∧ Hid (TreeE (fun k => w'.heap.size ≤ k) wr x s6) ∧ Hid (bX (climbX (tkF t.data.toList) self n d f o x j) (fun x j => okX x.1 j) = some r) ∧ Hid (Fr (· ≠ br) w' wr))
  case atStart => exact ⟨j, o, x, rfl, ho14, R1, T1, P1, F1⟩
  case round =>
    clear R1 T1 P1 F1 ho14
    obtain ⟨j, o, x, rfl, ho14, R1, T1, P1, F1⟩ := hrel
    obtain ⟨f, rfl⟩ : ∃ f, gk = f + 1 := by
      cases gk with
      | zero => exact absurd P1.out (by simp [climbX, bX])
      | succ f => exact ⟨f, rfl⟩
    have hp := P1.out
    rw [climbX] at hp
    have htx : (tkF t.data.toList j).tx = txF t.data.toList j := rfl
    simp only [htx] at hp
    have h2 := block_cell R1.out 2
    have hw1 := F1.out.size
    obtain ⟨bx, rfl, -, -⟩ := T1.out.ptr
    have HJ : Hid (∀ W : World, _) := fun W => fjoining_any (pcF t j) W
    rw [pcF_list] at HJ
    obtain ⟨lv, hlv⟩ : ∃ lv, levelF (txF t.data.toList j) = lv := ⟨_, rfl⟩
    have HLV : Hid (levelF (txF t.data.toList j) = lv) := hlv
    rw [hlv] at hp HJ
    have hl11 : lv ≤ 11 := by have := levelF_in (txF t.data.toList j); omega
    have HJ1 : Hid (Calls _ _ _ _ _) := HJ.out wr
    clear htx hlv P1 HJ
    by_cases q0 : lv = 0
    · subst q0
      rw [if_pos (.inl rfl)] at hp
      have HQ : Hid (r = .ok (x, j)) := by simp only [okX, bX, Option.some.injEq] at hp; exact hp.symm
      have hn' : (-1 : Int) < (n : Int) := by omega
      clear hp
      have HJ2 : Hid (Calls Tryz.prog 151 #[.string (pcF t j)] wr fun e w' => e = .returned (.agg #[.int .i64 (-1), .int .i64 0, .int .i64 0]) ∧ Grew wr w') := HJ1.out
      clear HJ1
      go_wp2_with (go_at_call 151; refine HJ2.out.mono ?_; rintro e w2 ⟨rfl, hg⟩; have G2 : Hid (Grew wr w2) := hg; clear hg)
      go_ret
      rw [HQ.out]
      have hfa : Fr (fun _ => True) wr (w2.alloc (.cells #[.int .i64 (-1), .int .i64 0, .int .i64 0] 204)) := (Fr.grew G2.out).alloc _
      exact ⟨F1.out.trans (hfa.mono fun _ _ => trivial), ⟨_, rfl, T1.out.fr (hfa.mono fun _ _ => trivial) fun _ _ q => q⟩, RdF.of R1.out hfa trivial⟩
    have HJ2 : Hid (Calls Tryz.prog 151 #[.string (pcF t j)] wr fun e w' => e = .returned (.agg #[.int .i64 (lv : Int), .int .i64 (leftF lv : Int), .int .i64 (rightF lv : Int)]) ∧ Grew wr w') := by
      have := HJ1.out
      unfold gripV at this
      rw [if_neg q0] at this
      exact this
    clear HJ1
    by_cases q1 : lv < n
    · rw [if_pos (.inr (.inl q1))] at hp
      have HQ : Hid (r = .ok (x, j)) := by simp only [okX, bX, Option.some.injEq] at hp; exact hp.symm
      have hn' : (lv : Int) < (n : Int) := by omega
      clear hp q1 q0
      go_wp2_with (go_at_call 151; refine HJ2.out.mono ?_; rintro e w2 ⟨rfl, hg⟩; have G2 : Hid (Grew wr w2) := hg; clear hg)
      go_ret
      rw [HQ.out]
      have hfa : Fr (fun _ => True) wr (w2.alloc (.cells #[.int .i64 (lv : Int), .int .i64 (leftF lv : Int), .int .i64 (rightF lv : Int)] 204)) := (Fr.grew G2.out).alloc _
      exact ⟨F1.out.trans (hfa.mono fun _ _ => trivial), ⟨_, rfl, T1.out.fr (hfa.mono fun _ _ => trivial) fun _ _ q => q⟩, RdF.of R1.out hfa trivial⟩
    have hn1 : ¬ (lv : Int) < (n : Int) := by omega
    by_cases q2 : o < leftF lv
    · rw [if_pos (.inr (.inr q2))] at hp
      have HQ : Hid (r = .ok (x, j)) := by simp only [okX, bX, Option.some.injEq] at hp; exact hp.symm
      have hn' : (o : Int) < (leftF lv : Int) := by omega
      clear hp q1 q0 q2
      go_wp2_with (go_at_call 151; refine HJ2.out.mono ?_; rintro e w2 ⟨rfl, hg⟩; have G2 : Hid (Grew wr w2) := hg; clear hg)
      go_ret
      rw [HQ.out]
      have hfa : Fr (fun _ => True) wr (w2.alloc (.cells #[.int .i64 (lv : Int), .int .i64 (leftF lv : Int), .int .i64 (rightF lv : Int)] 204)) := (Fr.grew G2.out).alloc _
      exact ⟨F1.out.trans (hfa.mono fun _ _ => trivial), ⟨_, rfl, T1.out.fr (hfa.mono fun _ _ => trivial) fun _ _ q => q⟩, RdF.of R1.out hfa trivial⟩
    have hn2 : ¬ (o : Int) < (leftF lv : Int) := by omega
    rw [if_neg (fun q => by omega), bX_assoc] at hp
    have hp2 : bX (bX (self (rightF lv) d (j + 1)) fun y j' => okX (dBin (txF t.data.toList j) x y) j') (fun z j => bX (climbX (tkF t.data.toList) self n d f lv z j) fun x j => okX x.1 j) = some r := by rw [bX_assoc]; exact hp
    have HG : Hid (gripV lv = .agg #[.int .i64 (lv : Int), .int .i64 (leftF lv : Int), .int .i64 (rightF lv : Int)]) := by show _ = _; unfold gripV; rw [if_neg q0]
    clear hp q1 q2
    go_wp2_with (go_at_call 151; refine HJ2.out.mono ?_; rintro e w2 ⟨rfl, hg⟩; have G2 : Hid (Grew wr w2) := hg; clear hg)
    have GB : Hid ((w2.alloc (.cells #[.int .i64 (lv : Int), .int .i64 (leftF lv : Int), .int .i64 (rightF lv : Int)] 204)).heap[w2.heap.size]? = some (.cells #[.int .i64 (lv : Int), .int .i64 (leftF lv : Int), .int .i64 (rightF lv : Int)] 204 (0, 0))) := heap_new rfl
    have hfa : Fr (fun _ => True) wr (w2.alloc (.cells #[.int .i64 (lv : Int), .int .i64 (leftF lv : Int), .int .i64 (rightF lv : Int)] 204)) := (Fr.grew G2.out).alloc _
    have F2 : Hid (Fr (· ≠ br) w' _) := F1.out.trans (hfa.mono fun _ _ => trivial)
    have T2 : Hid (TreeE (fun k => w'.heap.size ≤ k) _ x _) := T1.out.fr (hfa.mono fun _ _ => trivial) fun _ _ q => q
    have R2 : Hid (RdF _ br t j d) := RdF.of R1.out hfa trivial
    have hw2 := G2.out.below.size
    have hbr2 : br < wr.heap.size := block_lt R1.out
    clear hfa F1 T1 R1 h2 G2
    generalize w2.alloc (.cells #[.int .i64 (lv : Int), .int .i64 (leftF lv : Int), .int .i64 (rightF lv : Int)] 204) = w3 at F2 T2 R2 GB ⊢
    obtain ⟨bg, hbg⟩ : ∃ bg, w2.heap.size = bg := ⟨_, rfl⟩
    rw [hbg] at GB hw2 ⊢
    clear hbg
    have hw3 := F2.out.size
    have hbgr : bg ≠ br := by omega
    have hlb' : br < w'.heap.size := hlb
    have hl' : lv ≤ 14 := by omega
    rcases bX_cases hp2 with ⟨⟨c, p⟩, hq, rfl⟩ | ⟨z, j2, hq, hk⟩
    · have HC := fjoined_any HS.out w3 w'.heap.size d j lv x _ hd ht (HI.out.fr F2.out) R2.out hw3 hlb' T2.out HLV.out q0 _ hq
      rw [HG.out] at HC
      refine HC.mono ?_
      rintro e w4 ⟨hf, rfl⟩
      exact ⟨rfl, F2.out.trans hf, rfl⟩
    have HC := fjoined_any HS.out w3 w'.heap.size d j lv x _ hd ht (HI.out.fr F2.out) R2.out hw3 hlb' T2.out HLV.out q0 _ hq
    rw [HG.out] at HC
    refine HC.mono ?_
    rintro e w4 ⟨hf, ⟨v, rfl, hv⟩, hr⟩
    have R4 : Hid (RdF w4 br t j2 d) := hr
    have F4 : Hid (Fr (· ≠ br) w' w4) := F2.out.trans hf
    have T4 : Hid (TreeE (fun k => w'.heap.size ≤ k) w4 z v) := hv
    have P4 : Hid (_ = some r) := hk
    have c0 := block_cell ((hf.block bg (block_lt GB.out) hbgr).trans GB.out) 0
    clear hf hr hv hq hk hp2 HC F2 T2 R2 GB HJ2 HG HLV hn1 hn2 q0
    obtain ⟨bz, rfl, -, -⟩ := T4.out.ptr
    go_wp2_with fail
    go_roundg f
    case measure => omega
    case rel => exact ⟨j2, lv, z, rfl, hl', R4, T4, P4, F4⟩

/-- the program reads as the plain reader does -/
theorem progX_self (br : Nat) (t : ByteArray) (ht : t.size ≤ 4000) : ∀ f, f ≤ 1000000 → SelfOK br t (progX (tkF t.data.toList) f)
  | 0, _ => fun w n d i r hn hd hI hr h => by simp [progX] at h
  | f + 1, hf => fun w n d i r hn hd hI hr h => by
    rw [progX, show min n 12 = n from by omega] at h
    exact fholding_any (progX_self br t ht f (by omega)) w d i f n hd hn ht (by omega) hI hr r h
end Go.Proofs.YtjbekejcghjhbaaGreatDoor.Sx
