/- What a word begins. -/
import Derived.Test.YtjbekejcghjhbaaGreatDoorF12
namespace Go.Proofs.YtjbekejcghjhbaaGreatDoor.Sx
open Go.RowKit Go.Sort

set_option maxRecDepth 100000 in
set_option maxHeartbeats 2000000 in
theorem fword_any {br : Nat} {t : ByteArray} {self : Nat → Nat → Nat → RX PX} (hS : SelfOK br t self) (w : World) (d i m : Nat) (hd : d ≤ 24) (ht : t.size ≤ 4000) (hm : m ≤ 1000000) (hI : EnvF w br) (hr : RdF w br t i d)
    (r : Except (Nat × Nat) (PX × Nat)) (h : wordX (tkF t.data.toList) self m d i = some r) :
    Calls Tryz.prog 337 #[.pointer (some ⟨br, 0, none⟩)] w (PostE w br t d r) := by
  have HS : Hid (SelfOK br t self) := hS
  have HI : Hid (EnvF w br) := hI
  have HR : Hid (RdF w br t i d) := hr
  have hlb := block_lt hr
  have h1 := block_cell hr 1
  have h2 := block_cell hr 2
  have hrd := RdF.of HR.out (P := fun _ => True) (Fr.grew (Grew.refl w).drew) trivial
  have k1 := block_cell hrd 1
  have k2 := block_cell hrd 2
  clear hI hS hr hrd
  have mo := follows
  go_enter Tryz.func337, Tryz.ntmps337
  go_wp2_with fail
  go_big_region_o
  have hfa : Fr (fun _ => True) w (w.alloc (.cells #[.int .i64 0, .string (pcF t i), .string ⟨#[]⟩, .int .i64 0, .int .i64 (atF t.data.toList i : Int), .slice none 0 0] 156)).drew := ((Fr.refl _ w).alloc _).drew
  have E1 : Hid (EBlk (w.alloc (.cells #[.int .i64 0, .string (pcF t i), .string ⟨#[]⟩, .int .i64 0, .int .i64 (atF t.data.toList i : Int), .slice none 0 0] 156)).drew w.heap.size 0 (pcF t i) ⟨#[]⟩ 0 (atF t.data.toList i) none 0 0) := EBlk.of (w := w.alloc (.cells #[.int .i64 0, .string (pcF t i), .string ⟨#[]⟩, .int .i64 0, .int .i64 (atF t.data.toList i : Int), .slice none 0 0] 156)) (P := fun _ => True) (heap_new rfl) (Fr.refl _ _).drew trivial
  have F1 : Hid (Fr (· ≠ br) w _) := hfa.mono fun _ _ => trivial
  have R1 : Hid (RdF _ br t i d) := RdF.of HR.out hfa trivial
  clear h1 h2 k1 k2 HR hfa
  generalize (w.alloc (.cells #[.int .i64 0, .string (pcF t i), .string ⟨#[]⟩, .int .i64 0, .int .i64 (atF t.data.toList i : Int), .slice none 0 0] 156)).drew = w1 at E1 F1 R1 ⊢
  obtain ⟨be, hbe⟩ : ∃ be, w.heap.size = be := ⟨_, rfl⟩
  rw [hbe] at E1 hlb ⊢
  have hwb : w.heap.size ≤ be := by omega
  clear hbe
  have hne : be ≠ br := by omega
  have hle : be < w1.heap.size := block_lt E1.out
  have h2 := block_cell R1.out 2
  have hsp : (pcF t i).data.toList = txF t.data.toList i := pcF_list t i
  have htx : (tkF t.data.toList i).tx = txF t.data.toList i := rfl
  unfold wordX at h
  simp only [htx] at h
  have c0 := block_cell E1.out 0
  have f0 := frozen_block E1.out 0
  have HAD : Hid (∀ W : World, _) := fun W h => fadvance_st W br t i d h ht
  cases q1 : fixed3.contains (txF t.data.toList i) with
  | true =>
    rw [q1, if_pos rfl] at h
    have HQ : Hid (r = .ok (dLeaf (txF t.data.toList i), i + 1)) := by simp only [okX, Option.some.injEq] at h; exact h.symm
    have E2 : Hid (EBlk (w1.setCell ⟨be, 0, none⟩ (.int .i64 2)) be 2 (pcF t i) ⟨#[]⟩ 0 (atF t.data.toList i) none 0 0) := E1.out.sort 2
    have R2 : Hid (RdF (w1.setCell ⟨be, 0, none⟩ (.int .i64 2)) br t i d) := R1.out.setB (Ne.symm hne) _
    have F2 : Hid (Fr (· ≠ br) w (w1.setCell ⟨be, 0, none⟩ (.int .i64 2))) := F1.out.setB hwb _
    have HA : Hid (Calls _ _ _ _ _) := HAD.out _ R2.out
    have hsp2 : Hid ((pcF t i).data.toList = txF t.data.toList i) := hsp
    have hpc : pcF t i = ⟨⟨txF t.data.toList i⟩⟩ := by rw [← hsp]
    simp only [fixed3, List.contains_cons, List.contains_nil, Bool.or_false, Bool.or_eq_true, beq_iff_eq] at q1
    clear h htx E1 R1 F1 hsp
    rcases q1 with q | q | q
    all_goals
      rw [q] at hpc
      rw [hpc] at h2 ⊢
      clear q
      go_wp2_with (go_at_call 146; refine HA.out.mono ?_; rintro e w3 ⟨rfl, hr, hf⟩; have R3 : Hid (RdF w3 br t (i + 1) d) := hr; have F3 : Hid (Fr (· ≠ br) w w3) := F2.out.trans hf; have E3 : Hid (EBlk w3 be 2 (pcF t i) ⟨#[]⟩ 0 (atF t.data.toList i) none 0 0) := E2.out.of hf hne; clear hr hf)
      go_ret
      rw [HQ.out]
      exact ⟨F3.out, ⟨_, rfl, TreeE.node ⟨be, 2, pcF t i, ⟨#[]⟩, 0, atF t.data.toList i, none, 0, 0, [], rfl, hwb, E3.out, row_nil _, .inr (.inr (.inl ⟨rfl, by rw [hsp2.out]⟩))⟩⟩, R3.out⟩
  | false =>
    rw [q1, if_neg (by simp)] at h
    cases q2 : called7.contains (txF t.data.toList i) with
    | true =>
      rw [q2, if_pos rfl] at h
      have hin : txF t.data.toList i ∈ called7 := List.contains_iff_mem.1 q2
      have E2 : Hid (EBlk (w1.setCell ⟨be, 0, none⟩ (.int .i64 12)) be 12 (pcF t i) ⟨#[]⟩ 0 (atF t.data.toList i) none 0 0) := E1.out.sort 12
      have R2 : Hid (RdF (w1.setCell ⟨be, 0, none⟩ (.int .i64 12)) br t i d) := R1.out.setB (Ne.symm hne) _
      have F2 : Hid (Fr (· ≠ br) w (w1.setCell ⟨be, 0, none⟩ (.int .i64 12))) := F1.out.setB hwb _
      have HA : Hid (Calls _ _ _ _ _) := HAD.out _ R2.out
      have hsp2 : Hid ((pcF t i).data.toList = txF t.data.toList i) := hsp
      have hpc : pcF t i = ⟨⟨txF t.data.toList i⟩⟩ := by rw [← hsp]
      have htx2 : (tkF t.data.toList (i + 1)).tx = txF t.data.toList (i + 1) := rfl
      have hat2 : (tkF t.data.toList (i + 1)).at' = atF t.data.toList (i + 1) := rfl
      have hpl2 : (pcF t (i + 1)).toList = txF t.data.toList (i + 1) := by rw [ByteArray.toList_eq, pcF_list]
      simp only [htx2, hat2] at h
      have HFL : Hid (∀ W : World, _) := fun W h => ffail_any W br t (i + 1) d 1 h
      simp only [called7, List.contains_cons, List.contains_nil, Bool.or_false, Bool.or_eq_true, beq_iff_eq] at q2
      clear htx htx2 hat2 E1 R1 F1 hsp q1
      cases q3 : txF t.data.toList (i + 1) == [40] with
      | false =>
        rw [q3, if_neg (by simp)] at h
        have HQ : Hid (r = .error (1, atF t.data.toList (i + 1))) := by simp only [errX, Option.some.injEq] at h; exact h.symm
        have g3 : ((pcF t (i + 1)).toList == [40]) = false := by rw [hpl2]; exact q3
        clear h q3 hpl2
        rcases q2 with q | q | q | q | q | q | q
        all_goals
          rw [q] at hpc
          rw [hpc] at h2 ⊢
          clear q
          go_wp2_with (first | (go_at_call 146; refine HA.out.mono ?_; rintro e w3 ⟨rfl, hr, hf⟩; have R3 : Hid (RdF w3 br t (i + 1) d) := hr; have F3 : Hid (Fr (· ≠ br) w w3) := F2.out.trans hf; have y2 := block_cell R3.out 2; clear hr hf) | (go_at_call 147; refine (HFL.out _ R3.out).mono ?_; rintro e w4 ⟨rfl, rfl⟩; unfold Flt))
          rw [HQ.out]
          exact ⟨rfl, F3.out, rfl⟩
      | true =>
        rw [q3, if_pos rfl, callX_eq] at h
        have g3 : ((pcF t (i + 1)).toList == [40]) = true := by rw [hpl2]; exact q3
        have HW : Hid (∀ (W : World) (q : Except (Nat × Nat) (List PX × Nat)), _) := fun W q e h => fwithin_any HS.out W d (i + 1) m ⟨#[41]⟩ hd ht hm e h q
        clear q3 hpl2 HFL
        rcases q2 with q | q | q | q | q | q | q
        all_goals
          rw [q] at hpc
          rw [hpc] at h2 ⊢
          clear q
          go_wp2_with (first | (go_at_call 146; refine HA.out.mono ?_; rintro e w3 ⟨rfl, hr, hf⟩; have R3 : Hid (RdF w3 br t (i + 1) d) := hr; have F3 : Hid (Fr (· ≠ br) w w3) := F2.out.trans hf; have E3 : Hid (EBlk w3 be 12 (pcF t i) ⟨#[]⟩ 0 (atF t.data.toList i) none 0 0) := E2.out.of hf hne; have y2 := block_cell R3.out 2; clear hr hf))
          rcases bX_cases h with ⟨⟨c, p⟩, hn, rfl⟩ | ⟨l, j2, hn, hk2⟩
          · refine (HW.out w3 _ (HI.out.fr F3.out) R3.out hn).mono ?_
            rintro e w5 ⟨hf, rfl⟩
            exact ⟨rfl, F3.out.trans hf, rfl⟩
          refine (HW.out w3 _ (HI.out.fr F3.out) R3.out hn).mono ?_
          rintro e w5 ⟨hf, ⟨a, len, cap, rfl, hrow⟩, hr⟩
          have R5 : Hid (RdF w5 br t j2 d) := hr
          have F5 : Hid (Fr (· ≠ br) w w5) := F3.out.trans hf
          have E5 : Hid (EBlk w5 be 12 (pcF t i) ⟨#[]⟩ 0 (atF t.data.toList i) none 0 0) := E3.out.of hf hne
          have W5 : Hid (RowP (fun k => w3.heap.size ≤ k) w5 (TreeE (fun k => w3.heap.size ≤ k) w5) a len l) := hrow
          have HQ : Hid (r = .ok (dCall (txF t.data.toList i) l, j2)) := by simp only [okX, Option.some.injEq] at hk2; exact hk2.symm
          have hle3 : be < w3.heap.size := block_lt E3.out
          have c5 := block_cell E5.out 5
          have f5 := frozen_block E5.out 5
          clear hf hr hrow hn h hk2 R3 F3 y2
          go_wp2_with fail
          go_ret
          rw [HQ.out]
          exact ⟨F5.out.setB hwb _, ⟨_, rfl, node_row hle3 W5.out hwb E5.out (.inr (.inr (.inr (.inr (.inr (.inr (.inr (.inr (.inr (.inr (.inr ⟨.inr rfl, by rw [hsp2.out]; exact .inr (.inr (.inr (.inr (.inr (.inr (.inr (.inr (.inr ⟨hin, rfl⟩))))))))⟩)))))))))))⟩, R5.out.setB (Ne.symm hne) _⟩
    | false =>
      rw [q2, if_neg (by simp)] at h
      have hpl : (pcF t i).toList = txF t.data.toList i := by rw [ByteArray.toList_eq, hsp]
      simp only [fixed3, List.contains_cons, List.contains_nil, Bool.or_false, Bool.or_eq_false_iff] at q1
      simp only [called7, List.contains_cons, List.contains_nil, Bool.or_false, Bool.or_eq_false_iff] at q2
      rw [← hpl] at q1 q2
      obtain ⟨g1, g2, g3⟩ := q1
      obtain ⟨g4, g5, g6, g7, g8, g9, g10⟩ := q2
      have HC : Hid (Calls _ _ _ _ _) := fnamed_any HS.out w1 d i m hd ht hm (HI.out.fr F1.out) R1.out r h
      clear hpl htx hsp h c0 f0
      go_wp2_with fail
      refine HC.out.mono ?_
      rintro e w2 hp
      rcases r with ⟨c, p⟩ | ⟨x, j⟩
      · obtain ⟨hf, rfl⟩ := hp
        exact ⟨rfl, F1.out.trans hf, rfl⟩
      · have HH := PostE.from F1.out hp
        obtain ⟨hf, ⟨v, rfl, hv⟩, hr⟩ := hp
        have HHH : Hid (PostE w br t d (.ok (x, j)) (.returned v) w2) := HH
        clear HH hf hv hr HC
        go_wp2_with fail
        go_ret
        exact HHH.out
end Go.Proofs.YtjbekejcghjhbaaGreatDoor.Sx

namespace Go.Proofs.YtjbekejcghjhbaaGreatDoor.Sx
open Go.RowKit Go.Sort

/-- a node's parts are the row that was read -/
theorem fill_row2 {be : Nat} {w w' : World} {sort : Nat} {op nm : ByteArray} {n : Int} {at' : Nat} {pa p0 : Option Addr} {len cap l0 c0 : Nat} {kids : List PX} {x : PX} (hbe : be < w.heap.size) (hrow : RowP (fun k => w.heap.size ≤ k) w' (TreeE (fun k => w.heap.size ≤ k) w') pa len kids) (he' : EBlk w' be sort op nm n at' p0 l0 c0)
    (hm : Means sort op.data.toList nm.data.toList n kids x) : TreeE (fun k => k = be ∨ w.heap.size ≤ k) (w'.setCell ⟨be, 5, none⟩ (.slice pa len cap)) x (.pointer (some ⟨be, 0, none⟩)) := by
  have hf : Fr (fun k => w.heap.size ≤ k) w' (w'.setCell ⟨be, 5, none⟩ (.slice pa len cap)) := (Fr.refl _ _).set (by simp; omega) _
  refine TreeE.node ⟨be, sort, op, nm, n, at', pa, len, cap, kids, rfl, .inl rfl, he'.parts _ _ _, ?_, hm⟩
  exact RowP.fr hf (fun _ _ h => h.fr hf fun _ _ q => .inr q) (fun _ _ q => .inr q) hrow

set_option maxRecDepth 100000 in
set_option maxHeartbeats 2000000 in
theorem fset_any {br : Nat} {t : ByteArray} {self : Nat → Nat → Nat → RX PX} (hS : SelfOK br t self) (w : World) (be d i m a0 : Nat) (hd : d ≤ 24) (ht : t.size ≤ 4000) (hm : m ≤ 1000000) (hbe : be ≠ br) (hb34 : be ≠ 3 ∧ be ≠ 4) (hI : EnvF w br) (hr : RdF w br t i d) (he : EBlk w be 12 ⟨#[]⟩ ⟨#[]⟩ 0 a0 none 0 0)
    (r : Except (Nat × Nat) (PX × Nat)) (h : setX (tkF t.data.toList) self m d i = some r) :
    Calls Tryz.prog 349 #[.pointer (some ⟨br, 0, none⟩), .pointer (some ⟨be, 0, none⟩)] w (FillE w br be t d r) := by
  have HS : Hid (SelfOK br t self) := hS
  have HI : Hid (EnvF w br) := hI
  have HR : Hid (RdF w br t i d) := hr
  have HE : Hid (EBlk w be 12 ⟨#[]⟩ ⟨#[]⟩ 0 a0 none 0 0) := he
  have hlb := block_lt hr
  have hle := block_lt he
  have h2 := block_cell hr 2
  clear hI hS hr he
  have mo := follows
  have hsp : (pcF t i).data.toList = txF t.data.toList i := pcF_list t i
  have hpl : (pcF t i).toList = txF t.data.toList i := by rw [ByteArray.toList_eq, hsp]
  have htx : (tkF t.data.toList i).tx = txF t.data.toList i := rfl
  unfold setX at h
  simp only [htx] at h
  cases q1 : binds2.contains (txF t.data.toList i) with
  | false =>
    rw [q1, if_neg (by simp)] at h
    simp only [binds2, List.contains_cons, List.contains_nil, Bool.or_false, Bool.or_eq_false_iff] at q1
    rw [← hpl] at q1
    obtain ⟨g1, g2⟩ := q1
    clear hsp hpl htx
    go_enter Tryz.func349, Tryz.ntmps349
    go_wp2_with fail
    rcases bX_cases h with ⟨⟨c, p⟩, hn, rfl⟩ | ⟨l, j2, hn, hk2⟩
    · refine (fany_any HS.out w d i m ⟨#[125]⟩ hd ht hm HI.out HR.out _ hn).mono ?_
      rintro e w5 ⟨hf, rfl⟩
      exact ⟨rfl, hf.two, rfl⟩
    refine (fany_any HS.out w d i m ⟨#[125]⟩ hd ht hm HI.out HR.out _ hn).mono ?_
    rintro e w5 ⟨hf, ⟨a, len, cap, rfl, hrow⟩, hr⟩
    have R5 : Hid (RdF w5 br t j2 d) := hr
    have F5 : Hid (Fr (· ≠ br) w w5) := hf
    have E5 : Hid (EBlk w5 be 12 ⟨#[]⟩ ⟨#[]⟩ 0 a0 none 0 0) := HE.out.of hf hbe
    have W5 : Hid (RowP (fun k => w.heap.size ≤ k) w5 (TreeE (fun k => w.heap.size ≤ k) w5) a len l) := hrow
    have HQ : Hid (r = .ok (dSet l, j2)) := by simp only [okX, Option.some.injEq] at hk2; exact hk2.symm
    have c1 := block_cell E5.out 1
    have f1 := frozen_block E5.out 1
    have c5 := block_cell E5.out 5
    have f5 := frozen_block E5.out 5
    clear hf hr hrow hn h hk2 HR HE h2
    go_wp2_with fail
    refine bodyPost_ret (results_none rfl _ _ _) rfl ?_
    rw [HQ.out]
    have hf0 : Fr (fun k => w.heap.size ≤ k) w5 (w5.setCell ⟨be, 1, none⟩ (.string ⟨#[115, 101, 116]⟩)) := (Fr.refl _ _).set (by simp; omega) _
    have hT := fill_row2 (cap := cap) hle (RowP.fr hf0 (fun _ _ h => h.fr hf0 fun _ _ q => q) (fun _ _ q => q) W5.out) (E5.out.op ⟨#[115, 101, 116]⟩) (x := dSet l) (.inr (.inr (.inr (.inr (.inr (.inr (.inr (.inr (.inr (.inr (.inr ⟨.inr rfl, .inr (.inl ⟨rfl, rfl⟩)⟩)))))))))))
    exact ⟨(F5.out.two.set (p := ⟨be, 1, none⟩) (fun q => q.2 rfl) _).set (p := ⟨be, 5, none⟩) (fun q => q.2 rfl) _, rfl, hT, (R5.out.setB (Ne.symm hbe) _).setB (Ne.symm hbe) _⟩
  | true =>
    rw [q1, if_pos rfl] at h
    have HT : Hid (Calls _ _ _ _ _) := ftake_any w br t i d HR.out ht
    have hop : (pcF t i).data.toList ∈ binds4 ∨ (pcF t i).data.toList ∈ binds2 := .inr (by rw [hsp]; exact List.contains_iff_mem.1 q1)
    rw [← hsp] at h
    have HD : Hid (∀ (W : World) (m : ByteArray) (k : Nat) (b : Bool), _) := fun W m k b h => fneed_any W br t m k d h ht b
    have hg : ((pcF t i).toList == [101, 97, 99, 104]) = true ∨ (((pcF t i).toList == [101, 97, 99, 104]) = false ∧ ((pcF t i).toList == [116, 104, 111, 115, 101]) = true) := by
      rw [hpl]
      simp only [binds2, List.contains_cons, List.contains_nil, Bool.or_false, Bool.or_eq_true] at q1
      cases e : txF t.data.toList i == [101, 97, 99, 104] with
      | true => exact .inl rfl
      | false => rw [e] at q1; simp at q1; exact .inr ⟨rfl, by simpa using q1⟩
    clear q1 hpl htx hsp
    rcases hg with g1 | ⟨g1, g2⟩
    all_goals
      go_enter Tryz.func349, Tryz.ntmps349
      go_wp2_with (go_at_call 294; refine HT.out.mono ?_; rintro e w2 ⟨rfl, hr, hf⟩; have R2 : Hid (RdF w2 br t (i + 1) d) := hr; have F2 : Hid (Fr (· ≠ br) w w2) := hf; have E2 : Hid (EBlk w2 be 12 ⟨#[]⟩ ⟨#[]⟩ 0 a0 none 0 0) := HE.out.of hf hbe; have c1 := block_cell E2.out 1; have f1 := frozen_block E2.out 1; clear hr hf)
      have E3 : Hid (EBlk (w2.setCell ⟨be, 1, none⟩ (.string (pcF t i))) be 12 (pcF t i) ⟨#[]⟩ 0 a0 none 0 0) := E2.out.op _
      have R3 : Hid (RdF (w2.setCell ⟨be, 1, none⟩ (.string (pcF t i))) br t (i + 1) d) := R2.out.setB (Ne.symm hbe) _
      have F3 : Hid (Fr (fun k => k ≠ br ∧ k ≠ be) w (w2.setCell ⟨be, 1, none⟩ (.string (pcF t i)))) := F2.out.two.set (p := ⟨be, 1, none⟩) (fun q => q.2 rfl) _
      clear c1 f1 E2 R2 F2 HT HR HE h2
      generalize w2.setCell ⟨be, 1, none⟩ (.string (pcF t i)) = w3 at E3 R3 F3 ⊢
      have hz3 := F3.out.size
      rcases bX_cases h with ⟨⟨c, p⟩, hn, rfl⟩ | ⟨x, j, hn, hk⟩
      · refine (fbound_any HS.out w3 be d (i + 1) 12 _ (pcF t i) _ 0 hd ht hbe hb34 (HI.out.two hb34 F3.out) R3.out E3.out hop _ hn).mono ?_
        rintro e w4 ⟨hf, rfl⟩
        exact ⟨rfl, F3.out.trans hf, rfl⟩
      refine (fbound_any HS.out w3 be d (i + 1) 12 _ (pcF t i) _ 0 hd ht hbe hb34 (HI.out.two hb34 F3.out) R3.out E3.out hop _ hn).mono ?_
      rintro e w4 ⟨hf, rfl, hT, hr⟩
      have R4 : Hid (RdF w4 br t j d) := hr
      have F4 : Hid (Fr (fun k => k ≠ br ∧ k ≠ be) w w4) := F3.out.trans hf
      have T4 : Hid (TreeE (fun k => k = be ∨ w.heap.size ≤ k) w4 x (.pointer (some ⟨be, 0, none⟩))) := hT.fr (Fr.refl _ _) fun _ _ q => by omega
      clear hf hT hr hn h E3 R3 F3
      go_wp2_with fail
      rcases needX_cases hk with ⟨hb, hk2⟩ | ⟨hb, rfl⟩
      case inr =>
        refine (HD.out w4 ⟨#[125]⟩ j false R4.out hb).mono ?_
        rintro e w5 ⟨hf, ⟨q, -⟩ | ⟨-, rfl⟩⟩
        · simp at q
        · exact ⟨rfl, F4.out.trans hf.two, rfl⟩
      refine (HD.out w4 ⟨#[125]⟩ j true R4.out hb).mono ?_
      rintro e w5 ⟨hf, ⟨-, rfl, hr⟩ | ⟨q, -⟩⟩
      case inr => simp at q
      have R5 : Hid (RdF w5 br t (j + 1) d) := hr
      have F5 : Hid (Fr (fun k => k ≠ br ∧ k ≠ be) w w5) := F4.out.trans hf.two
      have T5 : Hid (TreeE (fun k => k = be ∨ w.heap.size ≤ k) w5 x (.pointer (some ⟨be, 0, none⟩))) := T4.out.fr (hf.mono fun k q => by omega) fun _ _ q => q
      have HQ : Hid (r = .ok (x, j + 1)) := by simp only [okX, Option.some.injEq] at hk2; exact hk2.symm
      clear hf hr hb hk hk2 R4 F4 T4
      go_wp2_with fail
      go_end0
      rw [HQ.out]
      exact ⟨F5.out, rfl, T5.out, R5.out⟩
end Go.Proofs.YtjbekejcghjhbaaGreatDoor.Sx

namespace Go.Proofs.YtjbekejcghjhbaaGreatDoor.Sx
open Go.RowKit Go.Sort

/-- what a call ends in that reads a pair -/
def PostP (w : World) (br : Nat) (t : ByteArray) (d : Nat) (r : Except (Nat × Nat) ((PX × PX) × Nat)) (e : Ending) (w' : World) : Prop :=
  Fr (· ≠ br) w w' ∧ match r with
    | .ok ((a, b), j) => (∃ va vb, e = .returned (.agg #[va, vb]) ∧ TreeE (fun k => w.heap.size ≤ k) w' a va ∧ TreeE (fun k => w.heap.size ≤ k) w' b vb) ∧ RdF w' br t j d
    | .error (c, p) => e = Flt c p
set_option maxRecDepth 100000 in
set_option maxHeartbeats 1000000 in
theorem fpair_any {br : Nat} {t : ByteArray} {self : Nat → Nat → Nat → RX PX} (hS : SelfOK br t self) (w : World) (d i : Nat) (hd : d ≤ 24) (ht : t.size ≤ 4000) (hI : EnvF w br) (hr : RdF w br t i d)
    (r : Except (Nat × Nat) ((PX × PX) × Nat)) (h : pairX (tkF t.data.toList) self d i = some r) :
    Calls Tryz.prog 352 #[.pointer (some ⟨br, 0, none⟩)] w (PostP w br t d r) := by
  have HS : Hid (SelfOK br t self) := hS
  have HI : Hid (EnvF w br) := hI
  have HD : Hid (∀ (W : World) (m : ByteArray) (k : Nat) (b : Bool), _) := fun W m k b h => fneed_any W br t m k d h ht b
  have hlb := block_lt hr
  have HR : Hid (RdF w br t i d) := hr
  clear hI hS hr
  have mo := follows
  unfold pairX at h
  go_enter Tryz.func352, Tryz.ntmps352
  have B3 : Hid ((w.alloc (.cells #[.pointer none, .pointer none] 338)).heap[w.heap.size]? = some (.cells #[.pointer none, .pointer none] 338 (0, 0))) := heap_new rfl
  have R3 : Hid (RdF (w.alloc (.cells #[.pointer none, .pointer none] 338)) br t i d) := RdF.of HR.out (P := fun _ => True) ((Fr.refl _ w).alloc _) trivial
  have F3 : Hid (Fr (· ≠ br) w (w.alloc (.cells #[.pointer none, .pointer none] 338))) := (Fr.refl _ w).alloc _
  clear HR
  go_wp2_with fail
  generalize w.alloc (.cells #[.pointer none, .pointer none] 338) = w3 at B3 R3 F3 ⊢
  obtain ⟨bg, hbg⟩ : ∃ bg, w.heap.size = bg := ⟨_, rfl⟩
  rw [hbg] at B3 hlb ⊢
  have hwg : w.heap.size ≤ bg := by omega
  clear hbg
  have hbg3 : bg < w3.heap.size := block_lt B3.out
  obtain ⟨lo, hlo⟩ : ∃ lo, w3.heap.size = lo := ⟨_, rfl⟩
  rcases bX_cases h with ⟨⟨c, p⟩, hn, rfl⟩ | ⟨a, j, hn, hk⟩
  · refine (fexpr_any HS.out w3 d _ _ hd (HI.out.fr F3.out) R3.out hn).mono ?_
    rintro e w4 ⟨hf, rfl⟩
    exact ⟨rfl, F3.out.trans hf, rfl⟩
  refine (fexpr_any HS.out w3 d _ _ hd (HI.out.fr F3.out) R3.out hn).mono ?_
  rintro e w4 ⟨hf, ⟨va, rfl, hv⟩, hr⟩
  have R4 : Hid (RdF w4 br t j (d)) := hr
  have hz3 := F3.out.size
  have hs4 := hf.size
  have F4 : Hid (Fr (· ≠ br) w w4) := F3.out.trans hf
  have B4 : Hid (w4.heap[bg]? = some (.cells #[.pointer none, .pointer none] 338 (0, 0))) := (hf.block bg (block_lt B3.out) (by omega)).trans B3.out
  have Ta4 : Hid (TreeE (fun k => lo ≤ k) w4 a va) := TreeE.fr (Fr.refl _ _) (fun _ _ q => by omega) hv
  clear hf hr hn hv h
  clear R3 F3 B3
  obtain ⟨ba, rfl, -, -⟩ := Ta4.out.ptr
  go_wp2_with fail
  rcases needX_cases hk with ⟨hb, hk2⟩ | ⟨hb, rfl⟩
  case inr =>
    refine (HD.out w4 ⟨#[58]⟩ (j) false R4.out hb).mono ?_
    rintro e w5 ⟨hf, ⟨q, -⟩ | ⟨-, rfl⟩⟩
    · simp at q
    · exact ⟨rfl, F4.out.trans hf, rfl⟩
  refine (HD.out w4 ⟨#[58]⟩ (j) true R4.out hb).mono ?_
  rintro e w5 ⟨hf, ⟨-, rfl, hr⟩ | ⟨q, -⟩⟩
  case inr => simp at q
  have R5 : Hid (RdF w5 br t (j + 1) (d)) := hr
  have hs5 := hf.size
  have F5 : Hid (Fr (· ≠ br) w w5) := F4.out.trans hf
  have Ta5 : Hid (TreeE (fun k => lo ≤ k) w5 a (.pointer (some ⟨ba, 0, none⟩))) := Ta4.out.fr (hf.mono fun k q => by omega) (fun _ _ q => q)
  have B5 : Hid (w5.heap[bg]? = some (.cells #[.pointer none, .pointer none] 338 (0, 0))) := (hf.block bg (block_lt B4.out) (by omega)).trans B4.out
  clear hf hr hb hk
  clear R4 F4 Ta4 B4
  go_wp2_with fail
  rcases bX_cases hk2 with ⟨⟨c, p⟩, hn, rfl⟩ | ⟨b, j2, hn, hk3⟩
  · refine (fexpr_any HS.out w5 d _ _ hd (HI.out.fr F5.out) R5.out hn).mono ?_
    rintro e w6 ⟨hf, rfl⟩
    exact ⟨rfl, F5.out.trans hf, rfl⟩
  refine (fexpr_any HS.out w5 d _ _ hd (HI.out.fr F5.out) R5.out hn).mono ?_
  rintro e w6 ⟨hf, ⟨vb, rfl, hv⟩, hr⟩
  have R6 : Hid (RdF w6 br t j2 (d)) := hr
  have hz5 := F5.out.size
  have hs6 := hf.size
  have F6 : Hid (Fr (· ≠ br) w w6) := F5.out.trans hf
  have Ta6 : Hid (TreeE (fun k => lo ≤ k) w6 a (.pointer (some ⟨ba, 0, none⟩))) := Ta5.out.fr (hf.mono fun k q => by omega) (fun _ _ q => q)
  have B6 : Hid (w6.heap[bg]? = some (.cells #[.pointer none, .pointer none] 338 (0, 0))) := (hf.block bg (block_lt B5.out) (by omega)).trans B5.out
  have Tb6 : Hid (TreeE (fun k => lo ≤ k) w6 b vb) := TreeE.fr (Fr.refl _ _) (fun _ _ q => by omega) hv
  clear hf hr hn hv hk2
  clear R5 F5 Ta5 B5
  obtain ⟨bb, rfl, -, -⟩ := Tb6.out.ptr
  obtain ⟨y0, y1⟩ := cells2 B6.out
  obtain ⟨z0, z1, -⟩ := frozens3 B6.out
  have HQ : Hid (r = .ok ((a, b), j2)) := by simp only [okX, Option.some.injEq] at hk3; exact hk3.symm
  clear hk3
  go_wp2_with fail
  have e0 := fun x y => block_cell (set_block (set_block B6.out 0 x) 1 y) 0
  have e1 := fun x y => block_cell (set_block (set_block B6.out 0 x) 1 y) 1
  simp at e0 e1
  refine bodyPost_ret (v := .agg #[.pointer (some ⟨ba, 0, none⟩), .pointer (some ⟨bb, 0, none⟩)]) (by simp [results, Tryz.results352, go_sem, e0, e1]) rfl ?_
  rw [HQ.out]
  have hf9 : Fr (fun k => lo ≤ k) w6 ((w6.setCell ⟨bg, 0, none⟩ (.pointer (some ⟨ba, 0, none⟩))).setCell ⟨bg, 1, none⟩ (.pointer (some ⟨bb, 0, none⟩))) := ((Fr.refl _ _).set (by simp; omega) _).set (by simp; omega) _
  exact ⟨(F6.out.setB hwg _).setB hwg _, ⟨_, _, rfl, Ta6.out.fr hf9 fun _ _ q => by omega, Tb6.out.fr hf9 fun _ _ q => by omega⟩, (R6.out.setB (by simp; omega) _).setB (by simp; omega) _⟩
end Go.Proofs.YtjbekejcghjhbaaGreatDoor.Sx

namespace Go.Proofs.YtjbekejcghjhbaaGreatDoor.Sx
open Go.RowKit Go.Sort

theorem infoA : (Tryz.prog.info? 338).map (fun i => (i.zero, i.size, i.bytes)) = some (some (.agg #[.pointer none, .pointer none]), 2, 16) := by kernel_rfl

/-- a row of pairs -/
def RowQ (P : Nat → Prop) (w : World) (a : Option Addr) (len : Nat) (es : List (PX × PX)) : Prop :=
  len = es.length ∧ len ≤ 4294967296 ∧ (len = 0 ∨ ∃ b off, a = some ⟨b, off, none⟩ ∧ b < w.heap.size ∧ P b ∧ ∀ (i : Nat) (p : PX × PX), es[i]? = some p → ∃ v u, w.cell? ⟨b, off + i * 2, none⟩ = some v ∧ w.cell? ⟨b, off + i * 2 + 1, none⟩ = some u ∧ TreeE P w p.1 v ∧ TreeE P w p.2 u)
theorem RowQ.fr {P Q : Nat → Prop} {w w' : World} {a : Option Addr} {len : Nat} {es : List (PX × PX)} (h : RowQ P w a len es) (hf : Fr P w w') (hQ : ∀ k, k < w.heap.size → P k → Q k) : RowQ Q w' a len es := by
  obtain ⟨h1, h2, h3⟩ := h
  refine ⟨h1, h2, ?_⟩
  rcases h3 with h3 | ⟨b, off, e, hb, hp, h3⟩
  · exact .inl h3
  · have hbb := hf.block b hb hp
    refine .inr ⟨b, off, e, Nat.lt_of_lt_of_le hb hf.size, hQ b hb hp, fun i p q => ?_⟩
    obtain ⟨v, u, hv, hu, t1, t2⟩ := h3 i p q
    exact ⟨v, u, (World.cell?_of_block (w := w) hbb).trans hv, (World.cell?_of_block (w := w) hbb).trans hu, t1.fr hf hQ, t2.fr hf hQ⟩
/-- the pairs so far: their row -/
def LS2 (w : World) (lo : Nat) (sl : Value) (es : List (PX × PX)) : Prop :=
  ∃ vs, w.ownsRow lo 338 2 sl es.length vs ∧ ∀ (i : Nat) (p : PX × PX), es[i]? = some p → ∃ v u, vs[i * 2]? = some v ∧ vs[i * 2 + 1]? = some u ∧ TreeE (fun k => lo ≤ k ∧ sl.ownBlock ≠ some k) w p.1 v ∧ TreeE (fun k => lo ≤ k ∧ sl.ownBlock ≠ some k) w p.2 u
theorem ownsA_of {w w' : World} {base : Nat} {sl : Value} {n : Nat} {vs : List Value} (h : w.ownsRow base 338 2 sl n vs) (hb : ∀ g, sl.ownBlock = some g → base ≤ g → g < w.heap.size → w'.heap[g]? = w.heap[g]?) : w'.ownsRow base 338 2 sl n vs := by
  refine ⟨h.1, ?_⟩
  rcases h.2 with h' | ⟨g, cap, cur, e, hg, hq, r⟩
  · exact .inl h'
  · exact .inr ⟨g, cap, cur, e, hg, (hb g (by rw [e]; rfl) hg (block_lt hq)).trans hq, r⟩
theorem LS2.nil (w : World) (lo : Nat) : LS2 w lo (.slice none 0 0) [] := ⟨[], World.ownsRow_nil _ _ _ _, fun i x q => by simp at q⟩
theorem LS2.fr {w w' : World} {lo br : Nat} {sl : Value} {es : List (PX × PX)} (h : LS2 w lo sl es) (f : Fr (· ≠ br) w w') (hbr : br < lo) : LS2 w' lo sl es := by
  obtain ⟨vs, h1, h2⟩ := h
  refine ⟨vs, ownsA_of h1 (fun g _ hg hlt => f.block g hlt (by omega)), fun i x q => ?_⟩
  obtain ⟨v, u, hv, hu, ht, hs⟩ := h2 i x q
  exact ⟨v, u, hv, hu, ht.fr (f.mono fun k hk => by have := hk.1; omega) fun _ _ q => q, hs.fr (f.mono fun k hk => by have := hk.1; omega) fun _ _ q => q⟩
theorem LS2.row {w : World} {lo : Nat} {sl : Value} {es : List (PX × PX)} (h : LS2 w lo sl es) (hl : es.length ≤ 4294967296) : ∃ a len cap, sl = .slice a len cap ∧ RowQ (fun k => lo ≤ k) w a len es := by
  obtain ⟨vs, h1, h2⟩ := h
  rcases h1.2 with ⟨rfl, hn⟩ | ⟨g, cap, cur, rfl, hg, hq, hc, _, hs, ht⟩
  · exact ⟨none, 0, 0, rfl, by omega, by omega, .inl rfl⟩
  · refine ⟨_, es.length, cap, rfl, rfl, hl, .inr ⟨g, 0, rfl, block_lt hq, hg, fun i x q => ?_⟩⟩
    obtain ⟨v, u, hv, hu, hT, hU⟩ := h2 i x q
    refine ⟨v, u, ?_, ?_, hT.fr (Fr.refl _ _) fun _ _ q => q.1, hU.fr (Fr.refl _ _) fun _ _ q => q.1⟩
    · rw [Nat.zero_add, block_cell hq]
      rw [← ht, List.getElem?_take] at hv
      split at hv
      · simpa using hv
      · simp at hv
    · rw [Nat.zero_add, block_cell hq]
      rw [← ht, List.getElem?_take] at hu
      split at hu
      · simpa using hu
      · simp at hu
theorem LS2.push {w w1 w2 : World} {lo g cap : Nat} {es : List (PX × PX)} {sl : Value} {vs : List Value} {x y : PX} {v u : Value}
    (h2 : ∀ (i : Nat) (p : PX × PX), es[i]? = some p → ∃ v u, vs[i * 2]? = some v ∧ vs[i * 2 + 1]? = some u ∧ TreeE (fun k => lo ≤ k ∧ sl.ownBlock ≠ some k) w1 p.1 v ∧ TreeE (fun k => lo ≤ k ∧ sl.ownBlock ≠ some k) w1 p.2 u) (hvl : vs.length = es.length * 2)
    (hx : TreeE (fun k => w.heap.size ≤ k) w1 x v) (hy : TreeE (fun k => w.heap.size ≤ k) w1 y u) (hlo : lo ≤ w.heap.size) (hsl : ∀ q, sl.ownBlock = some q → q < w.heap.size)
    (ho : w2.ownsRow lo 338 2 (.slice (some ⟨g, 0, none⟩) (es.length + 1) cap) (es.length + 1) (vs ++ [v, u])) (hg : w1.grownBy w2 sl.ownBlock) (hat : sl.ownBlock = some g ∨ w1.heap.size ≤ g) :
    LS2 w2 lo (.slice (some ⟨g, 0, none⟩) (es.length + 1) cap) (es ++ [(x, y)]) := by
  have keep : ∀ (z : PX) (q : Value), TreeE (fun k => lo ≤ k ∧ sl.ownBlock ≠ some k) w1 z q → TreeE (fun k => lo ≤ k ∧ (Value.slice (some ⟨g, 0, none⟩) (es.length + 1) cap).ownBlock ≠ some k) w2 z q := by
    intro z q hz
    have f1 : Fr (fun k => lo ≤ k ∧ sl.ownBlock ≠ some k) w1 w2 := ⟨hg.os, hg.tape, hg.output, hg.size, fun k hk hp => hg.block k hk (fun e => hp.2 e.symm)⟩
    refine hz.fr f1 fun k hk hp => ⟨hp.1, fun e => ?_⟩
    simp only [Value.ownBlock, Option.some.injEq] at e
    subst e
    rcases hat with q | q
    · exact hp.2 q
    · omega
  refine ⟨vs ++ [v, u], by rw [List.length_append]; exact ho, fun i p q => ?_⟩
  by_cases hi : i < es.length
  · rw [List.getElem?_append_left hi] at q
    obtain ⟨v', u', hv, hu, hT, hU⟩ := h2 i p q
    exact ⟨v', u', by rw [List.getElem?_append_left (by omega)]; exact hv, by rw [List.getElem?_append_left (by omega)]; exact hu, keep _ _ hT, keep _ _ hU⟩
  · have hie : i = es.length := by
      have := (List.getElem?_eq_some_iff.1 q).1
      simp at this; omega
    subst hie
    rw [List.getElem?_append_right (Nat.le_refl _)] at q
    simp at q
    subst q
    exact ⟨v, u, by rw [List.getElem?_append_right (by omega)]; simp [hvl], by rw [List.getElem?_append_right (by omega), hvl, show es.length * 2 + 1 - es.length * 2 = 1 from by omega]; rfl, keep _ _ (hx.fr (Fr.refl _ _) fun k _ hk => ⟨by omega, fun e => by have := hsl k e; omega⟩), keep _ _ (hy.fr (Fr.refl _ _) fun k _ hk => ⟨by omega, fun e => by have := hsl k e; omega⟩)⟩
/-- what a call ends in that reads a list of pairs -/
def PostQ (w : World) (br : Nat) (t : ByteArray) (d : Nat) (r : Except (Nat × Nat) (List (PX × PX) × Nat)) (e : Ending) (w' : World) : Prop :=
  Fr (· ≠ br) w w' ∧ match r with
    | .ok (l, j) => (∃ a len cap, e = .returned (.slice a len cap) ∧ RowQ (fun k => w.heap.size ≤ k) w' a len l) ∧ RdF w' br t j d
    | .error (c, p) => e = Flt c p

set_option maxRecDepth 100000 in
set_option maxHeartbeats 2000000 in
theorem flist2_any {br : Nat} {t : ByteArray} {self : Nat → Nat → Nat → RX PX} (hS : SelfOK br t self) (w : World) (d i m : Nat) (cl : ByteArray) (hd : d ≤ 24) (ht : t.size ≤ 4000) (hm : m ≤ 1000000) (hI : EnvF w br) (hr : RdF w br t i d)
    (r : Except (Nat × Nat) (List (PX × PX) × Nat)) (h : listX (tkF t.data.toList) cl.data.toList (pairX (tkF t.data.toList) self d) m [] i = some r) :
    Calls Tryz.prog 351 #[.pointer (some ⟨br, 0, none⟩), .func (.func 352) #[.pointer (some ⟨br, 0, none⟩)] #[], .string cl] w (PostQ w br t d r) := by
  have HS : Hid (SelfOK br t self) := hS
  have HI : Hid (EnvF w br) := hI
  have HD : Hid (∀ (W : World) (m : ByteArray) (k : Nat) (b : Bool), _) := fun W m k b h => fneed_any W br t m k d h ht b
  have HK : Hid (∀ (W : World) (k : Nat) (b : Bool), _) := fun W k b h => fskip_any W br t cl k d h ht b
  have hlb := block_lt hr
  have HR : Hid (RdF w br t i d) := hr
  have H0 : Hid (listX (tkF t.data.toList) cl.data.toList (pairX (tkF t.data.toList) self d) m [] i = some r) := h
  clear hI hS hr h
  have mo := follows
  obtain ⟨i0, hi0, hz0, hz1, hz2⟩ : ∃ i0, Tryz.prog.info? 338 = some i0 ∧ i0.zero = some (.agg #[.pointer none, .pointer none]) ∧ i0.size = 2 ∧ i0.bytes = 16 := by
    have := infoA
    cases hq : Tryz.prog.info? 338 with
    | none => rw [hq] at this; simp at this
    | some j => rw [hq] at this; simp at this; exact ⟨j, rfl, this.1, this.2.1, this.2.2⟩
  go_enter Tryz.func351, Tryz.ntmps351
  go_wp2_with fail
  go_loopg [7] (m) (fun f s7 wr => ∃ (j : Nat) (acc : List (PX × PX)), acc.length + f ≤ 1000000 ∧ Hid (RdF wr br t j d) ∧ Hid (LS2 wr w.heap.size s7 acc) ∧ Hid (listX (tkF t.data.toList) cl.data.toList (pairX (tkF t.data.toList) self d) f acc j = some r) ∧ Hid (Fr (· ≠ br) w wr))
  case atStart => exact ⟨i, [], by simpa using hm, HR, LS2.nil _ _, H0, Fr.refl _ _⟩
  case round =>
    clear HR H0
    obtain ⟨j, acc, hac, R1, L1, P1, F1⟩ := hrel
    obtain ⟨f, rfl⟩ : ∃ f, gk = f + 1 := by
      cases gk with
      | zero => exact absurd P1.out (by simp [listX])
      | succ f => exact ⟨f, rfl⟩
    have hp := P1.out
    rw [listX] at hp
    go_wp2_with fail
    rcases bX_cases hp with ⟨⟨c, p⟩, hn, rfl⟩ | ⟨⟨x, y⟩, j2, hn, hk⟩
    · refine (fpair_any HS.out wr d _ hd ht (HI.out.fr F1.out) R1.out _ hn).mono ?_
      rintro e w2 ⟨hf, rfl⟩
      exact ⟨rfl, F1.out.trans hf, rfl⟩
    refine (fpair_any HS.out wr d _ hd ht (HI.out.fr F1.out) R1.out _ hn).mono ?_
    rintro e w2 ⟨hf, ⟨v, u, rfl, hv, hu⟩, hr⟩
    have hw1 := F1.out.size
    have R2 : Hid (RdF w2 br t j2 d) := hr
    have F2 : Hid (Fr (· ≠ br) w w2) := F1.out.trans hf
    have T2 : Hid (TreeE (fun k => wr.heap.size ≤ k) w2 x v) := hv
    have U2 : Hid (TreeE (fun k => wr.heap.size ≤ k) w2 y u) := hu
    have L2 := L1.out.fr hf hlb
    have hsl : ∀ q, u7.ownBlock = some q → q < wr.heap.size := by
      obtain ⟨vs, h1, -⟩ := L1.out
      intro q hq
      exact (h1.lt q hq).2
    obtain ⟨vs, ho, h2⟩ := L2
    have hvl : vs.length = acc.length * 2 := by have := ho.1; omega
    have HO : Hid (w2.ownsRow w.heap.size 338 2 u7 acc.length vs) := ho
    have H2 : Hid (∀ (i : Nat) (p : PX × PX), acc[i]? = some p → _) := h2
    have HSL : Hid (∀ q, u7.ownBlock = some q → q < wr.heap.size) := hsl
    have hw2 := F2.out.size
    have hw3 := hf.size
    clear hf hr hn hv hu ho h2 hsl R1 F1 L1 P1 hp
    obtain ⟨bx, rfl, -, -⟩ := T2.out.ptr
    obtain ⟨by', rfl, -, -⟩ := U2.out.ptr
    have HOA : Hid ((w2.alloc (.cells #[.pointer (some ⟨bx, 0, none⟩), .pointer (some ⟨by', 0, none⟩)] 338)).ownsRow w.heap.size 338 2 u7 acc.length vs) := HO.out.alloc _
    go_wp2_with (at_builtin; refine wpList_append_lies _ rfl _ _ 336 rfl _ 338 i0 _ 2 16 Tryz.underlying336 hi0 hz0 hz1 hz2 rfl (by decide) u7 _ vs rfl HOA.out _ 1 1 [.pointer (some ⟨bx, 0, none⟩), .pointer (some ⟨by', 0, none⟩)] rfl rfl ?q1 ?q2 (by decide) ?q3 ?q4 ?q5 (w2.heap.size + 1) ?q6 ?_)
    case q1 =>
      intro k u hk
      match k, hk with
      | 0, hk => simp at hk; subst hk; simp [Addr.add]
      | 1, hk => simp at hk; subst hk; simp [Addr.add]
      | k + 2, hk => simp at hk
    case q2 =>
      intro u hu
      simp only [List.mem_cons, List.not_mem_nil, or_false] at hu
      rcases hu with rfl | rfl <;> rfl
    case q3 => unfold maxLen; omega
    case q4 => omega
    case q5 => simp; omega
    case q6 => simp
    intro g cap w3 ho hg hat hlt
    have hgr : w2.grownBy w3 u7.ownBlock := by
      have a1 := World.grownBy_alloc w2 (.cells #[.pointer (some ⟨bx, 0, none⟩), .pointer (some ⟨by', 0, none⟩)] 338) u7.ownBlock
      refine ⟨hg.os, hg.tape, hg.output, ?_, fun k hk hne => ?_⟩
      · have := hg.size; simp at this; omega
      · rw [hg.block k (by simp; omega) hne, a1.block k hk hne]
    have L3 : Hid (LS2 w3 w.heap.size (.slice (some ⟨g, 0, none⟩) (acc.length + 1) cap) (acc ++ [(x, y)])) := LS2.push H2.out hvl T2.out U2.out hw1 HSL.out ho hgr (by rcases hat with q | q; exact .inl q; exact .inr (by omega))
    have F3a : Fr (fun k => u7.ownBlock ≠ some k) w2 w3 := ⟨hgr.os, hgr.tape, hgr.output, hgr.size, fun k hk hp => hgr.block k hk (fun e => hp e.symm)⟩
    have hsl2 : ∀ k, k < w.heap.size → u7.ownBlock ≠ some k := fun k hk e => by have := (HO.out.lt k e).1; omega
    have F3 : Hid (Fr (· ≠ br) w w3) := ⟨F3a.os.trans F2.out.os, F3a.tape.trans F2.out.tape, F3a.output.trans F2.out.output, Nat.le_trans F2.out.size F3a.size, fun k hk hq => (F3a.block k (by omega) (hsl2 k hk)).trans (F2.out.block k hk hq)⟩
    have R3 : Hid (RdF w3 br t j2 d) := RdF.of R2.out F3a (hsl2 br hlb)
    clear ho hg hat hlt hgr F3a hsl2 H2 HO HSL HOA T2 U2 R2 F2
    have hlen : acc.length + 1 + f ≤ 1000000 := by omega
    generalize hA : acc ++ [(x, y)] = acc2 at L3 hk
    have hA2 : acc2.length = acc.length + 1 := by rw [← hA]; simp
    clear hA
    rw [← hA2] at L3 ⊢
    generalize hS7 : Value.slice (some ⟨g, 0, none⟩) acc2.length cap = sl at L3 ⊢
    clear hS7 hvl
    obtain ⟨a3, l3, c3, hsl3, hrow3⟩ := L3.out.row (by omega)
    clear hrow3
    subst hsl3
    cases hb : (tkF t.data.toList j2).tx == cl.data.toList with
    | true =>
      rw [hb, if_pos rfl] at hk
      have HQ : Hid (r = .ok (acc2, j2 + 1)) := by simp only [okX, Option.some.injEq] at hk; exact hk.symm
      have HK3 : Hid (Calls _ _ _ _ _) := HK.out w3 j2 true R3.out hb
      clear hk hb HK R3
      go_wp2_with (go_at_call 339; refine HK3.out.mono ?_; rintro e w4 ⟨rfl, hr, hf⟩; have R4 : Hid (RdF w4 br t (j2 + 1) d) := hr; have F4 : Hid (Fr (· ≠ br) w w4) := F3.out.trans hf; have L4 : Hid (LS2 w4 w.heap.size _ acc2) := L3.out.fr hf hlb; clear hr hf)
      go_ret
      rw [HQ.out]
      obtain ⟨a4, l4, c4, hsl4, hrow4⟩ := L4.out.row (by omega)
      exact ⟨F4.out, ⟨a4, l4, c4, by rw [hsl4]; rfl, hrow4⟩, R4.out⟩
    | false =>
      rw [hb, if_neg (by simp)] at hk
      have HK3 : Hid (Calls _ _ _ _ _) := HK.out w3 j2 false R3.out hb
      clear hb HK R3
      go_wp2_with (go_at_call 339; refine HK3.out.mono ?_; rintro e w4 ⟨rfl, hr, hf⟩; have R4 : Hid (RdF w4 br t j2 d) := hr; have F4 : Hid (Fr (· ≠ br) w w4) := F3.out.trans hf; have L4 : Hid (LS2 w4 w.heap.size _ acc2) := L3.out.fr hf hlb; clear hr hf)
      rcases needX_cases hk with ⟨hb, hk2⟩ | ⟨hb, rfl⟩
      case inr =>
        refine (HD.out w4 ⟨#[44]⟩ j2 false R4.out hb).mono ?_
        rintro e w5 ⟨hf, ⟨q, -⟩ | ⟨-, rfl⟩⟩
        · simp at q
        · exact ⟨rfl, F4.out.trans hf, rfl⟩
      refine (HD.out w4 ⟨#[44]⟩ j2 true R4.out hb).mono ?_
      rintro e w5 ⟨hf, ⟨-, rfl, hr⟩ | ⟨q, -⟩⟩
      case inr => simp at q
      have R5 : Hid (RdF w5 br t (j2 + 1) d) := hr
      have F5 : Hid (Fr (· ≠ br) w w5) := F4.out.trans hf
      have L5 : Hid (LS2 w5 w.heap.size (.slice a3 l3 c3) acc2) := L4.out.fr hf hlb
      have P5 : Hid (_ = some r) := hk2
      clear hf hr hb hk hk2 R4 F4 L4 F3 L3
      go_wp2_with fail
      go_roundg f
      case measure => omega
      case rel => exact ⟨j2 + 1, acc2, by omega, R5, L5, P5, F5⟩
end Go.Proofs.YtjbekejcghjhbaaGreatDoor.Sx
