/- Functions and sequences are made. -/
import Derived.Test.YtjbekejcghjhbaaGreatDoorF06
import Derived.Test.YtjbekejcghjhbaaGreatDoorF03
namespace Go.Proofs.YtjbekejcghjhbaaGreatDoor.Sx
open Go.RowKit Go.Sort
attribute [local go_sem] asn_4 asp_4 as_4_4 as_2_4 as_101_4 as_102_4 as_103_4 as_107_4 asn_2 asp_2 as_4_2 as_2_2 as_101_2 as_102_2 as_103_2 as_107_2 asn_101 asp_101 as_4_101 as_2_101 as_101_101 as_102_101 as_103_101 as_107_101 asn_102 asp_102 as_4_102 as_2_102 as_101_102 as_102_102 as_103_102 as_107_102 asn_103 asp_103 as_4_103 as_2_103 as_101_103 as_102_103 as_103_103 as_107_103 asn_107 asp_107 as_4_107 as_2_107 as_101_107 as_102_107 as_103_107 as_107_107

def mkF {α : Type} (wta : α → Nat) (ks us : List α) : Node α := if 1 + wtL wta ks + wtL wta us ≤ 1024 then mkFn ks us else mkNil

set_option maxRecDepth 100000 in
set_option maxHeartbeats 1000000 in
theorem newFunction_any (n : Nat) (P : Nat → Prop) (w : World) (d : Nat) (a : Option Addr) (len cap : Nat) (ks us : List (AV n)) (hd : SetP P w (RepP P w n) (wt n) d ks) (h : RowP P w (RepP P w n) a len us) (hP : ∀ k, w.heap.size ≤ k → P k)
    (hwk : 1 + wtL (wt n) ks ≤ 1024) (hw : ∀ x ∈ us, wt n x ≤ 1024) (hl : ks.length = us.length) (hcap : Shape a len cap) :
    Calls Tryz.prog 283 #[.pointer (some ⟨d, 0, none⟩), .slice a len cap] w fun e w' => ∃ v, e = .returned (.agg #[v]) ∧ RepP P w' (n + 1) (mkF (wt n) ks us) v ∧ Grew w w' := by
  have HC : Hid _ := fun (W : World) (hW : Grew w W) => weighAll_any n W a len cap us ((h.row (RepP.rep n)).below hW.below fun x v => Rep.below hW.below n x v) hw
  have hb := wtL_le (wt n) us hw
  have hlen : us.length ≤ 4294967296 := by have := h.1; have := h.2.1; omega
  have HD : Hid (SetP P w _ (wt n) d ks) := hd
  obtain ⟨hPd, a', len', cap', hq, hrow⟩ := hd
  have HK : Hid _ := fun (W : World) (hW : Grew w W) => counts_any n W a' len' cap' ks ((hrow.row (RepP.rep n)).below hW.below fun x v => Rep.below hW.below n x v)
  have HP : Hid _ := hP
  have HR : Hid (RowP P w _ a len us) := h
  have HF : Hid (∀ (b : Nat) (W : World), Grew w W → w.heap.size ≤ b → W.heap[b]? = some (.cells #[.pointer (some ⟨d, 0, none⟩), .slice a len cap, .int .i64 ((1 + wtL (wt n) ks + wtL (wt n) us : Nat) : Int), .bool (counts (numOf n) ks)] 130 (0, 0)) → RepP P W (n + 1) (mkFn ks us : _) (.iface 125 (.pointer (some ⟨b, 0, none⟩)))) := by
    intro b W hW hbw hq
    exact .inr (.inr (.inr (.inr (.inr (.inr ⟨ks, us, b, d, rfl, rfl, HP.out b hbw, HD.out.keep (Fr.grew hW), hl, a, len, cap, hq, HR.out.keep (Fr.grew hW), hcap⟩)))))
  have HQ : Hid (∀ W : World, Grew w W → W.cell? ⟨d, 0, none⟩ = some (.slice a' len' cap') ∧ W.cell? ⟨d, 1, none⟩ = some (.int .i64 ((1 + wtL (wt n) ks : Nat) : Int))) := by
    intro W hW
    have := Below.blockAt hW.below hq
    exact ⟨block_cell this 0, block_cell this 1⟩
  unfold mkF
  have hds := block_lt hq
  clear h hP hw HR HP HD hPd hq hrow hl
  have hz : d ≠ w.heap.size := by omega
  generalize wtL (wt n) us = N at HC hb HF ⊢
  generalize wtL (wt n) ks = K at HQ hwk HF ⊢
  generalize counts (numOf n) ks = C at HK HF
  have mo := follows
  by_cases hN : 1 + K + N ≤ 1024
  · rw [if_pos hN]
    go_enter Tryz.func283, Tryz.ntmps283
    go_wp2_with fail
    obtain ⟨y0, y1⟩ := HQ.out _ ((Grew.refl w).alloc (.cells #[.nilIface] 23))
    go_region_held3 (fun w' => w'.cell? ⟨d, 1, none⟩ = some (.int .i64 ((1 + K : Nat) : Int))) (first | assumption | go_keep)
      ((go_at_call 279; refine (HC.out _ (((Grew.refl w).alloc _).drew)).mono ?_; rintro e w' ⟨rfl, hg⟩; obtain ⟨x0, x1, x2⟩ := box_kept (((Grew.refl _).drew).trans hg); have HX : Hid (w'.heap[w.heap.size]? = some (.cells #[_] 23 (0, 0))) := Below.blockAt (((Grew.refl _).drew).trans hg).below (heap_new rfl); have HG : Hid (Grew w w') := (((Grew.refl _).drew).trans hg).of_alloc; clear hg; obtain ⟨z0, z1⟩ := HQ.out _ HG.out))
    have hwrap : IntKind.i64.wrap (1 + (K : Int) + (N : Int)) = 1 + (K : Int) + (N : Int) := by rw [IntKind.wrap_i64]; omega
    rw [hwrap]
    clear hwrap
    obtain ⟨bF, hbF⟩ : ∃ b, b = w'.heap.size := ⟨_, rfl⟩
    have hN' : (w'.alloc (.cells #[.pointer (some ⟨d, 0, none⟩), .slice a len cap, .int .i64 (1 + (K : Int) + (N : Int)), .bool false] 130)).heap[bF]? = _ := heap_new hbF.symm
    have G2 : Hid (Grew w (w'.alloc (.cells #[.pointer (some ⟨d, 0, none⟩), .slice a len cap, .int .i64 (1 + (K : Int) + (N : Int)), .bool false] 130))) := HG.out.alloc _
    have hbox : (w'.alloc (.cells #[.pointer (some ⟨d, 0, none⟩), .slice a len cap, .int .i64 (1 + (K : Int) + (N : Int)), .bool false] 130)).heap[w.heap.size]? = some (.cells #[.nilIface] 23 (0, 0)) := by
      rw [Below.heap_alloc _ _ _ x2]; exact HX.out
    have hle : w.heap.size < bF := by omega
    rw [← hbF]
    clear hbF x0 x1 x2 HG z0 z1 y0 y1 HX
    generalize w'.alloc _ = W2 at hN' G2 hbox ⊢
    have HN : Hid (W2.heap[bF]? = _) := hN'
    have HB : Hid (W2.heap[w.heap.size]? = _) := hbox
    have c2 := block_cell hN' 2
    obtain ⟨y0, _⟩ := HQ.out _ G2.out
    clear hN' hbox
    go_wp2_with (go_at_call 312; refine (HK.out _ G2.out).mono ?_; rintro e w3 ⟨rfl, hg⟩; have HN3 : Hid _ := Below.blockAt hg.below HN.out; have HB3 : Hid _ := Below.blockAt hg.below HB.out; have G3 : Hid (Grew w w3) := G2.out.trans hg; clear hg; have u0 := block_cell HN3.out 3; have u1 := frozen_block HN3.out 3; have u2 := block_cell HB3.out 0; have u3 := frozen_block HB3.out 0)
    have r1 : (w3.setCell ⟨bF, 3, none⟩ (.bool C)).cell? _ = some .nilIface := (World.cell?_setCell_other _ _ _ _ (fun e => by have := congrArg Addr.block e; simp at this; omega)).trans u2
    have r0 := World.cell?_setCell_same _ _ (.iface 125 (.pointer (some ⟨bF, 0, none⟩))) r1
    refine bodyPost_ret (v := .agg #[.iface 125 (.pointer (some ⟨bF, 0, none⟩))]) (by simp [results, Tryz.results283, go_sem, r0]) rfl ⟨_, rfl, ?_, (G3.out.setNew (Nat.le_of_lt hle) _).setNew (Nat.le_refl _) _⟩
    refine HF.out _ _ ((G3.out.setNew (Nat.le_of_lt hle) _).setNew (Nat.le_refl _) _) (Nat.le_of_lt hle) ?_
    rw [Below.heap_setCell _ _ _ _ (by simp; omega), set_block HN3.out 3 (.bool C), show ((1 + K + N : Nat) : Int) = 1 + (K : Int) + (N : Int) from by omega]
    rfl
  · rw [if_neg hN]
    have hd' : (1024 : Int) < 1 + (K : Int) + (N : Int) := by omega
    go_enter Tryz.func283, Tryz.ntmps283
    go_wp2_with fail
    obtain ⟨y0, y1⟩ := HQ.out _ ((Grew.refl w).alloc (.cells #[.nilIface] 23))
    go_region_held3 (fun w' => w'.cell? ⟨d, 1, none⟩ = some (.int .i64 ((1 + K : Nat) : Int))) (first | assumption | go_keep)
      ((go_at_call 279; refine (HC.out _ (((Grew.refl w).alloc _).drew)).mono ?_; rintro e w' ⟨rfl, hg⟩; obtain ⟨x0, x1, x2⟩ := box_kept (((Grew.refl _).drew).trans hg); have HX : Hid (w'.heap[w.heap.size]? = some (.cells #[_] 23 (0, 0))) := Below.blockAt (((Grew.refl _).drew).trans hg).below (heap_new rfl); have HG : Hid (Grew w w') := (((Grew.refl _).drew).trans hg).of_alloc; clear hg; obtain ⟨z0, z1⟩ := HQ.out _ HG.out))
    have hwrap : IntKind.i64.wrap (1 + (K : Int) + (N : Int)) = 1 + (K : Int) + (N : Int) := by rw [IntKind.wrap_i64]; omega
    rw [hwrap]
    clear hwrap
    obtain ⟨bF, hbF⟩ : ∃ b, b = w'.heap.size := ⟨_, rfl⟩
    have hN' : (w'.alloc (.cells #[.pointer (some ⟨d, 0, none⟩), .slice a len cap, .int .i64 (1 + (K : Int) + (N : Int)), .bool false] 130)).heap[bF]? = _ := heap_new hbF.symm
    have G2 : Hid (Grew w (w'.alloc (.cells #[.pointer (some ⟨d, 0, none⟩), .slice a len cap, .int .i64 (1 + (K : Int) + (N : Int)), .bool false] 130))) := HG.out.alloc _
    have hbox : (w'.alloc (.cells #[.pointer (some ⟨d, 0, none⟩), .slice a len cap, .int .i64 (1 + (K : Int) + (N : Int)), .bool false] 130)).heap[w.heap.size]? = some (.cells #[.nilIface] 23 (0, 0)) := by
      rw [Below.heap_alloc _ _ _ x2]; exact HX.out
    have hle : w.heap.size < bF := by omega
    rw [← hbF]
    clear hbF x0 x1 x2 HG z0 z1 y0 y1 HX
    generalize w'.alloc _ = W2 at hN' G2 hbox ⊢
    have c2 := block_cell hN' 2
    have u2 := block_cell hbox 0
    have u3 := frozen_block hbox 0
    clear hN' hbox
    go_wp2_with fail
    have r0 := World.cell?_setCell_same _ _ .nilIface u2
    exact bodyPost_ret (by simp [results, Tryz.results283, go_sem, r0]) rfl ⟨_, rfl, .inl ⟨rfl, rfl⟩, G2.out.setNew (Nat.le_refl _) _⟩
end Go.Proofs.YtjbekejcghjhbaaGreatDoor.Sx

namespace Go.Proofs.YtjbekejcghjhbaaGreatDoor.Sx
open Go.RowKit Go.Sort
attribute [local go_sem] asn_4 asp_4 as_4_4 as_2_4 as_101_4 as_102_4 as_103_4 as_107_4 asn_2 asp_2 as_4_2 as_2_2 as_101_2 as_102_2 as_103_2 as_107_2 asn_101 asp_101 as_4_101 as_2_101 as_101_101 as_102_101 as_103_101 as_107_101 asn_102 asp_102 as_4_102 as_2_102 as_101_102 as_102_102 as_103_102 as_107_102 asn_103 asp_103 as_4_103 as_2_103 as_101_103 as_102_103 as_103_103 as_107_103 asn_107 asp_107 as_4_107 as_2_107 as_101_107 as_102_107 as_103_107 as_107_107

def intAV (m : Nat) (i : Int) : AV (m + 1) := (mkInt i : Node (AV m))
def seqKeys (m len : Nat) : List (AV (m + 1)) := (List.range len).map fun (i : Nat) => intAV m ((i : Int) + 1)
theorem seqKeys_len (m len : Nat) : (seqKeys m len).length = len := by simp [seqKeys]
theorem seqKeys_at (m len i : Nat) (h : i < len) : (seqKeys m len)[i]? = some (intAV m ((i : Int) + 1)) := by
  simp [seqKeys, h]
theorem sum_ones {α : Type} (f : α → Nat) (l : List α) (h : ∀ x ∈ l, f x = 1) : wtL f l = l.length := by
  induction l with
  | nil => rfl
  | cons x l ih => rw [wtL_cons, h x (by simp), ih (fun y hy => h y (by simp [hy]))]; simp; omega
theorem seqKeys_wt (m len : Nat) : wtL (wt (m + 1)) (seqKeys m len) = len := by
  rw [sum_ones _ _ ?_, seqKeys_len]
  intro x hx
  obtain ⟨i, _, rfl⟩ := List.mem_map.1 hx
  rfl
theorem seqKeys_one (m len : Nat) : ∀ x ∈ seqKeys m len, wt (m + 1) x ≤ 1024 := by
  intro x hx
  obtain ⟨i, _, rfl⟩ := List.mem_map.1 hx
  exact (by decide : 1 ≤ 1024)

/-- what is kept where the result lies -/
theorem RepP.boxed {P : Nat → Prop} {w W : World} {n : Nat} {a : AV n} {v : Value} {b : Nat} (u : Value) (h : RepP (fun k => P k ∧ k ≠ b) W n a v) (_ : w = w) : RepP P (W.setCell ⟨b, 0, none⟩ u) n a v :=
  h.fr ((Fr.refl _ W).set (by simp) u) (fun _ _ h => h.1) n a v

theorem info23 : (Tryz.prog.info? 23).map (fun i => (i.zero, i.size, i.bytes)) = some (some (.agg #[.nilIface]), 1, 16) := by kernel_rfl

set_option maxRecDepth 100000 in
set_option maxHeartbeats 1000000 in
theorem span_any (m : Nat) (P : Nat → Prop) (w : World) (len : Nat) (hl : len ≤ 1048577) (hP : ∀ k, w.heap.size ≤ k → P k) :
    Calls Tryz.prog 209 #[.int .i64 1, .int .i64 len] w fun e w' => ∃ v, e = .returned (.agg #[v]) ∧ RepP P w' (m + 2) (mkS (wt (m + 1)) (seqKeys m len)) v ∧ Below w.heap.size w w' := by
  have HP : Hid _ := hP
  clear hP
  by_cases h0 : len = 0
  · subst h0
    have HN : Hid _ := fun (W : World) (hW : w.heap.size < W.heap.size) => newSet_any (m + 1) (fun k => P k ∧ k ≠ w.heap.size) W none 0 0 [] ⟨rfl, by decide, .inl rfl⟩ (fun k hk => ⟨HP.out k (by omega), by omega⟩) (by simp) (by simp)
    go_enter Tryz.func209, Tryz.ntmps209
    go_wp2_with (go_at_call 220; refine (HN.out _ (by simp)).mono ?_; rintro e w' ⟨v, rfl, hrep, hg⟩; obtain ⟨x0, x1, x2⟩ := box_kept hg; have HG : Hid (Grew w w') := hg.of_alloc; have st := store_one (hrep.rep _ _ _).one; have HR : Hid (RepP _ w' (m + 2) _ v) := hrep; clear hg hrep)
    have r0 := World.cell?_setCell_same _ _ v x0
    refine bodyPost_ret (v := .agg #[v]) (by simp [results, Tryz.results209, go_sem, r0]) rfl ⟨_, rfl, ?_, (HG.out.setNew (Nat.le_refl _) _).below⟩
    exact HR.out.boxed (w := w) v rfl
  · obtain ⟨i0, hi, hz0, hz1, hz2⟩ := info_parts info23
    by_cases h1 : 1024 < len
    · have HS : Hid (mkS (wt (m + 1)) (seqKeys m len) = mkNil) := by
        show _ = _
        unfold mkS; rw [if_neg (by rw [seqKeys_wt]; omega)]
      rw [HS.out]
      clear HS hi hz0 hz1 hz2
      go_enter Tryz.func209, Tryz.ntmps209
      go_wp2_with fail
      exact bodyPost_ret (by simp [results, Tryz.results209, go_sem]) rfl ⟨_, rfl, .inl ⟨rfl, rfl⟩, ((Grew.refl w).alloc _).below⟩
    · obtain ⟨w1, hrun, r1, r2⟩ := run_make_full (w.alloc (.cells #[.nilIface] 23)) (w.heap.size + 1) 47 23 i0 _ 1 Tryz.underlying47 hi hz0 hz1 .i64 .i64 len (by rw [hz2]; omega) (by unfold maxLen; omega) (by simp)
      clear hi hz0 hz1 hz2
      simp only [World.size_alloc] at hrun r1
      go_enter Tryz.func209, Tryz.ntmps209
      go_wp2_with fail
      go_loopw [25] (fun i wr => ∃ k : Nat, k ≤ len ∧ i = .int .i64 k ∧ Hid (∃ xs, wr.ownsRow (w.heap.size + 1) 23 1 (.slice (some ⟨w.heap.size + 1, 0, none⟩) len len) len xs ∧ ∀ j, j < k → xs[j]? = some (.iface 2 (.int .i64 ((j : Int) + 1)))) ∧ Hid (Below (w.heap.size + 1) (w.alloc (.cells #[.nilIface] 23)) wr)) (fun i _ => len - (intOf i).toNat)
      case atStart => exact ⟨0, Nat.zero_le _, rfl, ⟨_, r1, fun j hj => by omega⟩, (Below.refl _ _).grown r2 (by simp) (fun k hk => by simp at hk)⟩
      case round =>
        clear r1 r2 hrun
        obtain ⟨k, hk, rfl, HO, HB⟩ := hrel
        obtain ⟨xs, ho, hx⟩ := HO.out
        have hxl : xs.length = len := by have := ho.1; omega
        have HX : Hid _ := hx
        by_cases hlt : k < len
        · have hc := ho.cellAt k (by omega)
          have hcc : wr.cell? ⟨w.heap.size + 1, k, none⟩ = some xs[k] := by rw [hc, List.getElem?_eq_getElem (by omega)]
          have hf := ho.frozenAt k
          have HS := ho.stored k (.iface 2 (.int .i64 ((k : Int) + 1)))
          have HS : Hid (_ ∧ _) := HS
          clear hc hx ho HO
          go_wp2_with fail
          go_roundw
          case rel =>
            refine ⟨k + 1, by omega, by go_num, ⟨xs.set k (.iface 2 (.int .i64 ((k : Int) + 1))), ?_, fun j hj => ?_⟩, ?_⟩
            · rw [show (1 + (k : Int)) = (k : Int) + 1 from by omega]; exact HS.out.1
            · by_cases e : j = k
              · subst e; rw [List.getElem?_set_self (by omega)]
              · rw [List.getElem?_set_ne (by omega)]; exact HX.out j (by omega)
            · rw [show (1 + (k : Int)) = (k : Int) + 1 from by omega]
              exact HB.out.grown HS.out.2 (by simpa using HB.out.size) (fun q hq => by simp at hq; omega)
          case measure => simp [intOf]; omega
        · obtain rfl : k = len := by omega
          have hrow : RowP (fun q => P q ∧ q ≠ w.heap.size) wr (RepP (fun q => P q ∧ q ≠ w.heap.size) wr (m + 1)) (some ⟨w.heap.size + 1, 0, none⟩) k (seqKeys m k) := by
            refine ⟨(seqKeys_len m k).symm, by omega, .inr ⟨_ + 1, 0, rfl, ?_, ⟨HP.out _ (by omega), by omega⟩, fun i x hix => ?_⟩⟩
            · have hc := ho.cellAt 0 (by omega)
              rcases ho.2 with ⟨h', _⟩ | ⟨g', cap', cur, h', _, hg, _⟩
              · simp at h'
              · simp at h'; obtain ⟨rfl, _⟩ := h'; exact block_lt hg
            · have hi' := by have := (List.getElem?_eq_some_iff.1 hix).1; rw [seqKeys_len] at this; exact this
              rw [seqKeys_at m k i hi'] at hix
              simp only [Option.some.injEq] at hix
              subst hix
              refine ⟨_, ?_, .inr (.inr (.inl ⟨_, rfl, rfl⟩))⟩
              rw [Nat.zero_add, ho.cellAt i (by omega), HX.out i hi']
          have hsz : w.heap.size + 1 < wr.heap.size := by
            rcases hrow.2.2 with h' | ⟨b, off, e, hb, _⟩
            · omega
            · simp at e; rw [e.1]; exact hb
          have HN : Hid (Calls _ _ _ _ _) := newSet_any (m + 1) _ wr _ k k _ hrow (fun q hq => ⟨HP.out q (by omega), by omega⟩) (seqKeys_one m k) (by rw [seqKeys_len]; omega)
          have hbx := (HB.out.block w.heap.size (by omega)).trans (heap_new rfl)
          have HX' : Hid (wr.heap[w.heap.size]? = _) := hbx
          clear hrow hbx hx ho HO HX
          go_wp2_with (go_at_call 220; refine HN.out.mono ?_; rintro e w' ⟨v, rfl, hrep, hg⟩; have hbx := Below.blockAt hg.below HX'.out; have x0 := block_cell hbx 0; have x1 := frozen_block hbx 0; have HG : Hid (Grew wr w') := hg; have st := store_one (hrep.rep _ _ _).one; have HR : Hid (RepP _ w' (m + 2) _ v) := hrep; clear hg hrep hbx)
          have r0 := World.cell?_setCell_same _ _ v x0
          refine bodyPost_ret (by simp [results, Tryz.results209, go_sem, r0]) rfl ⟨_, rfl, HR.out.boxed (w := w) v rfl, ?_⟩
          exact (((Below.refl _ w).alloc (Nat.le_refl _) _).trans ((HB.out.mono (by omega)).trans (HG.out.below.mono (by omega)))).setCell (Nat.le_refl _) _

theorem RowP.keepB {P : Nat → Prop} {w w' : World} (hb : Below w.heap.size w w') {n : Nat} {a : Option Addr} {len : Nat} {es : List (AV n)} (h : RowP P w (RepP P w n) a len es) : RowP P w' (RepP P w' n) a len es := h.keep (Fr.below hb)

/-- a narrower set of blocks: those that were there, and new ones other than one -/
theorem RowP.narrow {P Q : Nat → Prop} {w : World} {n : Nat} {a : Option Addr} {len : Nat} {es : List (AV n)} (h : RowP P w (RepP P w n) a len es) (hQ : ∀ k, k < w.heap.size → P k → Q k) : RowP Q w (RepP Q w n) a len es :=
  h.fr (Fr.refl P w) (fun x v => RepP.fr (Fr.refl P w) hQ n x v) hQ

theorem RepP.set_inv {P : Nat → Prop} {w : World} {n : Nat} {es : List (AV n)} {v : Value} (h : RepP P w (n + 1) (mkSet es : Node (AV n)) v) : ∃ b, v = .iface 121 (.pointer (some ⟨b, 0, none⟩)) ∧ SetP P w (RepP P w n) (wt n) b es := by
  rcases h with ⟨h, _⟩ | ⟨b, h, _⟩ | ⟨i, h, _⟩ | ⟨s, h, _⟩ | ⟨s, h, _⟩ | ⟨es', b, h, hv, hs⟩ | ⟨ks, us, b, d, h, _⟩
  · exact absurd (congrArg Node.kind h) (by simp [mkSet, mkNil])
  · exact absurd (congrArg Node.kind h) (by simp [mkSet, mkBool])
  · exact absurd (congrArg Node.kind h) (by simp [mkSet, mkInt])
  · exact absurd (congrArg Node.kind h) (by simp [mkSet, mkText])
  · exact absurd (congrArg Node.kind h) (by simp [mkSet, mkAtom])
  · obtain rfl : es = es' := congrArg Node.keys h
    exact ⟨b, hv, hs⟩
  · exact absurd (congrArg Node.kind h) (by simp [mkSet, mkFn])
theorem RepP.nil_inv {P : Nat → Prop} {w : World} {n : Nat} {v : Value} (h : RepP P w (n + 1) (mkNil : Node (AV n)) v) : v = .nilIface := by
  rcases h with ⟨_, h⟩ | ⟨b, h, _⟩ | ⟨i, h, _⟩ | ⟨s, h, _⟩ | ⟨s, h, _⟩ | ⟨es', b, h, hv, hs⟩ | ⟨ks, us, b, d, h, _⟩
  · exact h
  · exact absurd (congrArg Node.kind h) (by simp [mkNil, mkBool])
  · exact absurd (congrArg Node.kind h) (by simp [mkNil, mkInt])
  · exact absurd (congrArg Node.kind h) (by simp [mkNil, mkText])
  · exact absurd (congrArg Node.kind h) (by simp [mkNil, mkAtom])
  · exact absurd (congrArg Node.kind h) (by simp [mkNil, mkSet])
  · exact absurd (congrArg Node.kind h) (by simp [mkNil, mkFn])
theorem field_23 (v : Value) (w : World) (h : v.oneCell' = true) : (Instr.field 23 (.agg #[v]) 0).run Tryz.prog w = .ok v w := by
  cases v <;> first | (simp [Value.oneCell'] at h; done) | kernel_rfl

set_option maxRecDepth 100000 in
set_option maxHeartbeats 1000000 in
theorem newSequence_any (m : Nat) (P : Nat → Prop) (w : World) (a : Option Addr) (len cap : Nat) (us : List (AV (m + 1))) (hl : len ≤ 1048577) (h : RowP P w (RepP P w (m + 1)) a len us) (hP : ∀ k, w.heap.size ≤ k → P k) (hw : ∀ x ∈ us, wt (m + 1) x ≤ 1024) (hcap : Shape a len cap) :
    Calls Tryz.prog 236 #[.slice a len cap] w fun e w' => ∃ v, e = .returned (.agg #[v]) ∧ RepP P w' (m + 2) (mkF (wt (m + 1)) (seqKeys m len) us) v ∧ Below w.heap.size w w' := by
  have HP : Hid _ := hP
  have hus : us.length = len := h.1.symm
  have HS : Hid _ := fun (W : World) (hW : w.heap.size < W.heap.size) => span_any m (fun k => P k ∧ k ≠ w.heap.size) W len hl (fun k hk => ⟨HP.out k (by omega), by omega⟩)
  have HN : Hid (∀ (W : World) (d : Nat), _ → w.heap.size < W.heap.size → _ → 1 + len ≤ 1024 → _) :=
    fun (W : World) (d : Nat) hW hs hd hle => newFunction_any (m + 1) _ W d a len cap _ us hd ((h.narrow (Q := fun k => P k ∧ k ≠ w.heap.size) (fun k hk hp => ⟨hp, by omega⟩)).keepB hW) (fun k hk => ⟨HP.out k (by omega), by omega⟩) (by rw [seqKeys_wt]; exact hle) hw (by rw [seqKeys_len, hus]) hcap
  clear h hP
  have HM : Hid (¬ 1 + len ≤ 1024 → mkF (wt (m + 1)) (seqKeys m len) us = mkNil) := by
    intro q; unfold mkF; rw [if_neg (by rw [seqKeys_wt]; omega)]
  by_cases hle : 1 + len ≤ 1024
  · have HK : Hid (mkS (wt (m + 1)) (seqKeys m len) = mkSet (seqKeys m len)) := by show _ = _; unfold mkS; rw [if_pos (by rw [seqKeys_wt]; exact hle)]
    go_enter Tryz.func236, Tryz.ntmps236
    go_wp2_with (go_at_call 209; refine (HS.out _ (by simp)).mono ?_; rintro e w1 ⟨v, rfl, hrep, hg⟩; rw [HK.out] at hrep; obtain ⟨b, rfl, hset⟩ := hrep.set_inv; have ff := fun W => field_23 (.iface 121 (.pointer (some ⟨b, 0, none⟩))) W rfl; have hbx := Below.blockAt hg (heap_new (o := .cells #[_] 23) rfl); have HX : Hid (w1.heap[w.heap.size]? = _) := hbx; have HG : Hid _ := ((Below.refl _ w).alloc (Nat.le_refl _) _).trans (hg.mono (by simp)); have HR : Hid (SetP _ w1 _ _ b _) := hset; clear hg hrep hbx hset)
    have hsz := block_lt HX.out
    refine (HN.out w1 b HG.out hsz HR.out hle).mono ?_
    rintro e w2 ⟨v, rfl, hrep, hg⟩
    have hbx := Below.blockAt hg.below HX.out
    have x0 := block_cell hbx 0
    have x1 := frozen_block hbx 0
    have st := store_one (hrep.rep _ _ _).one
    have HV : Hid (RepP _ w2 (m + 2) _ v) := hrep
    have HG2 : Hid _ := HG.out.trans (hg.below.mono (by omega))
    clear hg hrep hbx
    go_wp2_with fail
    have r0 := World.cell?_setCell_same _ _ v x0
    exact bodyPost_ret (by simp [results, Tryz.results236, go_sem, r0]) rfl ⟨_, rfl, HV.out.boxed (w := w) v rfl, HG2.out.setCell (Nat.le_refl _) _⟩
  · have HK : Hid (mkS (wt (m + 1)) (seqKeys m len) = mkNil) := by show _ = _; unfold mkS; rw [if_neg (by rw [seqKeys_wt]; exact hle)]
    rw [HM.out hle]
    go_enter Tryz.func236, Tryz.ntmps236
    go_wp2_with (go_at_call 209; refine (HS.out _ (by simp)).mono ?_; rintro e w1 ⟨v, rfl, hrep, hg⟩; rw [HK.out] at hrep; obtain rfl := hrep.nil_inv; have ff := fun W => field_23 .nilIface W rfl; have hbx := Below.blockAt hg (heap_new (o := .cells #[_] 23) rfl); have x0 := block_cell hbx 0; have x1 := frozen_block hbx 0; have HG : Hid _ := ((Below.refl _ w).alloc (Nat.le_refl _) _).trans (hg.mono (by simp)); clear hg hrep hbx)
    have r0 := World.cell?_setCell_same _ _ .nilIface x0
    exact bodyPost_ret (by simp [results, Tryz.results236, go_sem, r0]) rfl ⟨_, rfl, .inl ⟨rfl, rfl⟩, HG.out.setCell (Nat.le_refl _) _⟩
end Go.Proofs.YtjbekejcghjhbaaGreatDoor.Sx

namespace Go.Proofs.YtjbekejcghjhbaaGreatDoor.Sx
open Go.RowKit Go.Sort

set_option maxRecDepth 100000 in
theorem rletter_int (x : Int) (w : World) : Calls Tryz.prog 126 #[.int .u8 x] w fun e w' => e = .returned (.bool (decide (97 ≤ x ∧ x ≤ 122) || decide (65 ≤ x ∧ x ≤ 90))) ∧ w' = w := by
  have fin : ∀ b, _ = b → (decide (97 ≤ x ∧ x ≤ 122) || decide (65 ≤ x ∧ x ≤ 90)) = b := fun _ h => h
  rcases (show x < 65 ∨ (65 ≤ x ∧ x ≤ 90) ∨ (90 < x ∧ x < 97) ∨ (97 ≤ x ∧ x ≤ 122) ∨ 122 < x from by omega) with h | h | h | h | h
  · rw [fin false (by simp; omega)]
    clear fin
    have h1 : ¬ 97 ≤ x := by omega
    have h2 : ¬ 65 ≤ x := by omega
    go_enter Tryz.func126, Tryz.ntmps126
    go_wp2
    go_ret
    exact ⟨rfl, rfl⟩
  · rw [fin true (by simp; omega)]
    clear fin
    obtain ⟨h3, h4⟩ := h
    have h1 : ¬ 97 ≤ x := by omega
    go_enter Tryz.func126, Tryz.ntmps126
    go_wp2
    go_ret
    exact ⟨rfl, rfl⟩
  · rw [fin false (by simp; omega)]
    clear fin
    have h1 : ¬ 97 ≤ x := by omega
    have h2 : 65 ≤ x := by omega
    have h3 : ¬ x ≤ 90 := by omega
    clear h
    go_enter Tryz.func126, Tryz.ntmps126
    go_wp2
    go_ret
    exact ⟨rfl, rfl⟩
  · rw [fin true (by simp; omega)]
    clear fin
    obtain ⟨h3, h4⟩ := h
    go_enter Tryz.func126, Tryz.ntmps126
    go_wp2
    go_ret
    exact ⟨rfl, rfl⟩
  · rw [fin false (by simp; omega)]
    clear fin
    have h1 : 97 ≤ x := by omega
    have h2 : 65 ≤ x := by omega
    have h3 : ¬ x ≤ 90 := by omega
    have h4 : ¬ x ≤ 122 := by omega
    clear h
    go_enter Tryz.func126, Tryz.ntmps126
    go_wp2
    go_ret
    exact ⟨rfl, rfl⟩

set_option maxRecDepth 100000 in
theorem rdigit_int (x : Int) (w : World) : Calls Tryz.prog 124 #[.int .u8 x] w fun e w' => e = .returned (.bool (decide (48 ≤ x ∧ x ≤ 57))) ∧ w' = w := by
  have fin : ∀ b, _ = b → decide (48 ≤ x ∧ x ≤ 57) = b := fun _ h => h
  rcases (show x < 48 ∨ (48 ≤ x ∧ x ≤ 57) ∨ 57 < x from by omega) with h | h | h
  · rw [fin false (by simp; omega)]
    clear fin
    have h1 : ¬ 48 ≤ x := by omega
    clear h
    go_enter Tryz.func124, Tryz.ntmps124
    go_wp2
    go_ret
    exact ⟨rfl, rfl⟩
  · rw [fin true (by simp; omega)]
    clear fin
    obtain ⟨h1, h2⟩ := h
    go_enter Tryz.func124, Tryz.ntmps124
    go_wp2
    go_ret
    exact ⟨rfl, rfl⟩
  · rw [fin false (by simp; omega)]
    clear fin
    have h1 : 48 ≤ x := by omega
    have h2 : ¬ x ≤ 57 := by omega
    clear h
    go_enter Tryz.func124, Tryz.ntmps124
    go_wp2
    go_ret
    exact ⟨rfl, rfl⟩

theorem rletter_any (c : UInt8) (w : World) : Calls Tryz.prog 126 #[.int .u8 c.toNat] w fun e w' => e = .returned (.bool (isLetter c)) ∧ w' = w := by
  rw [isLetter_eq]; exact rletter_int _ w
theorem rdigit_any (c : UInt8) (w : World) : Calls Tryz.prog 124 #[.int .u8 c.toNat] w fun e w' => e = .returned (.bool (isDigit c)) ∧ w' = w := by
  rw [isDigit_eq]; exact rdigit_int _ w


set_option maxRecDepth 100000 in
theorem inner_walk (x : Int) (b1 b2 : Bool) (w : World) (h1 : Calls Tryz.prog 126 #[.int .u8 x] w fun e w' => e = .returned (.bool b1) ∧ w' = w) (h2 : Calls Tryz.prog 124 #[.int .u8 x] w fun e w' => e = .returned (.bool b2) ∧ w' = w) :
    Calls Tryz.prog 102 #[.int .u8 x] w fun e w' => e = .returned (.bool (b1 || b2 || decide (x = 95))) ∧ w' = w := by
  have H1 : Hid (Calls _ _ _ _ _) := h1
  have H2 : Hid (Calls _ _ _ _ _) := h2
  clear h1 h2
  by_cases h : x = 95
  · rw [decide_eq_true h]
    have h' : (x == 95) = true := by simp [h]
    clear h
    cases b1 <;> cases b2 <;>
    (go_enter Tryz.func102, Tryz.ntmps102
     go_wp2_with (first | (go_at_call 126; refine H1.out.mono ?_; rintro e w' ⟨rfl, rfl⟩) | (go_at_call 124; refine H2.out.mono ?_; rintro e w' ⟨rfl, rfl⟩))
     go_ret
     exact ⟨rfl, rfl⟩)
  · rw [decide_eq_false h]
    have h' : (x == 95) = false := by simp [h]
    clear h
    cases b1 <;> cases b2 <;>
    (go_enter Tryz.func102, Tryz.ntmps102
     go_wp2_with (first | (go_at_call 126; refine H1.out.mono ?_; rintro e w' ⟨rfl, rfl⟩) | (go_at_call 124; refine H2.out.mono ?_; rintro e w' ⟨rfl, rfl⟩))
     go_ret
     exact ⟨rfl, rfl⟩)
theorem inner_any (c : UInt8) (w : World) : Calls Tryz.prog 102 #[.int .u8 c.toNat] w fun e w' => e = .returned (.bool (isPart c)) ∧ w' = w := by
  have e : isPart c = (isLetter c || isDigit c || decide ((c.toNat : Int) = 95)) := by
    unfold isPart; congr 1; exact byte_eq c 95 (by decide)
  rw [e]
  exact inner_walk _ _ _ w (rletter_any c w) (rdigit_any c w)

set_option maxRecDepth 100000 in
set_option maxHeartbeats 1000000 in
theorem rrun_any (s : ByteArray) (p : Nat) (w : World) (hs : s.size ≤ 4294967296) (hp : p ≤ s.size) : Calls Tryz.prog 103 #[.string s, .int .i64 p] w fun e w' => e = .returned (.int .i64 ((p + runLen (s.data.toList.drop p) : Nat) : Int)) ∧ w' = w := by
  have hR := runLen_le (s.data.toList.drop p)
  have hl : s.data.toList.length = s.size := by simp
  rw [List.length_drop] at hR
  have HP : Hid _ := inner_any
  obtain ⟨N, hN⟩ : ∃ N, runLen (s.data.toList.drop p) = N := ⟨_, rfl⟩
  have HN : Hid _ := hN
  rw [hN] at hR ⊢
  clear hN
  have mo := follows
  go_enter Tryz.func103, Tryz.ntmps103
  go_wp2_with fail
  go_loopw [1] (fun i wr => ∃ k : Nat, k ≤ N ∧ i = .int .i64 ((p + k : Nat) : Int) ∧ Hid (wr = w)) (fun i _ => s.size - (intOf i).toNat)
  case atStart => exact ⟨0, Nat.zero_le _, rfl, rfl⟩
  case round =>
    obtain ⟨k, hk, rfl, HQ⟩ := hrel
    obtain ⟨q, hq⟩ : ∃ q, p + k = q := ⟨_, rfl⟩
    rw [hq]
    by_cases hlt : q < s.size
    · have hc := takeWhile_step isPart (s.data.toList.drop p) k s[q] (by have := HN.out; unfold runLen at this; omega) (by rw [List.getElem?_drop, hq, List.getElem?_eq_getElem (by omega)]; rfl)
      have HPk := HP.out s[q]
      obtain ⟨b, hb⟩ : ∃ b, isPart s[q] = b := ⟨_, rfl⟩
      rw [hb] at HPk hc
      have HPK : Hid _ := HPk
      have hc' : (b = true → k + 1 ≤ N) ∧ (b = false → N = k) := by
        have := HN.out; unfold runLen at this; rw [← this]; exact hc
      clear HPk hc hb
      cases b with
      | true =>
        have hle := hc'.1 rfl
        clear hc'
        go_wp2_with (go_at_call 102; refine (HPK.out _).mono ?_; rintro e w' ⟨rfl, rfl⟩)
        go_roundw
        case rel => exact ⟨k + 1, hle, by have e : p + (k + 1) = q + 1 := by omega
                                          rw [e]; go_num, HQ⟩
        case measure => simp [intOf]; omega
      | false =>
        have hle := hc'.2 rfl
        clear hc'
        have HE : Hid (p + N = q) := by show _ = _; omega
        clear hle
        go_wp2_with (go_at_call 102; refine (HPK.out _).mono ?_; rintro e w' ⟨rfl, rfl⟩)
        go_ret
        exact ⟨by rw [HE.out]; rfl, HQ.out⟩
    · have HE : Hid (p + N = q) := by show _ = _; omega
      go_wp2_with fail
      go_ret
      exact ⟨by rw [HE.out]; rfl, HQ.out⟩
end Go.Proofs.YtjbekejcghjhbaaGreatDoor.Sx

namespace Go.Proofs.YtjbekejcghjhbaaGreatDoor.Sx
open Go.RowKit Go.Sort

/-- where a quotation ends; -1: it is none -/
def quotedR (l : List UInt8) (i : Nat) : Int := if (qScan (l.drop (i + 1)) (i + 1)).1 = 3 then ((qScan (l.drop (i + 1)) (i + 1)).2 : Int) else -1
def qEnd (r : Nat × Nat) : Int := if r.1 = 3 then (r.2 : Int) else -1
theorem qEnd_3 (n : Nat) : qEnd (3, n) = n := rfl
theorem qEnd_5 (n : Nat) : qEnd (5, n) = -1 := rfl

set_option maxRecDepth 100000 in
set_option maxHeartbeats 1000000 in
theorem quoted_any (s : ByteArray) (p : Nat) (w : World) (hs : s.size ≤ 4294967296) (hp : p < s.size) : Calls Tryz.prog 105 #[.string s, .int .i64 p] w fun e w' => e = .returned (.int .i64 (qEnd (qScan (s.data.toList.drop (p + 1)) (p + 1)))) ∧ w' = w := by
  have hl : s.data.toList.length = s.size := by simp
  obtain ⟨r, hr⟩ : ∃ r, qEnd (qScan (s.data.toList.drop (p + 1)) (p + 1)) = r := ⟨_, rfl⟩
  rw [hr]
  have HR : Hid _ := hr
  clear hr
  go_enter Tryz.func105, Tryz.ntmps105
  go_wp2_with fail
  go_loop [5] (fun i => ∃ k : Nat, p < k ∧ k ≤ s.size ∧ i = .int .i64 k ∧ Hid (qEnd (qScan (s.data.toList.drop k) k) = r)) (fun i => s.size - (intOf i).toNat)
  case atStart => exact ⟨p + 1, by omega, by omega, by go_num, HR⟩
  case round =>
    obtain ⟨k, hk1, hk, rfl, HQ⟩ := hrel
    by_cases hlt : k < s.size
    · have hst := qScan_step s.data.toList k s[k] (by rw [List.getElem?_eq_getElem (by omega)]; rfl)
      rw [(okText_int s[k]).1, (okText_int s[k]).2] at hst
      have hq := HQ.out
      rw [hst] at hq
      have HST : Hid (_ = r) := hq
      clear hst hq HQ HR
      rcases (show (s[k].toNat : Int) = 34 ∨ ((s[k].toNat : Int) ≠ 34 ∧ (s[k].toNat : Int) < 32) ∨ ((s[k].toNat : Int) ≠ 34 ∧ 126 < (s[k].toNat : Int)) ∨ (s[k].toNat : Int) = 92 ∨ ((s[k].toNat : Int) ≠ 34 ∧ (s[k].toNat : Int) ≠ 92 ∧ 32 ≤ (s[k].toNat : Int) ∧ (s[k].toNat : Int) ≤ 126) from by omega) with h | ⟨ha, hb⟩ | ⟨ha, hb⟩ | h | ⟨ha, hb, hc, hd⟩
      · have HF : Hid (r = ((k + 1 : Nat) : Int)) := by
          have := HST.out; simp [h] at this; rw [← this]; exact qEnd_3 (k + 1)
        have h' : ((s[k].toNat : Int) == 34) = true := by simp [h]
        clear HST h
        go_wp2_with fail
        go_ret
        exact ⟨by rw [HF.out]; go_num, rfl⟩
      · have HF : Hid (r = -1) := by
          have := HST.out; simp [ha, show ¬ 32 ≤ (s[k].toNat : Int) from by omega] at this; exact this.symm
        have h' : ((s[k].toNat : Int) == 34) = false := by simp [ha]
        clear HST ha
        go_wp2_with fail
        go_ret
        exact ⟨by rw [HF.out]; rfl, rfl⟩
      · have HF : Hid (r = -1) := by
          have := HST.out; simp [ha, show ¬ (s[k].toNat : Int) ≤ 126 from by omega] at this; exact this.symm
        have h' : ((s[k].toNat : Int) == 34) = false := by simp [ha]
        have h2 : ¬ (s[k].toNat : Int) < 32 := by omega
        clear HST ha
        go_wp2_with fail
        go_ret
        exact ⟨by rw [HF.out]; rfl, rfl⟩
      · have HF : Hid (r = -1) := by
          have := HST.out; simp [h] at this; exact this.symm
        have h1 : ((s[k].toNat : Int) == 34) = false := by simp [h]
        have h2 : ¬ (s[k].toNat : Int) < 32 := by omega
        have h3 : ¬ 126 < (s[k].toNat : Int) := by omega
        have h4 : ((s[k].toNat : Int) == 92) = true := by simp [h]
        clear HST h
        go_wp2_with fail
        go_ret
        exact ⟨by rw [HF.out]; rfl, rfl⟩
      · have HF : Hid (qEnd (qScan (s.data.toList.drop (k + 1)) (k + 1)) = r) := by
          have := HST.out; simp [ha, hb, hc, hd] at this; exact this
        have h1 : ((s[k].toNat : Int) == 34) = false := by simp [ha]
        have h2 : ¬ (s[k].toNat : Int) < 32 := by omega
        have h3 : ¬ 126 < (s[k].toNat : Int) := by omega
        have h4 : ((s[k].toNat : Int) == 92) = false := by simp [hb]
        clear HST ha hb hc hd
        go_wp2_with fail
        go_round
        case rel => exact ⟨k + 1, by omega, by omega, by go_num, HF⟩
        case measure => simp [intOf]; omega
    · have HF : Hid (r = -1) := by
        have := HQ.out
        rw [List.drop_of_length_le (by omega)] at this
        exact this.symm
      clear HQ HR
      go_wp2_with fail
      go_ret
      exact ⟨by rw [HF.out]; rfl, rfl⟩

def resRow : Array Value := (reservedWords.map fun l => Value.string ⟨l.toArray⟩).toArray
theorem resRow_len : reservedWords.length = 52 := by decide +kernel
theorem resRow_at (i : Nat) (h : i < 52) : ∃ s : ByteArray, resRow[i]? = some (.string s) ∧ reservedWords[i]? = some s.data.toList := by
  have hl := resRow_len
  have e : _[i]? = some reservedWords[i] := List.getElem?_eq_getElem _
  refine ⟨⟨reservedWords[i].toArray⟩, ?_, by rw [e]⟩
  unfold resRow
  rw [List.getElem?_toArray, List.getElem?_map, e]; rfl
theorem isRes_iff (l : List UInt8) : isReserved l = true ↔ ∃ i : Nat, i < 52 ∧ reservedWords[i]? = some l := by
  unfold isReserved
  rw [List.contains_iff_mem, List.mem_iff_getElem?]
  constructor
  · rintro ⟨i, h⟩
    have := (List.getElem?_eq_some_iff.1 h).1
    have hl := resRow_len
    exact ⟨i, by omega, h⟩
  · rintro ⟨i, _, h⟩; exact ⟨i, h⟩

set_option maxRecDepth 100000 in
set_option maxHeartbeats 4000000 in
theorem rreserved_any (s : ByteArray) (w : World) : Calls Tryz.prog 127 #[.string s] w fun e w' => e = .returned (.bool (isReserved s.data.toList)) ∧ Grew w w' := by
  obtain ⟨b, hb⟩ : ∃ b, isReserved s.data.toList = b := ⟨_, rfl⟩
  rw [hb]
  have HB : Hid _ := hb
  clear hb
  go_enter Tryz.func127, Tryz.ntmps127
  go_wp2_with fail
  generalize hW : w.alloc (.cells _ 9) = W
  have hW2 : W = w.alloc (.cells resRow 9) := by rw [← hW]; kernel_rfl
  clear hW
  have HG : Hid (Grew w W) := by show Grew w W; rw [hW2]; exact (Grew.refl w).alloc _
  have HX : Hid (W.heap[w.heap.size]? = some (.cells resRow 9 (0, 0))) := by show _ = _; rw [hW2]; exact heap_new rfl
  clear hW2
  have hlt := block_lt HX.out
  go_loop [4] (fun i => ∃ k : Nat, k ≤ 52 ∧ i = .int .i64 k ∧ Hid (∀ j, j < k → reservedWords[j]? ≠ some s.data.toList)) (fun i => 52 - (intOf i).toNat)
  case atStart => exact ⟨0, Nat.zero_le _, rfl, fun j h => absurd h (Nat.not_lt_zero j)⟩
  case round =>
    obtain ⟨k, hk, rfl, HQ⟩ := hrel
    by_cases hlt2 : k < 52
    · obtain ⟨t, ht1, ht2⟩ := resRow_at k hlt2
      have c0 := (block_cell HX.out k).trans ht1
      clear ht1
      have et : (t.toList == s.toList) = (t.data.toList == s.data.toList) := by rw [ByteArray.toList_eq, ByteArray.toList_eq]
      cases hts : t.toList == s.toList with
      | true =>
        have HF : Hid (b = true) := by
          show _ = _
          rw [← HB.out, isRes_iff]
          refine ⟨k, hlt2, ?_⟩
          rw [ht2, eq_of_beq (et.symm.trans hts)]
        clear ht2 HB HQ et
        go_wp2_with fail
        go_ret
        exact ⟨by rw [HF.out]; rfl, HG.out⟩
      | false =>
        have HN : Hid (∀ j, j < k + 1 → reservedWords[j]? ≠ some s.data.toList) := by
          intro j hj
          by_cases e : j < k
          · exact HQ.out j e
          · have : j = k := by omega
            subst this
            rw [ht2]
            intro q
            rw [et] at hts
            exact absurd (beq_iff_eq.2 (Option.some.inj q)) (by rw [hts]; simp)
        clear ht2 HQ et
        go_wp2_with fail
        go_round
        case rel => exact ⟨k + 1, by omega, by go_num, HN⟩
        case measure => simp [intOf]; omega
    · have HF : Hid (b = false) := by
        show _ = _
        rw [← HB.out]
        cases q : isReserved s.data.toList with
        | false => rfl
        | true =>
          obtain ⟨i, h1, h2⟩ := (isRes_iff _).1 q
          exact absurd h2 (HQ.out i (by omega))
      go_wp2_with fail
      go_ret
      exact ⟨by rw [HF.out]; rfl, HG.out⟩
end Go.Proofs.YtjbekejcghjhbaaGreatDoor.Sx

namespace Go.Proofs.YtjbekejcghjhbaaGreatDoor.Sx
open Go.RowKit Go.Sort

/-- the number of digits -/
def valD : Nat → List UInt8 → Nat
  | a, [] => a
  | a, c :: l => valD (a * 10 + (c.toNat - 48)) l
theorem valD_le : ∀ (l : List UInt8) (a : Nat), a ≤ valD a l
  | [], a => Nat.le_refl a
  | c :: l, a => Nat.le_trans (Nat.le_trans (Nat.le_mul_of_pos_right a (by decide)) (Nat.le_add_right _ _)) (valD_le l (a * 10 + (c.toNat - 48)))
theorem valD_step (l : List UInt8) (k : Nat) (c : UInt8) (a : Nat) (h : l[k]? = some c) : valD a (l.drop k) = valD (a * 10 + (c.toNat - 48)) (l.drop (k + 1)) := by
  obtain ⟨h1, e1⟩ := List.getElem?_eq_some_iff.1 h
  rw [List.drop_eq_getElem_cons h1, e1]; rfl

set_option maxRecDepth 100000 in
set_option maxHeartbeats 1000000 in
theorem size_any (s : ByteArray) (w : World) (hs : s.size ≤ 4294967296) (hd : ∀ c ∈ s.data.toList, isDigit c = true) : Calls Tryz.prog 177 #[.string s] w fun e w' => e = .returned (if valD 0 s.data.toList ≤ 9223372036854775808 then .tuple #[.int .u64 (valD 0 s.data.toList), .bool true] else .tuple #[.int .u64 0, .bool false]) ∧ w' = w := by
  have hl : s.data.toList.length = s.size := by simp
  obtain ⟨r, hr⟩ : ∃ r, (if valD 0 s.data.toList ≤ 9223372036854775808 then Value.tuple #[.int .u64 (valD 0 s.data.toList), .bool true] else .tuple #[.int .u64 0, .bool false]) = r := ⟨_, rfl⟩
  rw [hr]
  obtain ⟨N, hN⟩ : ∃ N, valD 0 s.data.toList = N := ⟨_, rfl⟩
  have HN : Hid (valD 0 (s.data.toList.drop 0) = N) := hN
  rw [hN] at hr
  have HR : Hid (_ = r) := hr
  have HD : Hid (∀ k, (h : k < s.size) → 48 ≤ s[k].toNat ∧ s[k].toNat ≤ 57) := by
    intro k h
    have := hd s[k] (by
      have e : s[k] = s.data.toList[k] := rfl
      rw [e]; exact List.getElem_mem _)
    simpa [isDigit, UInt8.le_iff_toNat_le] using this
  clear hr hN hd
  go_enter Tryz.func177, Tryz.ntmps177
  go_wp2_with fail
  go_loop [4, 5] (fun n i => ∃ k m : Nat, k ≤ s.size ∧ m ≤ 9223372036854775808 ∧ n = .int .u64 m ∧ i = .int .i64 k ∧ Hid (valD m (s.data.toList.drop k) = N)) (fun _ i => s.size - (intOf i).toNat)
  case atStart => exact ⟨0, 0, Nat.zero_le _, Nat.zero_le _, rfl, rfl, HN⟩
  case round =>
    obtain ⟨k, m, hk, hm, rfl, rfl, HQ⟩ := hrel
    by_cases hlt : k < s.size
    · obtain ⟨c1, c2⟩ := HD.out k hlt
      have hst := HQ.out
      rw [valD_step s.data.toList k s[k] m (by rw [List.getElem?_eq_getElem (by omega)]; rfl)] at hst
      obtain ⟨d, hd⟩ : ∃ d, s[k].toNat - 48 = d := ⟨_, rfl⟩
      rw [hd] at hst
      have HST : Hid _ := hst
      have hc : ((s[k].toNat : Nat) : Int) - 48 = (d : Int) := by omega
      have hd9 : d ≤ 9 := by omega
      have e1 : IntKind.wrap .u8 (((s[k].toNat : Nat) : Int) - 48) = (d : Int) := by
        rw [hc, IntKind.wrap_u8]; omega
      clear hst HQ hd
      by_cases hgt : (9223372036854775808 - (d : Int)) / 10 < (m : Int)
      · have HF : Hid (r = .tuple #[.int .u64 0, .bool false]) := by
          show _ = _
          rw [← HR.out, if_neg]
          have := valD_le (s.data.toList.drop (k + 1)) (m * 10 + d)
          rw [HST.out] at this
          omega
        clear HST
        go_wp2_with fail
        go_ret2
        exact ⟨by rw [HF.out]; rfl, rfl⟩
      · have hle : m * 10 + d ≤ 9223372036854775808 := by omega
        have e2 : ((m : Int) * 10) + d = ((m * 10 + d : Nat) : Int) := by omega
        have e3 : IntKind.u64.wrap ((m : Int) * 10 + d) = ((m * 10 + d : Nat) : Int) := by rw [IntKind.wrap_u64]; omega
        clear e2
        go_wp2_with fail
        go_round
        case rel => exact ⟨k + 1, m * 10 + d, by omega, hle, rfl, by go_num, HST⟩
        case measure => simp [intOf]; omega
    · have HF : Hid (r = .tuple #[.int .u64 m, .bool true]) := by
        have := HQ.out
        rw [List.drop_of_length_le (by omega)] at this
        have h2 : m = N := this
        show _ = _
        rw [← HR.out, ← h2, if_pos hm]
      clear HQ
      go_wp2_with fail
      go_ret2
      exact ⟨by rw [HF.out]; rfl, rfl⟩
end Go.Proofs.YtjbekejcghjhbaaGreatDoor.Sx
