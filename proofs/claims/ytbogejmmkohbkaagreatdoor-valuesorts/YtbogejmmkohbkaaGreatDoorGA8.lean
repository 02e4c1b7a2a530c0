/- Functions and sequences are made. -/
import Derived.Test.YtbogejmmkohbkaaGreatDoorGA6
namespace Go.Proofs.YtbogejmmkohbkaaGreatDoor.Sx
open Go.RowKit Go.Sort
attribute [local go_sem] asn_4 asp_4 as_4_4 as_2_4 as_101_4 as_102_4 as_103_4 as_107_4 asn_2 asp_2 as_4_2 as_2_2 as_101_2 as_102_2 as_103_2 as_107_2 asn_101 asp_101 as_4_101 as_2_101 as_101_101 as_102_101 as_103_101 as_107_101 asn_102 asp_102 as_4_102 as_2_102 as_101_102 as_102_102 as_103_102 as_107_102 asn_103 asp_103 as_4_103 as_2_103 as_101_103 as_102_103 as_103_103 as_107_103 asn_107 asp_107 as_4_107 as_2_107 as_101_107 as_102_107 as_103_107 as_107_107

def mkF {α : Type} (wta : α → Nat) (ks us : List α) : Node α := if 1 + wtL wta ks + wtL wta us ≤ 1024 then mkFn ks us else mkNil

set_option maxRecDepth 100000 in
set_option maxHeartbeats 1000000 in
theorem newFunction_any (n : Nat) (P : Nat → Prop) (w : World) (d : Nat) (a : Option Addr) (len cap : Nat) (ks us : List (AV n)) (hd : SetP P w (RepP P w n) (wt n) d ks) (h : RowP P w (RepP P w n) a len us) (hP : ∀ k, w.heap.size ≤ k → P k)
    (hwk : 1 + wtL (wt n) ks ≤ 1024) (hw : ∀ x ∈ us, wt n x ≤ 1024) (hl : ks.length = us.length) :
    Calls Tryz.prog 283 #[.pointer (some ⟨d, 0, none⟩), .slice a len cap] w fun e w' => ∃ v, e = .returned (.agg #[v]) ∧ RepP P w' (n + 1) (mkF (wt n) ks us) v ∧ Grew w w' := by
  have HC : Hid (∀ W : World, Grew w W → _) := fun (W : World) (hW : Grew w W) => weighAll_any n W a len cap us ((h.row (RepP.rep n)).below hW.below fun x v => Rep.below hW.below n x v) hw
  have hb := wtL_le (wt n) us hw
  have hlen : us.length ≤ 4294967296 := by have := h.1; have := h.2.1; omega
  have HD : Hid (SetP P w (RepP P w n) (wt n) d ks) := hd
  obtain ⟨hPd, a', len', cap', hq, hrow⟩ := hd
  have HK : Hid (∀ W : World, Grew w W → _) := fun (W : World) (hW : Grew w W) => counts_any n W a' len' cap' ks ((hrow.row (RepP.rep n)).below hW.below fun x v => Rep.below hW.below n x v)
  have HP : Hid (∀ k, w.heap.size ≤ k → P k) := hP
  have HR : Hid (RowP P w (RepP P w n) a len us) := h
  have HF : Hid (∀ (b : Nat) (W : World), Grew w W → w.heap.size ≤ b → W.heap[b]? = some (.cells #[.pointer (some ⟨d, 0, none⟩), .slice a len cap, .int .i64 ((1 + wtL (wt n) ks + wtL (wt n) us : Nat) : Int), .bool (counts (numOf n) ks)] 130 (0, 0)) → RepP P W (n + 1) (mkFn ks us : Node (AV n)) (.iface 125 (.pointer (some ⟨b, 0, none⟩)))) := by
    intro b W hW hbw hq
    exact .inr (.inr (.inr (.inr (.inr (.inr ⟨ks, us, b, d, rfl, rfl, HP.out b hbw, HD.out.keep (Fr.grew hW), hl, a, len, cap, hq, HR.out.keep (Fr.grew hW)⟩)))))
  have HQ : Hid (∀ W : World, Grew w W → W.cell? ⟨d, 0, none⟩ = some (.slice a' len' cap') ∧ W.cell? ⟨d, 1, none⟩ = some (.int .i64 ((1 + wtL (wt n) ks : Nat) : Int))) := by
    intro W hW
    have := Below.blockAt hW.below hq
    exact ⟨block_cell this 0, block_cell this 1⟩
  unfold mkF
  have hds := block_lt hq
  clear h hP hw HR HP HD hPd hq hrow hl
  have hz : d ≠ w.heap.size := by omega
  generalize wtL (wt n) us = N at HC hb HF ⊢
  generalize wtL (wt n) ks = K at HQ hwk HF ⊢
  generalize counts (numOf n) ks = C at HK HF
  have mo := follows
  by_cases hN : 1 + K + N ≤ 1024
  · rw [if_pos hN]
    go_enter Tryz.func283, Tryz.ntmps283
    go_wp2_with fail
    obtain ⟨y0, y1⟩ := HQ.out _ ((Grew.refl w).alloc (.cells #[.nilIface] 23))
    go_region_held3 (fun w' => w'.cell? ⟨d, 1, none⟩ = some (.int .i64 ((1 + K : Nat) : Int))) (first | assumption | go_keep)
      ((go_at_call 279; refine (HC.out _ (((Grew.refl w).alloc _).drew)).mono ?_; rintro e w' ⟨rfl, hg⟩; obtain ⟨x0, x1, x2⟩ := box_kept (((Grew.refl _).drew).trans hg); have HX : Hid (w'.heap[w.heap.size]? = some (.cells #[.nilIface] 23 (0, 0))) := Below.blockAt (((Grew.refl _).drew).trans hg).below (heap_new rfl); have HG : Hid (Grew w w') := (((Grew.refl _).drew).trans hg).of_alloc; clear hg; obtain ⟨z0, z1⟩ := HQ.out _ HG.out))
    have hwrap : IntKind.i64.wrap (1 + (K : Int) + (N : Int)) = 1 + (K : Int) + (N : Int) := by rw [IntKind.wrap_i64]; omega
    rw [hwrap]
    clear hwrap
    obtain ⟨bF, hbF⟩ : ∃ b, b = w'.heap.size := ⟨_, rfl⟩
    have hN' : (w'.alloc (.cells #[.pointer (some ⟨d, 0, none⟩), .slice a len cap, .int .i64 (1 + (K : Int) + (N : Int)), .bool false] 130)).heap[bF]? = some (.cells #[.pointer (some ⟨d, 0, none⟩), .slice a len cap, .int .i64 (1 + (K : Int) + (N : Int)), .bool false] 130 (0, 0)) := heap_new hbF.symm
    have G2 : Hid (Grew w (w'.alloc (.cells #[.pointer (some ⟨d, 0, none⟩), .slice a len cap, .int .i64 (1 + (K : Int) + (N : Int)), .bool false] 130))) := HG.out.alloc _
    have hbox : (w'.alloc (.cells #[.pointer (some ⟨d, 0, none⟩), .slice a len cap, .int .i64 (1 + (K : Int) + (N : Int)), .bool false] 130)).heap[w.heap.size]? = some (.cells #[.nilIface] 23 (0, 0)) := by
      rw [Below.heap_alloc _ _ _ x2]; exact HX.out
    have hle : w.heap.size < bF := by omega
    rw [← hbF]
    clear hbF x0 x1 x2 HG z0 z1 y0 y1 HX
    generalize w'.alloc (.cells #[.pointer (some ⟨d, 0, none⟩), .slice a len cap, .int .i64 (1 + (K : Int) + (N : Int)), .bool false] 130) = W2 at hN' G2 hbox ⊢
    have HN : Hid (W2.heap[bF]? = _) := hN'
    have HB : Hid (W2.heap[w.heap.size]? = _) := hbox
    have c2 := block_cell hN' 2
    obtain ⟨y0, _⟩ := HQ.out _ G2.out
    clear hN' hbox
    go_wp2_with (go_at_call 312; refine (HK.out _ G2.out).mono ?_; rintro e w3 ⟨rfl, hg⟩; have HN3 : Hid (w3.heap[bF]? = _) := Below.blockAt hg.below HN.out; have HB3 : Hid (w3.heap[w.heap.size]? = _) := Below.blockAt hg.below HB.out; have G3 : Hid (Grew w w3) := G2.out.trans hg; clear hg; have u0 := block_cell HN3.out 3; have u1 := frozen_block HN3.out 3; have u2 := block_cell HB3.out 0; have u3 := frozen_block HB3.out 0)
    have r1 : (w3.setCell ⟨bF, 3, none⟩ (.bool C)).cell? ⟨w.heap.size, 0, none⟩ = some .nilIface := (World.cell?_setCell_other _ _ _ _ (fun e => by have := congrArg Addr.block e; simp at this; omega)).trans u2
    have r0 := World.cell?_setCell_same _ _ (.iface 125 (.pointer (some ⟨bF, 0, none⟩))) r1
    refine bodyPost_ret (v := .agg #[.iface 125 (.pointer (some ⟨bF, 0, none⟩))]) (by simp [results, Tryz.results283, go_sem, r0]) rfl ⟨_, rfl, ?_, (G3.out.setNew (Nat.le_of_lt hle) _).setNew (Nat.le_refl _) _⟩
    refine HF.out _ _ ((G3.out.setNew (Nat.le_of_lt hle) _).setNew (Nat.le_refl _) _) (Nat.le_of_lt hle) ?_
    rw [Below.heap_setCell _ _ _ _ (by simp; omega), set_block HN3.out 3 (.bool C), show ((1 + K + N : Nat) : Int) = 1 + (K : Int) + (N : Int) from by omega]
    rfl
  · rw [if_neg hN]
    have hd' : (1024 : Int) < 1 + (K : Int) + (N : Int) := by omega
    go_enter Tryz.func283, Tryz.ntmps283
    go_wp2_with fail
    obtain ⟨y0, y1⟩ := HQ.out _ ((Grew.refl w).alloc (.cells #[.nilIface] 23))
    go_region_held3 (fun w' => w'.cell? ⟨d, 1, none⟩ = some (.int .i64 ((1 + K : Nat) : Int))) (first | assumption | go_keep)
      ((go_at_call 279; refine (HC.out _ (((Grew.refl w).alloc _).drew)).mono ?_; rintro e w' ⟨rfl, hg⟩; obtain ⟨x0, x1, x2⟩ := box_kept (((Grew.refl _).drew).trans hg); have HX : Hid (w'.heap[w.heap.size]? = some (.cells #[.nilIface] 23 (0, 0))) := Below.blockAt (((Grew.refl _).drew).trans hg).below (heap_new rfl); have HG : Hid (Grew w w') := (((Grew.refl _).drew).trans hg).of_alloc; clear hg; obtain ⟨z0, z1⟩ := HQ.out _ HG.out))
    have hwrap : IntKind.i64.wrap (1 + (K : Int) + (N : Int)) = 1 + (K : Int) + (N : Int) := by rw [IntKind.wrap_i64]; omega
    rw [hwrap]
    clear hwrap
    obtain ⟨bF, hbF⟩ : ∃ b, b = w'.heap.size := ⟨_, rfl⟩
    have hN' : (w'.alloc (.cells #[.pointer (some ⟨d, 0, none⟩), .slice a len cap, .int .i64 (1 + (K : Int) + (N : Int)), .bool false] 130)).heap[bF]? = some (.cells #[.pointer (some ⟨d, 0, none⟩), .slice a len cap, .int .i64 (1 + (K : Int) + (N : Int)), .bool false] 130 (0, 0)) := heap_new hbF.symm
    have G2 : Hid (Grew w (w'.alloc (.cells #[.pointer (some ⟨d, 0, none⟩), .slice a len cap, .int .i64 (1 + (K : Int) + (N : Int)), .bool false] 130))) := HG.out.alloc _
    have hbox : (w'.alloc (.cells #[.pointer (some ⟨d, 0, none⟩), .slice a len cap, .int .i64 (1 + (K : Int) + (N : Int)), .bool false] 130)).heap[w.heap.size]? = some (.cells #[.nilIface] 23 (0, 0)) := by
      rw [Below.heap_alloc _ _ _ x2]; exact HX.out
    have hle : w.heap.size < bF := by omega
    rw [← hbF]
    clear hbF x0 x1 x2 HG z0 z1 y0 y1 HX
    generalize w'.alloc (.cells #[.pointer (some ⟨d, 0, none⟩), .slice a len cap, .int .i64 (1 + (K : Int) + (N : Int)), .bool false] 130) = W2 at hN' G2 hbox ⊢
    have c2 := block_cell hN' 2
    have u2 := block_cell hbox 0
    have u3 := frozen_block hbox 0
    clear hN' hbox
    go_wp2_with fail
    have r0 := World.cell?_setCell_same _ _ .nilIface u2
    exact bodyPost_ret (v := .agg #[.nilIface]) (by simp [results, Tryz.results283, go_sem, r0]) rfl ⟨_, rfl, .inl ⟨rfl, rfl⟩, G2.out.setNew (Nat.le_refl _) _⟩
end Go.Proofs.YtbogejmmkohbkaaGreatDoor.Sx

namespace Go.Proofs.YtbogejmmkohbkaaGreatDoor.Sx
open Go.RowKit Go.Sort
attribute [local go_sem] asn_4 asp_4 as_4_4 as_2_4 as_101_4 as_102_4 as_103_4 as_107_4 asn_2 asp_2 as_4_2 as_2_2 as_101_2 as_102_2 as_103_2 as_107_2 asn_101 asp_101 as_4_101 as_2_101 as_101_101 as_102_101 as_103_101 as_107_101 asn_102 asp_102 as_4_102 as_2_102 as_101_102 as_102_102 as_103_102 as_107_102 asn_103 asp_103 as_4_103 as_2_103 as_101_103 as_102_103 as_103_103 as_107_103 asn_107 asp_107 as_4_107 as_2_107 as_101_107 as_102_107 as_103_107 as_107_107

def intAV (m : Nat) (i : Int) : AV (m + 1) := (mkInt i : Node (AV m))
def seqKeys (m len : Nat) : List (AV (m + 1)) := (List.range len).map fun (i : Nat) => intAV m ((i : Int) + 1)
theorem seqKeys_len (m len : Nat) : (seqKeys m len).length = len := by simp [seqKeys]
theorem seqKeys_at (m len i : Nat) (h : i < len) : (seqKeys m len)[i]? = some (intAV m ((i : Int) + 1)) := by
  simp [seqKeys, h]
theorem sum_ones {α : Type} (f : α → Nat) (l : List α) (h : ∀ x ∈ l, f x = 1) : wtL f l = l.length := by
  induction l with
  | nil => rfl
  | cons x l ih => rw [wtL_cons, h x (by simp), ih (fun y hy => h y (by simp [hy]))]; simp; omega
theorem seqKeys_wt (m len : Nat) : wtL (wt (m + 1)) (seqKeys m len) = len := by
  rw [sum_ones _ _ ?_, seqKeys_len]
  intro x hx
  obtain ⟨i, _, rfl⟩ := List.mem_map.1 hx
  rfl
theorem seqKeys_one (m len : Nat) : ∀ x ∈ seqKeys m len, wt (m + 1) x ≤ 1024 := by
  intro x hx
  obtain ⟨i, _, rfl⟩ := List.mem_map.1 hx
  exact (by decide : 1 ≤ 1024)

/-- what is kept where the result lies -/
theorem RepP.boxed {P : Nat → Prop} {w W : World} {n : Nat} {a : AV n} {v : Value} {b : Nat} (u : Value) (h : RepP (fun k => P k ∧ k ≠ b) W n a v) (_ : w = w) : RepP P (W.setCell ⟨b, 0, none⟩ u) n a v :=
  h.fr ((Fr.refl _ W).set (by simp) u) (fun _ _ h => h.1) n a v

theorem info23 : (Tryz.prog.info? 23).map (fun i => (i.zero, i.size, i.bytes)) = some (some (.agg #[.nilIface]), 1, 16) := by kernel_rfl

set_option maxRecDepth 100000 in
set_option maxHeartbeats 1000000 in
theorem span_any (m : Nat) (P : Nat → Prop) (w : World) (len : Nat) (hl : len ≤ 5001) (hP : ∀ k, w.heap.size ≤ k → P k) :
    Calls Tryz.prog 209 #[.int .i64 1, .int .i64 len] w fun e w' => ∃ v, e = .returned (.agg #[v]) ∧ RepP P w' (m + 2) (mkS (wt (m + 1)) (seqKeys m len)) v ∧ Below w.heap.size w w' := by
  have HP : Hid (∀ k, w.heap.size ≤ k → P k) := hP
  clear hP
  by_cases h0 : len = 0
  · subst h0
    have HN : Hid (∀ W : World, w.heap.size < W.heap.size → _) := fun (W : World) (hW : w.heap.size < W.heap.size) => newSet_any (m + 1) (fun k => P k ∧ k ≠ w.heap.size) W none 0 0 [] ⟨rfl, by decide, .inl rfl⟩ (fun k hk => ⟨HP.out k (by omega), by omega⟩) (by simp) (by simp)
    go_enter Tryz.func209, Tryz.ntmps209
    go_wp2_with (go_at_call 220; refine (HN.out _ (by simp)).mono ?_; rintro e w' ⟨v, rfl, hrep, hg⟩; obtain ⟨x0, x1, x2⟩ := box_kept hg; have HG : Hid (Grew w w') := hg.of_alloc; have st := store_one (hrep.rep _ _ _).one; have HR : Hid (RepP _ w' (m + 2) _ v) := hrep; clear hg hrep)
    have r0 := World.cell?_setCell_same _ _ v x0
    refine bodyPost_ret (v := .agg #[v]) (by simp [results, Tryz.results209, go_sem, r0]) rfl ⟨_, rfl, ?_, (HG.out.setNew (Nat.le_refl _) _).below⟩
    exact HR.out.boxed (w := w) v rfl
  · obtain ⟨i0, hi, hz0, hz1, hz2⟩ := info_parts info23
    by_cases h1 : 1024 < len
    · have HS : Hid (mkS (wt (m + 1)) (seqKeys m len) = mkNil) := by
        show _ = _
        unfold mkS; rw [if_neg (by rw [seqKeys_wt]; omega)]
      rw [HS.out]
      clear HS hi hz0 hz1 hz2
      go_enter Tryz.func209, Tryz.ntmps209
      go_wp2_with fail
      exact bodyPost_ret (v := .agg #[.nilIface]) (by simp [results, Tryz.results209, go_sem]) rfl ⟨_, rfl, .inl ⟨rfl, rfl⟩, ((Grew.refl w).alloc _).below⟩
    · obtain ⟨w1, hrun, r1, r2⟩ := run_make_full (P := Tryz.prog) (w.alloc (.cells #[.nilIface] 23)) (w.heap.size + 1) 47 23 i0 (.agg #[.nilIface]) 1 Tryz.underlying47 hi hz0 hz1 .i64 .i64 len (by rw [hz2]; omega) (by unfold maxLen; omega) (by simp)
      clear hi hz0 hz1 hz2
      simp only [World.size_alloc] at hrun r1
      go_enter Tryz.func209, Tryz.ntmps209
      go_wp2_with fail
      go_loopw [25] (fun i wr => ∃ k : Nat, k ≤ len ∧ i = .int .i64 k ∧ Hid (∃ xs, wr.ownsRow (w.heap.size + 1) 23 1 (.slice (some ⟨w.heap.size + 1, 0, none⟩) len len) len xs ∧ ∀ j, j < k → xs[j]? = some (.iface 2 (.int .i64 ((j : Int) + 1)))) ∧ Hid (Below (w.heap.size + 1) (w.alloc (.cells #[.nilIface] 23)) wr)) (fun i _ => len - (intOf i).toNat)
      case atStart => exact ⟨0, Nat.zero_le _, rfl, ⟨_, r1, fun j hj => by omega⟩, (Below.refl _ _).grown r2 (by simp) (fun k hk => by simp at hk)⟩
      case round =>
        clear r1 r2 hrun
        obtain ⟨k, hk, rfl, HO, HB⟩ := hrel
        obtain ⟨xs, ho, hx⟩ := HO.out
        have hxl : xs.length = len := by have := ho.1; omega
        have HX : Hid (∀ j, j < k → xs[j]? = some (.iface 2 (.int .i64 ((j : Int) + 1)))) := hx
        by_cases hlt : k < len
        · have hc := ho.cellAt k (by omega)
          have hcc : wr.cell? ⟨w.heap.size + 1, k, none⟩ = some xs[k] := by rw [hc, List.getElem?_eq_getElem (by omega)]
          have hf := ho.frozenAt k
          have HS := ho.stored k (.iface 2 (.int .i64 ((k : Int) + 1)))
          have HS : Hid (_ ∧ _) := HS
          clear hc hx ho HO
          go_wp2_with fail
          go_roundw
          case rel =>
            refine ⟨k + 1, by omega, by go_num, ⟨xs.set k (.iface 2 (.int .i64 ((k : Int) + 1))), ?_, fun j hj => ?_⟩, ?_⟩
            · rw [show (1 + (k : Int)) = (k : Int) + 1 from by omega]; exact HS.out.1
            · by_cases e : j = k
              · subst e; rw [List.getElem?_set_self (by omega)]
              · rw [List.getElem?_set_ne (by omega)]; exact HX.out j (by omega)
            · rw [show (1 + (k : Int)) = (k : Int) + 1 from by omega]
              exact HB.out.grown HS.out.2 (by simpa using HB.out.size) (fun q hq => by simp at hq; omega)
          case measure => simp [intOf]; omega
        · obtain rfl : k = len := by omega
          have hrow : RowP (fun q => P q ∧ q ≠ w.heap.size) wr (RepP (fun q => P q ∧ q ≠ w.heap.size) wr (m + 1)) (some ⟨w.heap.size + 1, 0, none⟩) k (seqKeys m k) := by
            refine ⟨(seqKeys_len m k).symm, by omega, .inr ⟨w.heap.size + 1, 0, rfl, ?_, ⟨HP.out _ (by omega), by omega⟩, fun i x hix => ?_⟩⟩
            · have hc := ho.cellAt 0 (by omega)
              rcases ho.2 with ⟨h', _⟩ | ⟨g', cap', cur, h', _, hg, _⟩
              · simp at h'
              · simp at h'; obtain ⟨rfl, _⟩ := h'; exact block_lt hg
            · have hi' : i < k := by have := (List.getElem?_eq_some_iff.1 hix).1; rw [seqKeys_len] at this; exact this
              rw [seqKeys_at m k i hi'] at hix
              simp only [Option.some.injEq] at hix
              subst hix
              refine ⟨_, ?_, .inr (.inr (.inl ⟨_, rfl, rfl⟩))⟩
              rw [Nat.zero_add, ho.cellAt i (by omega), HX.out i hi']
          have hsz : w.heap.size + 1 < wr.heap.size := by
            rcases hrow.2.2 with h' | ⟨b, off, e, hb, _⟩
            · omega
            · simp at e; rw [e.1]; exact hb
          have HN : Hid (Calls _ _ _ _ _) := newSet_any (m + 1) (fun q => P q ∧ q ≠ w.heap.size) wr (some ⟨w.heap.size + 1, 0, none⟩) k k (seqKeys m k) hrow (fun q hq => ⟨HP.out q (by omega), by omega⟩) (seqKeys_one m k) (by rw [seqKeys_len]; omega)
          have hbx : wr.heap[w.heap.size]? = some (.cells #[.nilIface] 23 (0, 0)) := (HB.out.block w.heap.size (by omega)).trans (heap_new rfl)
          have HX' : Hid (wr.heap[w.heap.size]? = _) := hbx
          clear hrow hbx hx ho HO HX
          go_wp2_with (go_at_call 220; refine HN.out.mono ?_; rintro e w' ⟨v, rfl, hrep, hg⟩; have hbx := Below.blockAt hg.below HX'.out; have x0 := block_cell hbx 0; have x1 := frozen_block hbx 0; have HG : Hid (Grew wr w') := hg; have st := store_one (hrep.rep _ _ _).one; have HR : Hid (RepP _ w' (m + 2) _ v) := hrep; clear hg hrep hbx)
          have r0 := World.cell?_setCell_same _ _ v x0
          refine bodyPost_ret (v := .agg #[v]) (by simp [results, Tryz.results209, go_sem, r0]) rfl ⟨_, rfl, HR.out.boxed (w := w) v rfl, ?_⟩
          exact (((Below.refl _ w).alloc (Nat.le_refl _) _).trans ((HB.out.mono (by omega)).trans (HG.out.below.mono (by omega)))).setCell (Nat.le_refl _) _

theorem RowP.keepB {P : Nat → Prop} {w w' : World} (hb : Below w.heap.size w w') {n : Nat} {a : Option Addr} {len : Nat} {es : List (AV n)} (h : RowP P w (RepP P w n) a len es) : RowP P w' (RepP P w' n) a len es := h.keep (Fr.below hb)

/-- a narrower set of blocks: those that were there, and new ones other than one -/
theorem RowP.narrow {P Q : Nat → Prop} {w : World} {n : Nat} {a : Option Addr} {len : Nat} {es : List (AV n)} (h : RowP P w (RepP P w n) a len es) (hQ : ∀ k, k < w.heap.size → P k → Q k) : RowP Q w (RepP Q w n) a len es :=
  h.fr (Fr.refl P w) (fun x v => RepP.fr (Fr.refl P w) hQ n x v) hQ

theorem RepP.set_inv {P : Nat → Prop} {w : World} {n : Nat} {es : List (AV n)} {v : Value} (h : RepP P w (n + 1) (mkSet es : Node (AV n)) v) : ∃ b, v = .iface 121 (.pointer (some ⟨b, 0, none⟩)) ∧ SetP P w (RepP P w n) (wt n) b es := by
  rcases h with ⟨h, _⟩ | ⟨b, h, _⟩ | ⟨i, h, _⟩ | ⟨s, h, _⟩ | ⟨s, h, _⟩ | ⟨es', b, h, hv, hs⟩ | ⟨ks, us, b, d, h, _⟩
  · exact absurd (congrArg Node.kind h) (by simp [mkSet, mkNil])
  · exact absurd (congrArg Node.kind h) (by simp [mkSet, mkBool])
  · exact absurd (congrArg Node.kind h) (by simp [mkSet, mkInt])
  · exact absurd (congrArg Node.kind h) (by simp [mkSet, mkText])
  · exact absurd (congrArg Node.kind h) (by simp [mkSet, mkAtom])
  · obtain rfl : es = es' := congrArg Node.keys h
    exact ⟨b, hv, hs⟩
  · exact absurd (congrArg Node.kind h) (by simp [mkSet, mkFn])
theorem RepP.nil_inv {P : Nat → Prop} {w : World} {n : Nat} {v : Value} (h : RepP P w (n + 1) (mkNil : Node (AV n)) v) : v = .nilIface := by
  rcases h with ⟨_, h⟩ | ⟨b, h, _⟩ | ⟨i, h, _⟩ | ⟨s, h, _⟩ | ⟨s, h, _⟩ | ⟨es', b, h, hv, hs⟩ | ⟨ks, us, b, d, h, _⟩
  · exact h
  · exact absurd (congrArg Node.kind h) (by simp [mkNil, mkBool])
  · exact absurd (congrArg Node.kind h) (by simp [mkNil, mkInt])
  · exact absurd (congrArg Node.kind h) (by simp [mkNil, mkText])
  · exact absurd (congrArg Node.kind h) (by simp [mkNil, mkAtom])
  · exact absurd (congrArg Node.kind h) (by simp [mkNil, mkSet])
  · exact absurd (congrArg Node.kind h) (by simp [mkNil, mkFn])
theorem field_23 (v : Value) (w : World) (h : v.oneCell' = true) : (Instr.field 23 (.agg #[v]) 0).run Tryz.prog w = .ok v w := by
  cases v <;> first | (simp [Value.oneCell'] at h; done) | kernel_rfl

set_option maxRecDepth 100000 in
set_option maxHeartbeats 1000000 in
theorem newSequence_any (m : Nat) (P : Nat → Prop) (w : World) (a : Option Addr) (len cap : Nat) (us : List (AV (m + 1))) (hl : len ≤ 5001) (h : RowP P w (RepP P w (m + 1)) a len us) (hP : ∀ k, w.heap.size ≤ k → P k) (hw : ∀ x ∈ us, wt (m + 1) x ≤ 1024) :
    Calls Tryz.prog 236 #[.slice a len cap] w fun e w' => ∃ v, e = .returned (.agg #[v]) ∧ RepP P w' (m + 2) (mkF (wt (m + 1)) (seqKeys m len) us) v ∧ Below w.heap.size w w' := by
  have HP : Hid (∀ k, w.heap.size ≤ k → P k) := hP
  have hus : us.length = len := h.1.symm
  have HS : Hid (∀ W : World, w.heap.size < W.heap.size → _) := fun (W : World) (hW : w.heap.size < W.heap.size) => span_any m (fun k => P k ∧ k ≠ w.heap.size) W len hl (fun k hk => ⟨HP.out k (by omega), by omega⟩)
  have HN : Hid (∀ (W : World) (d : Nat), Below w.heap.size w W → w.heap.size < W.heap.size → SetP (fun k => P k ∧ k ≠ w.heap.size) W (RepP (fun k => P k ∧ k ≠ w.heap.size) W (m + 1)) (wt (m + 1)) d (seqKeys m len) → 1 + len ≤ 1024 → _) :=
    fun (W : World) (d : Nat) hW hs hd hle => newFunction_any (m + 1) (fun k => P k ∧ k ≠ w.heap.size) W d a len cap (seqKeys m len) us hd ((h.narrow (Q := fun k => P k ∧ k ≠ w.heap.size) (fun k hk hp => ⟨hp, by omega⟩)).keepB hW) (fun k hk => ⟨HP.out k (by omega), by omega⟩) (by rw [seqKeys_wt]; exact hle) hw (by rw [seqKeys_len, hus])
  clear h hP
  have HM : Hid (¬ 1 + len ≤ 1024 → mkF (wt (m + 1)) (seqKeys m len) us = mkNil) := by
    intro q; unfold mkF; rw [if_neg (by rw [seqKeys_wt]; omega)]
  by_cases hle : 1 + len ≤ 1024
  · have HK : Hid (mkS (wt (m + 1)) (seqKeys m len) = mkSet (seqKeys m len)) := by show _ = _; unfold mkS; rw [if_pos (by rw [seqKeys_wt]; exact hle)]
    go_enter Tryz.func236, Tryz.ntmps236
    go_wp2_with (go_at_call 209; refine (HS.out _ (by simp)).mono ?_; rintro e w1 ⟨v, rfl, hrep, hg⟩; rw [HK.out] at hrep; obtain ⟨b, rfl, hset⟩ := hrep.set_inv; have ff := fun W => field_23 (.iface 121 (.pointer (some ⟨b, 0, none⟩))) W rfl; have hbx := Below.blockAt hg (heap_new (W := w) (o := .cells #[.nilIface] 23) rfl); have HX : Hid (w1.heap[w.heap.size]? = _) := hbx; have HG : Hid (Below w.heap.size w w1) := ((Below.refl _ w).alloc (Nat.le_refl _) _).trans (hg.mono (by simp)); have HR : Hid (SetP _ w1 _ _ b _) := hset; clear hg hrep hbx hset)
    have hsz : w.heap.size < w1.heap.size := block_lt HX.out
    refine (HN.out w1 b HG.out hsz HR.out hle).mono ?_
    rintro e w2 ⟨v, rfl, hrep, hg⟩
    have hbx := Below.blockAt hg.below HX.out
    have x0 := block_cell hbx 0
    have x1 := frozen_block hbx 0
    have st := store_one (hrep.rep _ _ _).one
    have HV : Hid (RepP _ w2 (m + 2) _ v) := hrep
    have HG2 : Hid (Below w.heap.size w w2) := HG.out.trans (hg.below.mono (by omega))
    clear hg hrep hbx
    go_wp2_with fail
    have r0 := World.cell?_setCell_same _ _ v x0
    exact bodyPost_ret (v := .agg #[v]) (by simp [results, Tryz.results236, go_sem, r0]) rfl ⟨_, rfl, HV.out.boxed (w := w) v rfl, HG2.out.setCell (Nat.le_refl _) _⟩
  · have HK : Hid (mkS (wt (m + 1)) (seqKeys m len) = mkNil) := by show _ = _; unfold mkS; rw [if_neg (by rw [seqKeys_wt]; exact hle)]
    rw [HM.out hle]
    go_enter Tryz.func236, Tryz.ntmps236
    go_wp2_with (go_at_call 209; refine (HS.out _ (by simp)).mono ?_; rintro e w1 ⟨v, rfl, hrep, hg⟩; rw [HK.out] at hrep; obtain rfl := hrep.nil_inv; have ff := fun W => field_23 .nilIface W rfl; have hbx := Below.blockAt hg (heap_new (W := w) (o := .cells #[.nilIface] 23) rfl); have x0 := block_cell hbx 0; have x1 := frozen_block hbx 0; have HG : Hid (Below w.heap.size w w1) := ((Below.refl _ w).alloc (Nat.le_refl _) _).trans (hg.mono (by simp)); clear hg hrep hbx)
    have r0 := World.cell?_setCell_same _ _ .nilIface x0
    exact bodyPost_ret (v := .agg #[.nilIface]) (by simp [results, Tryz.results236, go_sem, r0]) rfl ⟨_, rfl, .inl ⟨rfl, rfl⟩, HG.out.setCell (Nat.le_refl _) _⟩
end Go.Proofs.YtbogejmmkohbkaaGreatDoor.Sx
