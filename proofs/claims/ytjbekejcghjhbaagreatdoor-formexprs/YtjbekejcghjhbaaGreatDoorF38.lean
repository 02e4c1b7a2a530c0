/- The reference: a text is read as an expression. -/
import Derived.Test.YtjbekejcghjhbaaGreatDoorF35
import Derived.Test.YtjbekejcghjhbaaGreatDoorF37
namespace Go.Proofs.YtjbekejcghjhbaaGreatDoor.Sx
open Go.RowKit Go.Sort

theorem tkF_num (T : List UInt8) (i : Nat) : NumOK (tkF T i) := by
  intro h
  have h2 : (tokF (T.drop (atF T i))).1 = 2 := h
  show (∀ c ∈ (T.drop (atF T i)).take (tokF (T.drop (atF T i))).2, isDigit c = true) ∧ Lib.parseIntB 64 ((T.drop (atF T i)).take (tokF (T.drop (atF T i))).2) = _
  have key : ∀ l : List UInt8, (tokF l).1 = 2 → (∀ c ∈ l.take (tokF l).2, isDigit c = true) ∧ l.take (tokF l).2 ≠ [] := by
    intro l h
    cases l with
    | nil => simp [tokF] at h
    | cons c l =>
      rw [tokF_cons] at h ⊢
      have hq := qScan_cls l 1
      cases h1 : isLetter c with
      | true => rw [h1] at h; simp at h
      | false =>
        rw [h1, if_neg (by simp)] at h
        rw [if_neg (by simp)]
        cases h2 : isPart c with
        | true =>
          rw [h2, if_pos rfl] at h
          rw [if_pos rfl]
          have hp := runLen_pos (l := l) h2
          refine ⟨?_, ?_⟩
          · have hb : numB (c :: l) = true := by
              cases hb : numB (c :: l) with
              | true => rfl
              | false => rw [hb] at h; simp at h
            unfold numB at hb
            rw [Bool.and_eq_true] at hb
            intro d hd
            exact List.all_eq_true.1 hb.1 d hd
          · intro e
            have : ((c :: l).take (runLen (c :: l))).length = 0 := by rw [e]; rfl
            rw [List.length_take] at this
            simp at this; omega
        | false =>
          rw [h2, if_neg (by simp)] at h
          exfalso
          revert h
          split
          · intro h; omega
          · split <;> simp
  obtain ⟨a, b⟩ := key _ h2
  exact ⟨a, parse_dig _ b a⟩
theorem tkF_short (T : List UInt8) (hT : T.length ≤ 4000) (i : Nat) : (tkF T i).tx.length ≤ 4000 := by
  show (txF T i).length ≤ 4000
  rw [txF_length]
  have := (atF_le T i).2.2
  omega
theorem Fr.newerT {P : Nat → Prop} {w w0 w' : World} (h : Fr (fun _ => True) w w0) (f : Fr P w0 w') (hp : ∀ k, k < w.heap.size → P k) : Fr (fun _ => True) w w' :=
  ⟨f.os.trans h.os, f.tape.trans h.tape, f.output.trans h.output, Nat.le_trans h.size f.size, fun k hk _ => (f.block k (Nat.lt_of_lt_of_le hk h.size) (hp k hk)).trans (h.block k hk trivial)⟩
theorem RSd.faults {K : Nat → Tk} {N br bl d c p : Nat} {w : World} (h : RSd K N w br bl (.error (c, p)) d) : w.cell? ⟨br, 3, none⟩ = some (.int .i64 (c : Int)) ∧ w.cell? ⟨br, 4, none⟩ = some (.int .i64 (p : Int)) := by
  obtain ⟨dd, ⟨cap, I, bad, hb, -, -, -, hs⟩, -⟩ := h
  obtain ⟨-, rfl⟩ := hs
  exact ⟨block_cell hb 3, block_cell hb 4⟩
/-- a reading that begins -/
theorem RSd.start {K : Nat → Tk} {N bl cap : Nat} {w : World} (h : TokRow K N bl w) : RSd K N (w.alloc (.cells #[.slice (some ⟨bl, 0, none⟩) (N + 1) cap, .int .i64 0, .int .i64 0, .int .i64 0, .int .i64 0] 103)) w.heap.size bl (.ok 0) 0 :=
  ⟨0, ⟨cap, 0, 0, heap_new rfl, Nat.zero_le _, by have := h.1; omega, h.of (P := fun _ => True) ((Fr.refl _ w).alloc _) trivial, rfl⟩, fun _ => rfl⟩
/-- all of a text -/
def allX (K : Nat → Tk) (f : Nat) : RX PX := bX (refX K f 0 0 0) fun x j => if (K j).cl = 0 then okX x j else errX 1 (K j).at'
def ParsePost (w : World) (r : Except (Nat × Nat) (PX × Nat)) (e : Ending) (w' : World) : Prop :=
  Fr (fun _ => True) w w' ∧ match r with
    | .ok (x, _) => ∃ b, e = .returned (.tuple #[.pointer (some ⟨b, 0, none⟩), .int .i64 0, .int .i64 0]) ∧ TreeT (fun k => w.heap.size ≤ k) w' x (.pointer (some ⟨b, 0, none⟩))
    | .error (c, p) => c ≠ 0 ∧ e = .returned (.tuple #[.pointer none, .int .i64 (p : Int), .int .i64 (c : Int)])
set_option maxRecDepth 100000 in
set_option maxHeartbeats 2000000 in
theorem gParse_full (s : ByteArray) (w : World) (hs : 1000 < s.size) (hm : s.size ≤ 9223372036854775807) : Calls Tryz.prog 24 #[.string s] w (ParsePost w (.error (6, 0))) := by
  have HH : Hid (ParsePost w (.error (6, 0)) (.returned (.tuple #[.pointer none, .int .i64 0, .int .i64 6])) w) := ⟨Fr.refl _ _, by decide, rfl⟩
  have h1 : (1000 : Int) < (s.size : Int) := by omega
  go_enter Tryz.func24, Tryz.ntmps24
  go_wp2_with fail
  refine bodyPost_ret (v := .tuple #[.pointer none, .int .i64 0, .int .i64 6]) (by simp [results, Tryz.results24, go_sem]) rfl HH.out
set_option maxRecDepth 100000 in
set_option maxHeartbeats 4000000 in
theorem gParse_any (s : ByteArray) (w : World) (hs : s.size ≤ 1000) (f : Nat) (hf : f ≤ 1000000) (r : Except (Nat × Nat) (PX × Nat)) (hr : allX (tkF s.data.toList) f = some r) : Calls Tryz.prog 24 #[.string s] w (ParsePost w r) := by
  have hl : s.data.toList.length = s.size := by simp
  obtain ⟨q, hq, hk⟩ := runS_bX (s := .ok 0) (f := refX (tkF s.data.toList) f 0 0) noX hr
  have h1 : ¬ (1000 : Int) < (s.size : Int) := by omega
  have HTK : Hid (Calls _ _ _ _ _) := gTokens_any s w (by omega)
  have hlen : s.data.toList.length ≤ 1000 := by omega
  clear hr hl
  go_enter Tryz.func24, Tryz.ntmps24
  go_wp2_with fail
  refine HTK.out.mono ?_
  rintro e W1 ⟨N, bl, cap, rfl, hNl, hend, hlo, hrow, hf1⟩
  have hN : N ≤ 1000000 := by omega
  have hz := tkF_short s.data.toList (by omega)
  have hn := tkF_num s.data.toList
  have hK := tkF_ok s.data.toList
  have hL := last_of hend
  generalize tkF s.data.toList = K at hq hk hrow hz hn hK hL
  have R2 : Hid (RSd K N (W1.alloc (.cells #[.slice (some ⟨bl, 0, none⟩) (N + 1) cap, .int .i64 0, .int .i64 0, .int .i64 0, .int .i64 0] 103)) W1.heap.size bl (.ok 0) 0) := RSd.start hrow
  have F2 : Hid (Fr (fun _ => True) w (W1.alloc (.cells #[.slice (some ⟨bl, 0, none⟩) (N + 1) cap, .int .i64 0, .int .i64 0, .int .i64 0, .int .i64 0] 103))) := hf1.alloc _
  have HQ : Hid (runS (.ok 0) (refX K f 0 0) = some q) := hq
  have HKK : Hid (runS (stX q) (fun j => if (K j).cl = 0 then okX (valX noX q) j else errX 1 (K j).at') = some r) := hk
  have HS : Hid (SelfR K N W1.heap.size bl (refX K f)) := refX_self hK hL hN hz hn f hf
  have hw1 := hf1.size
  clear hz hn hK hrow hf1 hq hk HTK hNl hend
  go_wp2_with fail
  generalize (W1.alloc (.cells #[.slice (some ⟨bl, 0, none⟩) (N + 1) cap, .int .i64 0, .int .i64 0, .int .i64 0, .int .i64 0] 103)) = W2 at R2 F2 ⊢
  obtain ⟨br, hbr⟩ : ∃ br, W1.heap.size = br := ⟨_, rfl⟩
  rw [hbr] at R2 HS hw1 ⊢
  clear hbr
  refine (HS.out W2 0 0 (.ok 0) q (by omega) (fun _ => by omega) R2.out HQ.out).mono ?_
  rintro e W3 ⟨hf3, hr3, b3, rfl, ht3⟩
  have R3 : Hid (RSd K N W3 br bl (stX q) 0) := hr3
  have F3 : Hid (Fr (fun _ => True) w W3) := F2.out.newerT hf3 fun k hk => by omega
  have hz2 := F2.out.size
  have X3 : Hid (OkS (stX q) → TreeT (fun k => w.heap.size ≤ k) W3 (valX noX q) (.pointer (some ⟨b3, 0, none⟩))) := fun o => by
    obtain ⟨j, e⟩ := ok_val noX o
    exact (ht3 _ _ e).fr (Fr.refl _ _) fun _ _ q => by omega
  clear hf3 hr3 ht3 R2 F2 HS HQ
  have mo := follows
  rcases hst : stX q with ⟨c, p⟩ | j
  · rw [hst] at R3 HKK
    have HR : Hid (r = .error (c, p)) := by have := HKK.out; simp only [runS, Option.some.injEq] at this; exact this.symm
    have e3 : W3.cell? ⟨br, 3, none⟩ = some (.int .i64 (c : Int)) := R3.out.err.1
    have hc1 : ((c : Int) == 0) = false := R3.out.err.2 c p rfl
    have hc2 : ((c : Int) != 0) = true := by have := hc1; rw [beq_eq_false_iff_ne] at this; rw [bne_iff_ne]; exact this
    have hc3 : c ≠ 0 := by have := hc1; rw [beq_eq_false_iff_ne] at this; omega
    have HC3 : Hid (c ≠ 0) := hc3
    clear HKK X3 hst hc3
    go_wp2_with fail
    go_quiet (fail)
    have R4 : Hid (RSd K N (W3.drewN nq) br bl (.error (c, p)) 0) := R3.out.grew ((Grew.refl W3).drewN nq)
    have F4 : Hid (Fr (fun _ => True) w (W3.drewN nq)) := F3.out.trans (Fr.grew ((Grew.refl W3).drewN nq))
    clear e3 hc1 R3 F3
    generalize W3.drewN nq = W4 at R4 F4 ⊢
    have HH : Hid (ParsePost w r (.returned (.tuple #[.pointer none, .int .i64 (p : Int), .int .i64 (c : Int)])) W4.drew) := by
      rw [HR.out]; exact ⟨F4.out.drew, HC3.out, rfl⟩
    obtain ⟨e3, e4⟩ := R4.out.faults
    obtain ⟨k3, k4⟩ := (R4.out.grew (Grew.refl W4).drew).faults
    clear R4 F4
    go_wp2_with fail
    go_big_region_o
    clear e3 e4 k3 k4
    generalize W4.drew = WX at HH ⊢
    go_wp2_with fail
    refine bodyPost_ret (v := .tuple #[.pointer none, .int .i64 (p : Int), .int .i64 (c : Int)]) (by simp [results, Tryz.results24, go_sem]) rfl HH.out
  · rw [hst] at R3 HKK X3
    obtain ⟨cap3, bad, dd, hb, hI, hne, hbl3, t0, t1, t2⟩ := R3.out.open
    obtain ⟨hdr, u0, u1, u2⟩ := RS.cells hb hbl3 t0 t1 t2
    have c0 := block_cell hb 0
    have c1 := block_cell hb 1
    have c3 := block_cell hb 3
    have k0 := block_cell hdr 0
    have k1 := block_cell hdr 1
    have k3 := block_cell hdr 3
    have hI1 : (j : Int) < ((N + 1 : Nat) : Int) := by omega
    have hlb := block_lt hb
    have R4 : Hid (RSd K N W3.drew br bl (.ok j) 0) := R3.out.grew (Grew.refl _).drew
    have F4 : Hid (Fr (fun _ => True) w W3.drew) := F3.out.drew
    have X4 : Hid (TreeT (fun k => w.heap.size ≤ k) W3.drew (valX noX q) (.pointer (some ⟨b3, 0, none⟩))) := (X3.out ⟨j, rfl⟩).fr (Fr.grew (Grew.refl _).drew) fun _ _ q => q
    obtain ⟨sb, hsb⟩ : ∃ sb, sortB (K j).cl = sb := ⟨_, rfl⟩
    rw [hsb] at t0 u0
    by_cases h0 : (K j).cl = 0
    · have HR : Hid (r = .ok (valX noX q, j)) := by have := HKK.out; simp only [runS, h0, if_true, okX, Option.some.injEq] at this; exact this.symm
      have hs0 : ((sb : Int) != 101) = false := by rw [← hsb, h0]; decide
      have HH : Hid (ParsePost w r (.returned (.tuple #[.pointer (some ⟨b3, 0, none⟩), .int .i64 0, .int .i64 0])) W3.drew) := by
        rw [HR.out]; exact ⟨F4.out, b3, rfl, X4.out⟩
      clear hb hdr HKK HR R3 F3 X3 hst hsb h0 t1 t2 u1 u2
      go_wp2_with fail
      go_big_region_o
      clear c0 c1 c3 k0 k1 t0 u0 F4 X4 R4
      generalize W3.drew = W4 at k3 HH ⊢
      go_wp2_with fail
      refine bodyPost_ret (v := .tuple #[.pointer (some ⟨b3, 0, none⟩), .int .i64 0, .int .i64 0]) (by simp [results, Tryz.results24, go_sem]) rfl HH.out
    · have HR : Hid (r = .error (1, (K j).at')) := by have := HKK.out; simp only [runS, h0, if_false, errX, Option.some.injEq] at this; exact this.symm
      have hs0 : ((sb : Int) != 101) = true := by
        rw [← hsb, bne_iff_ne]
        unfold sortB
        rw [if_neg h0]
        repeat' split
        all_goals decide
      clear hb hdr HKK R3 F3 X3 X4 hst hsb h0 t1 t2 u1 u2
      go_wp2_with fail
      go_big_region_o
      clear c0 c1 c3 k0 k1 k3 t0 u0 hs0
      generalize W3.drew = W4 at R4 F4 ⊢
      obtain ⟨aa, haa⟩ : ∃ aa, (K j).at' = aa := ⟨_, rfl⟩
      rw [haa] at HR
      obtain ⟨cap4, bad4, dd4, hb, hI4, hne4, hbl4, t0, t1, t2⟩ := R4.out.open
      obtain ⟨hdr, -, -, u2⟩ := RS.cells hb hbl4 t0 t1 t2
      have c0 := block_cell hb 0
      have c1 := block_cell hb 1
      have k0 := block_cell hdr 0
      have k1 := block_cell hdr 1
      rw [haa] at t2 u2
      have HFL : Hid (∀ W, Grew W4 W → Calls _ _ _ _ _) := fun W g => gFail_d W br bl (.ok j) 0 1 aa (by decide) (R4.out.grew g)
      have hlb4 := block_lt hb
      clear hb hdr t0 t1 haa
      go_wp2_with fail
      go_region_with (go_at_call 59; refine (HFL.out _ (Grew.refl W4).drew).mono ?_; rintro e w5 ⟨rfl, hr5, hf5⟩; have R5 : Hid (RSd K N w5 br bl (.error (1, aa)) 0) := hr5; have F5 : Hid (Fr (fun _ => True) w w5) := F4.out.drew.newerT hf5 (fun k hk => (by omega)); clear hr5 hf5)
      all_goals
        clear c0 c1 k0 k1 t2 u2 HFL R4 F4
        have HH : Hid (ParsePost w r (.returned (.tuple #[.pointer none, .int .i64 (aa : Int), .int .i64 1])) w5.drew) := by
          rw [HR.out]; exact ⟨F5.out.drew, by decide, rfl⟩
        obtain ⟨e3, e4⟩ := R5.out.faults
        obtain ⟨k3, k4⟩ := (R5.out.grew (Grew.refl w5).drew).faults
        clear R5 F5
        go_wp2_with fail
        go_big_region_o
        clear e3 e4 k3 k4
        generalize w5.drew = WX at HH ⊢
        go_wp2_with fail
        refine bodyPost_ret (v := .tuple #[.pointer none, .int .i64 (aa : Int), .int .i64 1]) (by simp [results, Tryz.results24, go_sem]) rfl HH.out
end Go.Proofs.YtjbekejcghjhbaaGreatDoor.Sx
