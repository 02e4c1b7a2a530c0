/- A table that has only the ends: bare. -/
import Derived.Test.YtaakjjefnjbabaaGreatQ19
set_option maxRecDepth 100000
namespace Go.Proofs.YtaakjjefnjbabaaGreat.Sx
open Go.RowKit Go.Sort Go.Maps Go.WideMaps
def dead : Rw := ⟨-1, 0, 0, 0, false⟩
def endR (n : Nat) : Rw := ⟨(n : Int), 0, 0, 0, true⟩
def bareR (n last : Nat) : List Rw := endR n :: endR n :: List.replicate (last - 1) dead
def strikeR (m j : Nat) : List Rw := List.replicate j dead ++ List.replicate (m - j) zrow
theorem strikeR_zero (m : Nat) : strikeR m 0 = List.replicate m zrow := by simp [strikeR]
theorem strikeR_end (m : Nat) : strikeR m m = List.replicate m dead := by simp [strikeR]
theorem strikeR_len {m j : Nat} (h : j ≤ m) : (strikeR m j).length = m := by simp [strikeR]; omega
theorem strikeR_at {m j : Nat} (h : j < m) : (strikeR m j)[j]? = some zrow := by
 unfold strikeR
 rw [List.getElem?_append_right (by simp), List.length_replicate, Nat.sub_self, List.getElem?_replicate, if_pos (by omega)]
theorem strikeR_set {m j : Nat} (h : j < m) : (strikeR m j).set j dead = strikeR m (j + 1) := by
 obtain ⟨k, hk⟩ : ∃ k, m - j = k + 1 := ⟨m - j - 1, by omega⟩
 have hk2 : m - (j + 1) = k := by omega
 unfold strikeR
 rw [hk, hk2, List.replicate_succ, List.set_append_right _ _ (by simp), List.length_replicate, Nat.sub_self, List.set_cons_zero, List.replicate_succ' (n := j)]
 simp
section
variable {w w' w2 W : World} {tb : Nat} {L : Ly} {T : Tb} {m g cap n : Nat} {R : List Rw}
theorem TAt.newMade (h : TAt w tb L T) (hm : MapIs 89 w2 m []) (hf : (m = L.mb ∧ Fr (· ≠ L.mb) w w2) ∨ (w.heap.size ≤ m ∧ Fr (fun _ => True) w w2)) :
 w2.cell? ⟨tb, 4, none⟩ = some (.map (some L.mb)) ∧ w2.frozen? ⟨tb, 4, none⟩ = false ∧ TAt (w2.setCell ⟨tb, 4, none⟩ (.map (some m))) tb { L with mb := m, own := ownT L.own m 7 } { T with made := [] } ∧ FrT L { L with mb := m, own := ownT L.own m 7 } w (w2.setCell ⟨tb, 4, none⟩ (.map (some m))) := by
 have ho := (h.md trivial).2.1
 have hat : L.own m = 7 ∨ w.heap.size ≤ m := by
  rcases hf with ⟨rfl, _⟩ | ⟨q, _⟩
  · exact .inl ho
  · exact .inr q
 have f8 : Fr (fun b => L.own b ≠ 7) w w2 := by
  rcases hf with ⟨_, q⟩ | ⟨_, q⟩
  · exact q.mono fun b hb e => hb (by rw [e]; exact ho)
  · exact q.mono fun _ _ => trivial
 have k1 : TAtK (· ≠ 7) w2 tb { L with own := ownT L.own m 7 } T := by
  refine ((h.mono (K := (· ≠ 7))).own _ fun b hb => ownT_at hat hb).fr fun b hb q => f8.block b hb ?_
  have : ownT L.own m 7 b = L.own b := ownT_at hat hb
  exact fun e => q (this.trans e)
 obtain ⟨hb, hbo⟩ := k1.st (by decide)
 have hb : w2.heap[tb]? = some (.cells (tbC L) 80 (0, 0)) := hb
 have hbo : ownT L.own m 7 tb = 1 := hbo
 have hmb : m ≠ tb := by
  intro e
  rw [e] at hbo
  unfold ownT at hbo
  rw [if_pos rfl] at hbo
  omega
 have hne : ∀ b, ownT L.own m 7 b ≠ 1 → (w2.setCell ⟨tb, 4, none⟩ (.map (some m))).heap[b]? = w2.heap[b]? := fun b q => Below.heap_setCell w2 ⟨tb, 4, none⟩ _ b (fun e => q (by rw [e]; exact hbo))
 refine ⟨(block_cell hb 4), frozen_block hb 4, ⟨⟨fun _ => ⟨set_block hb 4 _, hbo⟩, fun s a b _ => ?_, fun _ => ?_, fun _ => ?_⟩, fun b hb2 => ?_⟩, ?_⟩
 · exact (k1.sl s a b (by omega)).fr fun b _ e => hne b (by rw [show ownT L.own m 7 b = s from e]; omega)
 · exact ⟨hm.of (Below.heap_setCell w2 ⟨tb, 4, none⟩ _ m hmb), ownT_new, List.nodup_nil⟩
 · have := k1.fd (by decide)
   exact ⟨this.1.of (hne _ (by rw [show ownT L.own m 7 L.fb = 8 from this.2.1]; decide)), this.2⟩
 · have hb3 : w2.heap.size ≤ b := by simpa using hb2
   have hl := hm.lt
   show ownT L.own m 7 b = 0
   unfold ownT
   rw [if_neg (by omega)]
   exact h.hi b (Nat.le_trans f8.size hb3)
 · refine ⟨f8.os, f8.tape, f8.output, by have := f8.size; simpa using this, fun b hb3 h0 => ?_, fun b hb3 => ownT_at hat hb3⟩
   rw [Below.heap_setCell w2 ⟨tb, 4, none⟩ _ b (fun e => by rw [show b = tb from e, (h.st trivial).2] at h0; cases h0)]
   exact f8.block b hb3 (by rw [h0]; decide)
theorem Ly.put_at (L : Ly) (t : Nat) (v : Value) : (L.put t v).val t = v := if_pos rfl
theorem Ly.put_ne (L : Ly) {t s : Nat} (v : Value) (h : s ≠ t) : (L.put t v).val s = L.val s := if_neg h
theorem slice_blk {a b k m c d : Nat} (h : Value.slice (some ⟨a, 0, none⟩) k c = .slice (some ⟨b, 0, none⟩) m d) : b = a ∧ d = c := by
 injection h with h1 h2 h3
 injection h1 with h1
 injection h1 with h1
 exact ⟨h1.symm, h3.symm⟩
def endsW (W : World) (g n : Nat) : World := (((((((((W.setCell ⟨g, 0, none⟩ (.int .i64 (n : Int))).setCell ⟨g, 1, none⟩ (.int .i64 0)).setCell ⟨g, 2, none⟩ (.int .i64 0)).setCell ⟨g, 3, none⟩ (.int .i64 0)).setCell ⟨g, 4, none⟩ (.bool true)).setCell ⟨g, 5, none⟩ (.int .i64 (n : Int))).setCell ⟨g, 6, none⟩ (.int .i64 0)).setCell ⟨g, 7, none⟩ (.int .i64 0)).setCell ⟨g, 8, none⟩ (.int .i64 0)).setCell ⟨g, 9, none⟩ (.bool true)
theorem TAt.ends (h : TAt W tb L { T with rows := dead :: dead :: R }) (G : RowsG W L { T with rows := dead :: dead :: R } g cap) : TAt (endsW W g n) tb L { T with rows := endR n :: endR n :: R } ∧ FrT L L W (endsW W g n) := by
 have hG := G.eq
 obtain ⟨q0, f0⟩ := h.setRow (f := 0) G ⟨(n : Int), 0, 0, 0, false⟩ (j := 0) (v := .int .i64 (n : Int)) rfl (by omega) rfl
 have G := RowsG.of hG q0 rfl (Nat.succ_pos _)
 obtain ⟨q1, f1⟩ := q0.setRow (f := 0) G ⟨(n : Int), 0, 0, 0, false⟩ (j := 1) (v := .int .i64 0) rfl (by omega) rfl
 have G := RowsG.of hG q1 rfl (Nat.succ_pos _)
 obtain ⟨q2, f2⟩ := q1.setRow (f := 0) G ⟨(n : Int), 0, 0, 0, false⟩ (j := 2) (v := .int .i64 0) rfl (by omega) rfl
 have G := RowsG.of hG q2 rfl (Nat.succ_pos _)
 obtain ⟨q3, f3⟩ := q2.setRow (f := 0) G ⟨(n : Int), 0, 0, 0, false⟩ (j := 3) (v := .int .i64 0) rfl (by omega) rfl
 have G := RowsG.of hG q3 rfl (Nat.succ_pos _)
 obtain ⟨q4, f4⟩ := q3.setRow (f := 0) G (endR n) (j := 4) (v := .bool true) rfl (by omega) rfl
 have G := RowsG.of hG q4 rfl (Nat.succ_pos _)
 obtain ⟨q5, f5⟩ := q4.setRow (f := 1) G ⟨(n : Int), 0, 0, 0, false⟩ (j := 0) (v := .int .i64 (n : Int)) rfl (by omega) rfl
 have G := RowsG.of hG q5 rfl (Nat.succ_pos _)
 obtain ⟨q6, f6⟩ := q5.setRow (f := 1) G ⟨(n : Int), 0, 0, 0, false⟩ (j := 1) (v := .int .i64 0) rfl (by omega) rfl
 have G := RowsG.of hG q6 rfl (Nat.succ_pos _)
 obtain ⟨q7, f7⟩ := q6.setRow (f := 1) G ⟨(n : Int), 0, 0, 0, false⟩ (j := 2) (v := .int .i64 0) rfl (by omega) rfl
 have G := RowsG.of hG q7 rfl (Nat.succ_pos _)
 obtain ⟨q8, f8⟩ := q7.setRow (f := 1) G ⟨(n : Int), 0, 0, 0, false⟩ (j := 3) (v := .int .i64 0) rfl (by omega) rfl
 have G := RowsG.of hG q8 rfl (Nat.succ_pos _)
 obtain ⟨q9, f9⟩ := q8.setRow (f := 1) G (endR n) (j := 4) (v := .bool true) rfl (by omega) rfl
 exact ⟨q9, f0.trans (f1.trans (f2.trans (f3.trans (f4.trans (f5.trans (f6.trans (f7.trans (f8.trans f9))))))))⟩
theorem ends_fr {P : Nat → Prop} (hg : ¬ P g) : Fr P W (endsW W g n) := ((((((((((Fr.refl P W).set (p := ⟨g, 0, none⟩) hg _).set (p := ⟨g, 1, none⟩) hg _).set (p := ⟨g, 2, none⟩) hg _).set (p := ⟨g, 3, none⟩) hg _).set (p := ⟨g, 4, none⟩) hg _).set (p := ⟨g, 5, none⟩) hg _).set (p := ⟨g, 6, none⟩) hg _).set (p := ⟨g, 7, none⟩) hg _).set (p := ⟨g, 8, none⟩) hg _).set (p := ⟨g, 9, none⟩) hg _
end
section
variable {w : World} {tb : Nat} {L : Ly} {T : Tb}
set_option maxHeartbeats 4000000 in
theorem bare_any (h : TAt w tb L T) (n last : Nat) (hn : T.ord.length = n) (h24 : n ≤ 24) (h1 : 1 ≤ last) (h2 : last ≤ 274877906944) :
 Calls Tryz.prog 59 #[.pointer (some ⟨tb, 0, none⟩), .int .i64 (last : Int)] w fun e w' => e = .returned (.tuple #[]) ∧ ∃ L', TAt w' tb L' { T with rows := bareR n last, made := [] } ∧ FrT L L' w w' ∧ Fr (fun b => L.own b = 4) w w' ∧ (∃ cap, L'.val 4 = .slice (some ⟨w.heap.size, 0, none⟩) (last + 1) cap) ∧ ∀ t, t ≠ 4 → L'.val t = L.val t := by
 subst hn
 obtain ⟨i0, hi0, hz0, hz1, hz2⟩ := infoRow
 have m1 : (Instr.makeSlice 76 (.int .i64 ((last : Int) + 1)) (.int .i64 ((last : Int) + 1))).run Tryz.prog w = .ok (.slice (some ⟨w.heap.size, 0, none⟩) (last + 1) (last + 1)) (w.alloc (.cells (flatR (List.replicate (last + 1) zrow)).toArray 91)) := by
  have := run_make (P := Tryz.prog) w 76 91 i0 _ Tryz.underlying76 hi0 hz0 .i64 .i64 ((last : Int) + 1) ((last : Int) + 1) (by omega) (by omega) (by rw [hz2]; omega) (by omega)
  rw [this, hz1, ← made_rows]
  have e : ((last : Int) + 1).toNat = last + 1 := by omega
  rw [e]
  rfl
 have c2 : w.cell? ⟨tb, 2, none⟩ = some (L.val 4) := h.cell 2
 have ho : (w.alloc (.cells (flatR (List.replicate (last + 1) zrow)).toArray 91)).ownsRow 0 91 5 (.slice (some ⟨w.heap.size, 0, none⟩) (last + 1) (last + 1)) (last + 1) (flatR (List.replicate (last + 1) zrow)) := by
  refine ⟨by rw [flatR_len, List.length_replicate], .inr ⟨w.heap.size, last + 1, _, rfl, Nat.zero_le _, heap_new rfl, Nat.le_refl _, by unfold maxLen; omega, by rw [List.size_toArray, flatR_len, List.length_replicate], ?_⟩⟩
  show List.take _ (flatR _) = _
  rw [List.take_of_length_le (by rw [flatR_len, List.length_replicate]; omega)]
 have hg : w.grownBy (w.alloc (.cells (flatR (List.replicate (last + 1) zrow)).toArray 91)) (L.val 4).ownBlock := ⟨rfl, rfl, rfl, by simp, fun k hk _ => heap_old hk⟩
 obtain ⟨a1, a2, a3, a4⟩ := h.app (t := 4) (T' := { T with rows := List.replicate (last + 1) zrow }) (Fr.refl _ w) (by omega) (by omega) ⟨fun s hs => by unfold Tb.len Tb.cells; simp [hs], fun _ => rfl, fun _ => rfl⟩ (g := w.heap.size) (cap := last + 1) (v' := .slice (some ⟨w.heap.size, 0, none⟩) (last + 1) (last + 1)) (by show _ = Value.slice _ (List.replicate (last + 1) zrow).length _; rw [List.length_replicate]) (by show World.ownsRow _ 0 _ _ _ (List.replicate (last + 1) zrow).length _; rw [List.length_replicate]; exact ho) hg (.inr (Nat.le_refl _))
 have a1 : (w.alloc (.cells (flatR (List.replicate (last + 1) zrow)).toArray 91)).frozen? ⟨tb, 2, none⟩ = false := a1
 have a2 : (w.alloc (.cells (flatR (List.replicate (last + 1) zrow)).toArray 91)).cell? ⟨tb, 2, none⟩ = some (L.val 4) := a2
 obtain ⟨W, hW⟩ : ∃ W, w.alloc (.cells (flatR (List.replicate (last + 1) zrow)).toArray 91) = W := ⟨_, rfl⟩
 rw [hW] at m1 a1 a2 a3 a4 ho hg
 have fW : Fr (fun _ => True) w W := by rw [← hW]; exact (Fr.refl _ w).alloc _
 have HX : Hid (TAt (W.setCell ⟨tb, 2, none⟩ (.slice (some ⟨w.heap.size, 0, none⟩) (last + 1) (last + 1))) tb _ _) := a3
 have HF : Hid (FrT L _ w (W.setCell ⟨tb, 2, none⟩ (.slice (some ⟨w.heap.size, 0, none⟩) (last + 1) (last + 1)))) := a4
 have HFW : Hid (Fr (fun _ => True) w W) := fW
 obtain ⟨oa, oc, hov⟩ := h.len 4 (by omega) (by omega)
 rw [hov] at c2 a2
 have mo := follows
 have hown : ∀ b, w.heap.size ≤ b → L.own b = 0 := h.hi
 have HB0 : Hid (L.own w.heap.size ≠ 4) := fun e => by rw [hown _ (Nat.le_refl _)] at e; omega
 have HT1 : Hid (L.own tb ≠ 4) := fun e => by rw [(h.st trivial).2] at e; omega
 have HBW : Hid (Fr (fun b => L.own b = 4) w (W.setCell ⟨tb, 2, none⟩ (.slice (some ⟨w.heap.size, 0, none⟩) (last + 1) (last + 1)))) := (fW.mono fun _ _ => trivial).set HT1.out _
 have HMB : Hid (L.own L.mb = 7) := (h.md trivial).2.1
 clear h ho hg a3 a4 fW hW hi0 hz0 hz1 hz2 hov hown
 go_enter Tryz.func59, Tryz.ntmps59
 go_wp2_with fail
 clear m1 a1 a2 c2
 generalize hWs : (W.setCell ⟨tb, 2, none⟩ (.slice (some ⟨w.heap.size, 0, none⟩) (last + 1) (last + 1))) = W1 at HX HF HBW ⊢
 clear hWs HFW
 obtain ⟨L1, hL1⟩ : ∃ L1, ({ L with own := ownT L.own w.heap.size 4 } : Ly).put 4 (.slice (some ⟨w.heap.size, 0, none⟩) (last + 1) (last + 1)) = L1 := ⟨_, rfl⟩
 have HV4 : Hid (L1.val 4 = .slice (some ⟨w.heap.size, 0, none⟩) (last + 1) (last + 1)) := by rw [← hL1]; exact Ly.put_at _ _ _
 have HVT : Hid (∀ t, t ≠ 4 → L1.val t = L.val t) := by intro t ht; rw [← hL1]; exact Ly.put_ne _ _ ht
 have HMB1 : Hid (L1.mb = L.mb) := by rw [← hL1]; rfl
 rw [hL1] at HX HF
 clear hL1
 go_loopg [17] (last + 1) (fun k s17 wr => ∃ j : Nat, s17 = .int .i64 (j : Int) ∧ j + k = last + 1 ∧ Hid (TAt wr tb L1 { T with rows := strikeR (last + 1) j }) ∧ Hid (FrT L L1 w wr) ∧ Hid (Fr (fun b => L.own b = 4) w wr))
 case atStart => exact ⟨0, rfl, by omega, by rw [strikeR_zero]; exact HX, HF, HBW⟩
 case round =>
  clear HX HF HBW
  obtain ⟨j, rfl, hjk, X, F, BW⟩ := hrel
  by_cases hj : j < last + 1
  · obtain ⟨k, rfl⟩ : ∃ k, gk = k + 1 := ⟨gk - 1, by omega⟩
    have hr := strikeR_at hj
    obtain ⟨g, cap, G⟩ := X.out.rowsG hr
    have hb2 := X.out.b2 G
    have hlen : (strikeR (last + 1) j).length = last + 1 := strikeR_len (by omega)
    have b2 : wr.cell? ⟨tb, 2, none⟩ = some (.slice (some ⟨g, 0, none⟩) (last + 1) cap) := by rw [hb2]; show some (Value.slice _ (strikeR (last + 1) j).length _) = _; rw [hlen]
    have c0 := G.c0 hr
    have z0 := G.frz (j * 5)
    obtain ⟨q1, q2⟩ := X.out.setRow G dead (j := 0) (v := .int .i64 (-1)) hr (by omega) rfl
    have X1 : Hid (TAt (wr.setCell ⟨g, j * 5, none⟩ (.int .i64 (-1))) tb L1 { T with rows := strikeR (last + 1) (j + 1) }) := by rw [← strikeR_set hj]; exact q1
    have F1 : Hid (FrT L L1 w (wr.setCell ⟨g, j * 5, none⟩ (.int .i64 (-1)))) := F.out.trans q2
    have hjl : (j : Int) < ((last : Int) + 1) := by omega
    have hjl2 : (j : Int) < ((last + 1 : Nat) : Int) := by omega
    have hj0 : (0 : Int) ≤ (j : Int) := by omega
    have hge : g = w.heap.size := by have := G.eq; rw [HV4.out] at this; exact (slice_blk this).1
    have B1 : Hid (Fr (fun b => L.own b = 4) w (wr.setCell ⟨g, j * 5, none⟩ (.int .i64 (-1)))) := BW.out.set (by rw [hge]; exact HB0.out) _
    clear q1 q2 G hr hlen X F hb2 BW hge
    go_wp2_with fail
    go_roundg k
    case measure => omega
    case rel => exact ⟨j + 1, by simp, by omega, X1, F1, B1⟩
  · obtain rfl : j = last + 1 := by omega
    have hjl : ¬ ((last + 1 : Nat) : Int) < ((last + 1 : Nat) : Int) := by omega
    have hjl2 : ¬ (((last + 1 : Nat) : Int)) < ((last : Int) + 1) := by omega
    obtain ⟨R, hR⟩ : ∃ R, List.replicate (last - 1) dead = R := ⟨_, rfl⟩
    have hRe : strikeR (last + 1) (last + 1) = dead :: dead :: R := by
     rw [strikeR_end, ← hR]
     obtain ⟨z, rfl⟩ : ∃ z, last = z + 1 := ⟨last - 1, by omega⟩
     rfl
    have hRb : bareR T.ord.length last = endR T.ord.length :: endR T.ord.length :: R := by rw [← hR]; rfl
    have HRB : Hid (bareR T.ord.length last = endR T.ord.length :: endR T.ord.length :: R) := hRb
    have hRl : R.length + 1 = last := by rw [← hR, List.length_replicate]; omega
    have hX0 := X.out
    rw [hRe] at hX0
    clear hR hRe hRb X
    obtain ⟨ba, bc, b0⟩ := hX0.b0
    have b0 : wr.cell? ⟨tb, 0, none⟩ = some (.slice ba T.ord.length bc) := b0
    have hX1 := hX0.alloc (.cells #[.int .i64 (T.ord.length : Int), .int .i64 0, .int .i64 0, .int .i64 0, .bool true] 91)
    have X1 : Hid (TAt (wr.alloc (.cells #[.int .i64 (T.ord.length : Int), .int .i64 0, .int .i64 0, .int .i64 0, .bool true] 91)) tb L1 { T with rows := dead :: dead :: R }) := hX1
    have F1 : Hid (FrT L L1 w (wr.alloc (.cells #[.int .i64 (T.ord.length : Int), .int .i64 0, .int .i64 0, .int .i64 0, .bool true] 91))) := F.out.trans (FrT.of ((Fr.refl (fun _ => True) wr).alloc _) fun _ _ _ => trivial)
    have BW1 : Hid (Fr (fun b => L.own b = 4) w (wr.alloc (.cells #[.int .i64 (T.ord.length : Int), .int .i64 0, .int .i64 0, .int .i64 0, .bool true] 91))) := BW.out.alloc _
    have E1 : Hid ((wr.alloc (.cells #[.int .i64 (T.ord.length : Int), .int .i64 0, .int .i64 0, .int .i64 0, .bool true] 91)).heap[wr.heap.size]? = some (.cells #[.int .i64 (T.ord.length : Int), .int .i64 0, .int .i64 0, .int .i64 0, .bool true] 91 (0, 0))) := heap_new rfl
    obtain ⟨gb, gc, G0⟩ := hX0.rowsG (f := 0) rfl
    have hgw : gb < wr.heap.size := G0.lt
    have hge : gb = w.heap.size := by have := G0.eq; rw [HV4.out] at this; exact (slice_blk this).1
    have HGE : Hid (L.own gb ≠ 4) := by rw [hge]; exact HB0.out
    have hgt : gb ≠ tb := fun e => by have h1 := G0.own; rw [e, (hX0.st trivial).2] at h1; cases h1
    have htw : tb < wr.heap.size := block_lt (hX0.st trivial).1
    clear hX0 hX1 hge
    go_wp2_with fail
    clear b0 F BW
    generalize wr.alloc (.cells #[.int .i64 (T.ord.length : Int), .int .i64 0, .int .i64 0, .int .i64 0, .bool true] 91) = W1 at X1 F1 BW1 E1 ⊢
    obtain ⟨be, hbe⟩ : ∃ be, wr.heap.size = be := ⟨_, rfl⟩
    rw [hbe] at E1 hgw htw ⊢
    clear hbe
    have n1 : gb ≠ be := by omega
    have n3 : tb ≠ be := by omega
    have G1 : RowsG W1 L1 { T with rows := dead :: dead :: R } gb gc := RowsG.of G0.eq X1.out rfl (Nat.succ_pos _)
    have X1d : Hid (TAt W1.drew tb L1 { T with rows := dead :: dead :: R }) := X1.out.drew
    have G1d : RowsG W1.drew L1 { T with rows := dead :: dead :: R } gb gc := RowsG.of G0.eq X1d.out rfl (Nat.succ_pos _)
    have E1d : Hid (W1.drew.heap[be]? = some (.cells #[.int .i64 (T.ord.length : Int), .int .i64 0, .int .i64 0, .int .i64 0, .bool true] 91 (0, 0))) := E1.out
    have b2 : W1.cell? ⟨tb, 2, none⟩ = some (.slice (some ⟨gb, 0, none⟩) (R.length + 2) gc) := X1.out.b2 G1
    have b2d : W1.drew.cell? ⟨tb, 2, none⟩ = some (.slice (some ⟨gb, 0, none⟩) (R.length + 2) gc) := X1d.out.b2 G1d
    have r0 : W1.cell? ⟨gb, 0, none⟩ = some (.int .i64 (-1)) := G1.cell 0 0 dead rfl (by omega)
    have f0 : W1.frozen? ⟨gb, 0, none⟩ = false := G1.frz 0
    have r0d : W1.drew.cell? ⟨gb, 0, none⟩ = some (.int .i64 (-1)) := G1d.cell 0 0 dead rfl (by omega)
    have f0d : W1.drew.frozen? ⟨gb, 0, none⟩ = false := G1d.frz 0
    have r1 : W1.cell? ⟨gb, 1, none⟩ = some (.int .i64 0) := G1.cell 0 1 dead rfl (by omega)
    have f1 : W1.frozen? ⟨gb, 1, none⟩ = false := G1.frz 1
    have r1d : W1.drew.cell? ⟨gb, 1, none⟩ = some (.int .i64 0) := G1d.cell 0 1 dead rfl (by omega)
    have f1d : W1.drew.frozen? ⟨gb, 1, none⟩ = false := G1d.frz 1
    have r2 : W1.cell? ⟨gb, 2, none⟩ = some (.int .i64 0) := G1.cell 0 2 dead rfl (by omega)
    have f2 : W1.frozen? ⟨gb, 2, none⟩ = false := G1.frz 2
    have r2d : W1.drew.cell? ⟨gb, 2, none⟩ = some (.int .i64 0) := G1d.cell 0 2 dead rfl (by omega)
    have f2d : W1.drew.frozen? ⟨gb, 2, none⟩ = false := G1d.frz 2
    have r3 : W1.cell? ⟨gb, 3, none⟩ = some (.int .i64 0) := G1.cell 0 3 dead rfl (by omega)
    have f3 : W1.frozen? ⟨gb, 3, none⟩ = false := G1.frz 3
    have r3d : W1.drew.cell? ⟨gb, 3, none⟩ = some (.int .i64 0) := G1d.cell 0 3 dead rfl (by omega)
    have f3d : W1.drew.frozen? ⟨gb, 3, none⟩ = false := G1d.frz 3
    have r4 : W1.cell? ⟨gb, 4, none⟩ = some (.bool false) := G1.cell 0 4 dead rfl (by omega)
    have f4 : W1.frozen? ⟨gb, 4, none⟩ = false := G1.frz 4
    have r4d : W1.drew.cell? ⟨gb, 4, none⟩ = some (.bool false) := G1d.cell 0 4 dead rfl (by omega)
    have f4d : W1.drew.frozen? ⟨gb, 4, none⟩ = false := G1d.frz 4
    have r5 : W1.cell? ⟨gb, 5, none⟩ = some (.int .i64 (-1)) := G1.cell 1 0 dead rfl (by omega)
    have f5 : W1.frozen? ⟨gb, 5, none⟩ = false := G1.frz 5
    have r5d : W1.drew.cell? ⟨gb, 5, none⟩ = some (.int .i64 (-1)) := G1d.cell 1 0 dead rfl (by omega)
    have f5d : W1.drew.frozen? ⟨gb, 5, none⟩ = false := G1d.frz 5
    have r6 : W1.cell? ⟨gb, 6, none⟩ = some (.int .i64 0) := G1.cell 1 1 dead rfl (by omega)
    have f6 : W1.frozen? ⟨gb, 6, none⟩ = false := G1.frz 6
    have r6d : W1.drew.cell? ⟨gb, 6, none⟩ = some (.int .i64 0) := G1d.cell 1 1 dead rfl (by omega)
    have f6d : W1.drew.frozen? ⟨gb, 6, none⟩ = false := G1d.frz 6
    have r7 : W1.cell? ⟨gb, 7, none⟩ = some (.int .i64 0) := G1.cell 1 2 dead rfl (by omega)
    have f7 : W1.frozen? ⟨gb, 7, none⟩ = false := G1.frz 7
    have r7d : W1.drew.cell? ⟨gb, 7, none⟩ = some (.int .i64 0) := G1d.cell 1 2 dead rfl (by omega)
    have f7d : W1.drew.frozen? ⟨gb, 7, none⟩ = false := G1d.frz 7
    have r8 : W1.cell? ⟨gb, 8, none⟩ = some (.int .i64 0) := G1.cell 1 3 dead rfl (by omega)
    have f8 : W1.frozen? ⟨gb, 8, none⟩ = false := G1.frz 8
    have r8d : W1.drew.cell? ⟨gb, 8, none⟩ = some (.int .i64 0) := G1d.cell 1 3 dead rfl (by omega)
    have f8d : W1.drew.frozen? ⟨gb, 8, none⟩ = false := G1d.frz 8
    have r9 : W1.cell? ⟨gb, 9, none⟩ = some (.bool false) := G1.cell 1 4 dead rfl (by omega)
    have f9 : W1.frozen? ⟨gb, 9, none⟩ = false := G1.frz 9
    have r9d : W1.drew.cell? ⟨gb, 9, none⟩ = some (.bool false) := G1d.cell 1 4 dead rfl (by omega)
    have f9d : W1.drew.frozen? ⟨gb, 9, none⟩ = false := G1d.frz 9
    have e0 := block_cell E1.out 0
    have e0d := block_cell E1d.out 0
    have e1 := block_cell E1.out 1
    have e1d := block_cell E1d.out 1
    have e2 := block_cell E1.out 2
    have e2d := block_cell E1d.out 2
    have e3 := block_cell E1.out 3
    have e3d := block_cell E1d.out 3
    have e4 := block_cell E1.out 4
    have e4d := block_cell E1d.out 4
    obtain ⟨q1, q2⟩ := X1.out.ends (n := T.ord.length) G1
    have X2 : Hid (TAt (endsW W1 gb T.ord.length).drew tb L1 { T with rows := endR T.ord.length :: endR T.ord.length :: R }) := q1.drew
    have F2 : Hid (FrT L L1 w (endsW W1 gb T.ord.length).drew) := (F1.out.trans q2).trans (FrT.of (Fr.refl (fun _ => True) _).drew fun _ _ _ => trivial)
    have BW2 : Hid (Fr (fun b => L.own b = 4) w (endsW W1 gb T.ord.length).drew) := (BW1.out.trans (ends_fr HGE.out)).drew
    clear q1 q2 G1 G1d G0 X1d
    have nl1 : (0 : Int) < ((R.length + 2 : Nat) : Int) := by omega
    have nl2 : (1 : Int) < ((R.length + 2 : Nat) : Int) := by omega
    unfold endsW at X2 F2 BW2
    go_big_region_o
    clear r0 f0 r0d f0d r1 f1 r1d f1d r2 f2 r2d f2d r3 f3 r3d f3d r4 f4 r4d f4d r5 f5 r5d f5d r6 f6 r6d f6d r7 f7 r7d f7d r8 f8 r8d f8d r9 f9 r9d f9d e0 e0d e1 e1d e2 e2d e3 e3d e4 e4d b2 b2d E1 E1d X1 F1 BW1
    generalize ((((((((((W1.setCell ⟨gb, 0, none⟩ (.int .i64 (T.ord.length : Int))).setCell ⟨gb, 1, none⟩ (.int .i64 0)).setCell ⟨gb, 2, none⟩ (.int .i64 0)).setCell ⟨gb, 3, none⟩ (.int .i64 0)).setCell ⟨gb, 4, none⟩ (.bool true)).setCell ⟨gb, 5, none⟩ (.int .i64 (T.ord.length : Int))).setCell ⟨gb, 6, none⟩ (.int .i64 0)).setCell ⟨gb, 7, none⟩ (.int .i64 0)).setCell ⟨gb, 8, none⟩ (.int .i64 0)).setCell ⟨gb, 9, none⟩ (.bool true)).drew = W2 at X2 F2 BW2 ⊢
    have b4 := X2.out.b4
    have HC : Hid (Calls _ _ _ _ _) := clearedA_any W2 L1.mb _ (X2.out.md trivial).1
    go_wp2_with fail
    refine HC.out.mono ?_
    rintro e W3 ⟨m', rfl, hm, hf⟩
    obtain ⟨p0, p1, p2, p3⟩ := X2.out.newMade hm hf
    have p0' : W3.cell? ⟨tb, 4, none⟩ = some (.map (some L1.mb)) := p0
    have X3 : Hid (TAt (W3.setCell ⟨tb, 4, none⟩ (.map (some m'))) tb { L1 with mb := m', own := ownT L1.own m' 7 } { T with rows := endR T.ord.length :: endR T.ord.length :: R, made := [] }) := p2
    have F3 : Hid (FrT L { L1 with mb := m', own := ownT L1.own m' 7 } w (W3.setCell ⟨tb, 4, none⟩ (.map (some m')))) := F2.out.trans p3
    have BW3 : Hid (Fr (fun b => L.own b = 4) w (W3.setCell ⟨tb, 4, none⟩ (.map (some m')))) := by
     refine Fr.set (p := ⟨tb, 4, none⟩) (BW2.out.trans ?_) HT1.out _
     rcases hf with ⟨_, q⟩ | ⟨_, q⟩
     · refine q.mono fun b hb e => ?_
       rw [e, HMB1.out, HMB.out] at hb; omega
     · exact q.mono fun _ _ => trivial
    clear hm hf p0 p2 p3 X2 F2 BW2 b4 HC
    go_wp2_with fail
    go_end0
    exact ⟨rfl, _, by rw [HRB.out]; exact X3.out, F3.out, BW3.out, ⟨_, HV4.out⟩, fun t ht => HVT.out t ht⟩
end
end Go.Proofs.YtaakjjefnjbabaaGreat.Sx
