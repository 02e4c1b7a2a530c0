/- The reference: its reader: what is no list. -/
import Derived.Test.YtbogejmmkohbkaaGreatDoorGRQ
namespace Go.Proofs.YtbogejmmkohbkaaGreatDoor.Sx
open Go.RowKit Go.Sort

def leafV (x : Nat × Int × List UInt8 × Nat × Nat) : Value := .agg #[.int .i64 x.1, .int .i64 x.2.1, .string ⟨x.2.2.1.toArray⟩, .slice none 0 0, .slice none 0 0]
/-- the state behind it: its fault, if it has one, at q -/
def endS (s : RSt) (x : Nat × Int × List UInt8 × Nat × Nat) (q : Nat) : RSt := if x.2.2.2.1 = 0 then { s with at' := x.2.2.2.2 } else { s with at' := x.2.2.2.2, e := x.2.2.2.1, bad := q }
/-- kind, number, text, fault, place -/
def wordP (l : List UInt8) (en : Nat) : Nat × Int × List UInt8 × Nat × Nat :=
  if l = nilT then (0, 0, [], 0, en) else if l = trueT then (1, 1, [], 0, en) else if l = falseT then (1, 0, [], 0, en)
  else (4, 0, l, if isReserved l then 1 else if 16 < l.length then 5 else 0, en)
def noneP (c q : Nat) : Nat × Int × List UInt8 × Nat × Nat := (0, 0, [], c, q)
def numP (l : List UInt8) (mi : Bool) (q en : Nat) : Nat × Int × List UInt8 × Nat × Nat :=
  if numOK l mi then (if decide (9223372036854775808 < valD 0 l) || (decide (valD 0 l = 9223372036854775808) && !mi) then noneP 5 q else (2, (if mi then -(valD 0 l : Int) else valD 0 l), [], 0, en)) else noneP 1 q
def tailP (T : List UInt8) (q f : Nat) : Nat × Int × List UInt8 × Nat × Nat :=
  if (T.take (f + runLen (T.drop f))).drop f = [] then noneP 1 q
  else if isDigit (byteAt ((T.take (f + runLen (T.drop f))).drop f) 0) then numP ((T.take (f + runLen (T.drop f))).drop f) (decide (q < f)) q (f + runLen (T.drop f))
  else if q < f ∨ isLetter (byteAt ((T.take (f + runLen (T.drop f))).drop f) 0) = false then noneP 1 q
  else wordP ((T.take (f + runLen (T.drop f))).drop f) (f + runLen (T.drop f))
def singleP (T : List UInt8) (q : Nat) : Nat × Int × List UInt8 × Nat × Nat :=
  if T.length = q then noneP 1 q
  else if (byteAt T q).toNat = 34 then (if (qScan (T.drop (q + 1)) (q + 1)).1 = 3 then (3, 0, (T.take ((qScan (T.drop (q + 1)) (q + 1)).2 - 1)).drop (q + 1), 0, (qScan (T.drop (q + 1)) (q + 1)).2) else noneP 1 q)
  else tailP T q (if (byteAt T q).toNat = 45 then q + 1 else q)
theorem num_v (l : List UInt8) (mi : Bool) (q en : Nat) : numV l mi = leafV (numP l mi q en) := by
  unfold numV numP leafV noneP nilV5
  cases numOK l mi <;> cases (decide (9223372036854775808 < valD 0 l) || (decide (valD 0 l = 9223372036854775808) && !mi)) <;> simp
theorem num_s (l : List UInt8) (mi : Bool) (s : RSt) (q en : Nat) (he : s.e = 0) (hq : s.at' = q) : numS l mi s q en = endS s (numP l mi q en) q := by
  unfold numS numP endS noneP failR
  obtain ⟨a, d, e, b, hv⟩ := s
  simp only at he hq
  subst he hq
  cases numOK l mi <;> cases (decide (9223372036854775808 < valD 0 l) || (decide (valD 0 l = 9223372036854775808) && !mi)) <;> simp
theorem res_len {l : List UInt8} (h : isReserved l = true) : l.length ≤ 16 := by
  have hall : reservedWords.all (fun v => decide (v.length ≤ 16)) = true := by decide +kernel
  have := List.all_eq_true.1 hall l (by unfold isReserved at h; exact List.contains_iff_mem.1 h)
  simpa using this
theorem bytes_of {s : ByteArray} {l : List UInt8} (h : s.data.toList = l) : s = ⟨l.toArray⟩ := by rw [← h]

set_option maxRecDepth 100000 in
set_option maxHeartbeats 2000000 in
theorem rsingle_any (w : World) (br : Nat) (t : ByteArray) (s : RSt) (h : RR w br t s) (he : s.e = 0) (ha : s.at' ≤ t.size) (ht : t.size ≤ 4000) :
    Calls Tryz.prog 68 #[.pointer (some ⟨br, 0, none⟩)] w fun e w' => e = .returned (leafV (singleP t.data.toList s.at')) ∧ RR w' br t (endS s (singleP t.data.toList s.at') s.at') ∧ Fr (· ≠ br) w w' := by
  have hl : t.data.toList.length = t.size := by simp
  obtain ⟨q, deep, e, bad, hv⟩ := s
  simp only at he ha
  subst he
  show Calls Tryz.prog 68 #[.pointer (some ⟨br, 0, none⟩)] w fun e w' => e = .returned (leafV (singleP t.data.toList q)) ∧ RR w' br t (endS ⟨q, deep, 0, bad, hv⟩ (singleP t.data.toList q) q) ∧ Fr (· ≠ br) w w'
  obtain ⟨X, hX⟩ : ∃ X, singleP t.data.toList q = X := ⟨_, rfl⟩
  rw [hX]
  have HX : Hid (singleP t.data.toList q = X) := hX
  clear hX
  have hbl := block_lt h
  have x2 : Hid ((w.alloc (.cells #[.int .i64 0, .int .i64 0, .string ⟨#[]⟩, .slice none 0 0, .slice none 0 0] 30)).heap[w.heap.size]? = some (.cells #[.int .i64 0, .int .i64 0, .string ⟨#[]⟩, .slice none 0 0, .slice none 0 0] 30 (0, 0))) := heap_new rfl
  have G0 : Hid (Grew w (w.alloc (.cells #[.int .i64 0, .int .i64 0, .string ⟨#[]⟩, .slice none 0 0, .slice none 0 0] 30))) := (Grew.refl w).alloc _
  have R0 : Hid (RR (w.alloc (.cells #[.int .i64 0, .int .i64 0, .string ⟨#[]⟩, .slice none 0 0, .slice none 0 0] 30)) br t ⟨q, deep, 0, bad, hv⟩) := h.fr (G0.out.below.block br hbl)
  clear h
  have mo := follows
  go_enter Tryz.func68, Tryz.ntmps68
  go_upto_region 1 with fail
  generalize w.alloc (.cells #[.int .i64 0, .int .i64 0, .string ⟨#[]⟩, .slice none 0 0, .slice none 0 0] 30) = W0 at x2 G0 R0 ⊢
  have c0 := block_cell R0.out 0
  have c1 := block_cell R0.out 1
  have hb0 := block_lt R0.out
  by_cases hq : q = t.size
  · have HE : Hid (X = noneP 1 q) := by show _ = _; rw [← HX.out]; unfold singleP; rw [if_pos (by omega)]
    subst hq
    have HFL : Hid (Calls Tryz.prog 29 #[.pointer (some ⟨br, 0, none⟩), .int .i64 (1 : Int), .int .i64 (t.size : Int)] W0 _) := rfail_any W0 br t ⟨t.size, deep, 0, bad, hv⟩ 1 t.size R0.out
    go_wp2_with fail
    refine HFL.out.mono ?_
    rintro e' w2 ⟨rfl, h2, f2⟩
    have y2 : Hid (w2.heap[w.heap.size]? = _) := (f2.block w.heap.size (block_lt x2.out) (by omega)).trans x2.out
    have R2 : Hid (RR w2 br t ⟨t.size, deep, 1, t.size, hv⟩) := h2
    have F2 : Hid (Fr (· ≠ br) w w2) := (Fr.grew G0.out).trans f2
    clear h2 f2 HFL x2 R0 G0
    have b0 := block_cell y2.out 0
    have b1 := block_cell y2.out 1
    have b2 := block_cell y2.out 2
    have b3 := block_cell y2.out 3
    have b4 := block_cell y2.out 4
    have g0 := frozen_block y2.out 0
    have g1 := frozen_block y2.out 1
    have g2 := frozen_block y2.out 2
    have g3 := frozen_block y2.out 3
    have g4 := frozen_block y2.out 4
    have z2 := block_lt y2.out
    go_wp2_with fail
    change bodyPost Tryz.prog _ _ _ _ (set5 w2 w.heap.size 0 (.int .i64 0) (.int .i64 0) (.string ⟨#[]⟩) (.slice none 0 0) (.slice none 0 0))
    obtain ⟨E, RZ, FZ⟩ := box_end y2.out R2.out hbl F2.out (.int .i64 0) (.int .i64 0) (.string ⟨#[]⟩) (.slice none 0 0) (.slice none 0 0)
    clear b0 b1 b2 b3 b4 g0 g1 g2 g3 g4
    generalize set5 w2 w.heap.size 0 (.int .i64 0) (.int .i64 0) (.string ⟨#[]⟩) (.slice none 0 0) (.slice none 0 0) = WZ at E RZ FZ ⊢
    have b0 := block_cell E 0
    have b1 := block_cell E 1
    have b2 := block_cell E 2
    have b3 := block_cell E 3
    have b4 := block_cell E 4
    rw [HE.out]
    exact bodyPost_ret (v := leafV (noneP 1 t.size)) (by simp [results, Tryz.results68, go_sem, b0, b1, b2, b3, b4, leafV, noneP]) rfl ⟨rfl, RZ, FZ⟩
  have k1 : ((q : Int) == (t.size : Int)) = false := by simp; omega
  have hlt : q < t.size := by omega
  have hbq : byteAt t.data.toList q = t[q] := byteAt_data t q hlt
  have HX2 : Hid (X = if (t[q]).toNat = 34 then (if (qScan (t.data.toList.drop (q + 1)) (q + 1)).1 = 3 then (3, 0, (t.data.toList.take ((qScan (t.data.toList.drop (q + 1)) (q + 1)).2 - 1)).drop (q + 1), 0, (qScan (t.data.toList.drop (q + 1)) (q + 1)).2) else noneP 1 q) else tailP t.data.toList q (if (t[q]).toNat = 45 then q + 1 else q)) := by
    show _ = _; rw [← HX.out]; unfold singleP; rw [if_neg (by omega), hbq]
  clear HX hbq
  by_cases h34 : (t[q].toNat : Int) = 34
  · have k2 : ((t[q].toNat : Int) == 34) = true := by simp [h34]
    have HX3 := HX2.out
    rw [if_pos (by omega)] at HX3
    have HQD : Hid (Calls Tryz.prog 105 #[.string t, .int .i64 q] W0 _) := quoted_any t q W0 (by omega) hlt
    have hcls := qScan_cls (t.data.toList.drop (q + 1)) (q + 1)
    have hle := qScan_le (t.data.toList.drop (q + 1)) (q + 1)
    have htwo := qScan_two (t.data.toList.drop (q + 1)) (q + 1)
    obtain ⟨r1, r2, hr⟩ : ∃ r1 r2, qScan (t.data.toList.drop (q + 1)) (q + 1) = (r1, r2) := ⟨_, _, rfl⟩
    rw [hr] at HX3 HQD hcls hle htwo
    simp only at HX3 hcls hle htwo
    rw [List.length_drop, hl] at hle
    clear hr HX2
    rcases hcls with rfl | rfl
    · have hr2 := htwo rfl
      rw [qEnd_3] at HQD
      rw [if_pos rfl] at HX3
      have hex : t.extract (q + 1) (r2 - 1) = ⟨((t.data.toList.take (r2 - 1)).drop (q + 1)).toArray⟩ := bytes_of (extract_list _ _ _)
      obtain ⟨E1, hE1⟩ : ∃ E1 : ByteArray, E1 = t.extract (q + 1) (r2 - 1) := ⟨_, rfl⟩
      have HE : Hid (X = (3, 0, (t.data.toList.take (r2 - 1)).drop (q + 1), 0, r2)) := HX3
      have HEX : Hid (E1 = ⟨((t.data.toList.take (r2 - 1)).drop (q + 1)).toArray⟩) := by show _ = _; rw [hE1, hex]
      clear hex HX3 htwo
      obtain ⟨r3, hr3⟩ : ∃ r3, r2 = r3 + 1 := ⟨r2 - 1, by omega⟩
      have s1 : (r2 : Int) - 1 = (r3 : Int) := by omega
      have s2 : IntKind.i64.wrap (r3 : Int) = (r3 : Int) := by rw [IntKind.wrap_i64]; omega
      have s3 : (q : Int) + 1 ≤ (r3 : Int) := by omega
      have s4 : (r3 : Int) ≤ (t.size : Int) := by omega
      have s5 : t.extract (q + 1) r3 = E1 := by rw [hE1, hr3]; rfl
      have s6 : ¬ (r2 : Int) < 0 := by omega
      have s7 : ((q : Int) + 1).toNat = q + 1 := by omega
      clear hE1 hr3
      have R3 : Hid (RR (W0.setCell ⟨br, 1, none⟩ (.int .i64 (r2 : Int))) br t ⟨r2, deep, 0, bad, hv⟩) := by
        have := set_block R0.out 1 (.int .i64 (r2 : Int))
        simpa [RR, Hid] using this
      have F3 : Hid (Fr (· ≠ br) w (W0.setCell ⟨br, 1, none⟩ (.int .i64 (r2 : Int)))) := (Fr.grew G0.out).set (by simp) _
      have y3 : Hid ((W0.setCell ⟨br, 1, none⟩ (.int .i64 (r2 : Int))).heap[w.heap.size]? = _) := (Below.heap_setCell _ _ _ _ (by simp; omega)).trans x2.out
      have f1 := frozen_block R0.out 1
      go_wp2_with fail
      refine HQD.out.mono ?_
      rintro e' w' ⟨rfl, rfl⟩
      clear HQD
      go_upto_region 11 with fail
      generalize w'.setCell ⟨br, 1, none⟩ (.int .i64 (r2 : Int)) = w2 at R3 F3 y3 ⊢
      have R2 : Hid (RR w2 br t ⟨r2, deep, 0, bad, hv⟩) := R3
      have F2 : Hid (Fr (· ≠ br) w w2) := F3
      have y2 : Hid (w2.heap[w.heap.size]? = _) := y3
      clear R3 F3 y3 c0 c1 f1 x2 R0 G0
      have c0 := block_cell R2.out 0
      have hb2 := block_lt R2.out
      have b0 := block_cell y2.out 0
      have b1 := block_cell y2.out 1
      have b2 := block_cell y2.out 2
      have b3 := block_cell y2.out 3
      have b4 := block_cell y2.out 4
      have g0 := frozen_block y2.out 0
      have g1 := frozen_block y2.out 1
      have g2 := frozen_block y2.out 2
      have g3 := frozen_block y2.out 3
      have g4 := frozen_block y2.out 4
      have z2 := block_lt y2.out
      go_wp2_with fail
      change bodyPost Tryz.prog _ _ _ _ (set5 w2 w.heap.size 0 (.int .i64 3) (.int .i64 0) (.string E1) (.slice none 0 0) (.slice none 0 0))
      obtain ⟨E, RZ, FZ⟩ := box_end y2.out R2.out hbl F2.out (.int .i64 3) (.int .i64 0) (.string E1) (.slice none 0 0) (.slice none 0 0)
      clear b0 b1 b2 b3 b4 g0 g1 g2 g3 g4
      generalize set5 w2 w.heap.size 0 (.int .i64 3) (.int .i64 0) (.string E1) (.slice none 0 0) (.slice none 0 0) = WZ at E RZ FZ ⊢
      have b0 := block_cell E 0
      have b1 := block_cell E 1
      have b2 := block_cell E 2
      have b3 := block_cell E 3
      have b4 := block_cell E 4
      rw [HE.out]
      exact bodyPost_ret (v := .agg #[.int .i64 3, .int .i64 0, .string E1, .slice none 0 0, .slice none 0 0]) (by simp [results, Tryz.results68, go_sem, b0, b1, b2, b3, b4]) rfl ⟨by rw [HEX.out]; rfl, RZ, FZ⟩
    · rw [qEnd_5] at HQD
      rw [if_neg (by omega)] at HX3
      have HE : Hid (X = noneP 1 q) := HX3
      clear HX3
      go_wp2_with fail
      refine HQD.out.mono ?_
      rintro e' w' ⟨rfl, rfl⟩
      clear HQD
      have HFL : Hid (Calls Tryz.prog 29 #[.pointer (some ⟨br, 0, none⟩), .int .i64 (1 : Int), .int .i64 (q : Int)] w' _) := rfail_any w' br t ⟨q, deep, 0, bad, hv⟩ 1 q R0.out
      go_wp2_with fail
      refine HFL.out.mono ?_
      rintro e' w2 ⟨rfl, h2, f2⟩
      have y2 : Hid (w2.heap[w.heap.size]? = _) := (f2.block w.heap.size (block_lt x2.out) (by omega)).trans x2.out
      have R2 : Hid (RR w2 br t ⟨q, deep, 1, q, hv⟩) := h2
      have F2 : Hid (Fr (· ≠ br) w w2) := (Fr.grew G0.out).trans f2
      clear h2 f2 HFL x2 R0 G0
      have b0 := block_cell y2.out 0
      have b1 := block_cell y2.out 1
      have b2 := block_cell y2.out 2
      have b3 := block_cell y2.out 3
      have b4 := block_cell y2.out 4
      have g0 := frozen_block y2.out 0
      have g1 := frozen_block y2.out 1
      have g2 := frozen_block y2.out 2
      have g3 := frozen_block y2.out 3
      have g4 := frozen_block y2.out 4
      have z2 := block_lt y2.out
      go_wp2_with fail
      change bodyPost Tryz.prog _ _ _ _ (set5 w2 w.heap.size 0 (.int .i64 0) (.int .i64 0) (.string ⟨#[]⟩) (.slice none 0 0) (.slice none 0 0))
      obtain ⟨E, RZ, FZ⟩ := box_end y2.out R2.out hbl F2.out (.int .i64 0) (.int .i64 0) (.string ⟨#[]⟩) (.slice none 0 0) (.slice none 0 0)
      clear b0 b1 b2 b3 b4 g0 g1 g2 g3 g4
      generalize set5 w2 w.heap.size 0 (.int .i64 0) (.int .i64 0) (.string ⟨#[]⟩) (.slice none 0 0) (.slice none 0 0) = WZ at E RZ FZ ⊢
      have b0 := block_cell E 0
      have b1 := block_cell E 1
      have b2 := block_cell E 2
      have b3 := block_cell E 3
      have b4 := block_cell E 4
      rw [HE.out]
      exact bodyPost_ret (v := leafV (noneP 1 q)) (by simp [results, Tryz.results68, go_sem, b0, b1, b2, b3, b4, leafV, noneP]) rfl ⟨rfl, RZ, FZ⟩
  · have k2 : ((t[q].toNat : Int) == 34) = false := by simp [h34]
    have HX3 := HX2.out
    rw [if_neg (by omega)] at HX3
    obtain ⟨f, hf⟩ : ∃ f, (if (t[q]).toNat = 45 then q + 1 else q) = f := ⟨_, rfl⟩
    rw [hf] at HX3
    have HX4 : Hid (X = tailP t.data.toList q f) := HX3
    clear HX3 HX2
    have HFF : Hid ((if (t[q]).toNat = 45 then q + 1 else q) = f) := hf
    have hfq : q ≤ f ∧ f ≤ q + 1 := by split at hf <;> omega
    clear hf
    go_upto_if 66 with fail
    go_cut [5] from 11 (fun s5 wx => s5 = .int .i64 (f : Int) ∧ W0 = wx)
    case first =>
      by_cases h45 : (t[q].toNat : Int) = 45
      · have k3 : ((t[q].toNat : Int) == 45) = true := by simp [h45]
        have HE : Hid ((f : Int) = (q : Int) + 1) := by show _ = _; rw [← HFF.out, if_pos (by omega)]; omega
        go_wp2_with fail
        all_goals go_meet
        all_goals exact ⟨by rw [HE.out], rfl⟩
      · have k3 : ((t[q].toNat : Int) == 45) = false := by simp [h45]
        have HE : Hid ((f : Int) = (q : Int)) := by show _ = _; rw [← HFF.out, if_neg (by omega)]
        go_wp2_with fail
        all_goals go_meet
        all_goals exact ⟨by rw [HE.out], rfl⟩
    case rest =>
      obtain ⟨rfl, rfl⟩ := hcut
      have hft : f ≤ t.size := by omega
      have HRUN : Hid (Calls Tryz.prog 103 #[.string t, .int .i64 f] W0 _) := rrun_any t f W0 (by omega) hft
      have hrl := runLen_le (t.data.toList.drop f)
      rw [List.length_drop, hl] at hrl
      obtain ⟨en, hen⟩ : ∃ en, f + runLen (t.data.toList.drop f) = en := ⟨_, rfl⟩
      have HX5 : Hid (X = if (t.data.toList.take en).drop f = [] then noneP 1 q
        else if isDigit (byteAt ((t.data.toList.take en).drop f) 0) then numP ((t.data.toList.take en).drop f) (decide (q < f)) q en
        else if q < f ∨ isLetter (byteAt ((t.data.toList.take en).drop f) 0) = false then noneP 1 q
        else wordP ((t.data.toList.take en).drop f) en) := by show _ = _; rw [HX4.out]; unfold tailP; rw [hen]
      rw [hen] at HRUN
      have s1 : (f : Int) ≤ (en : Int) := by omega
      have s2 : (en : Int) ≤ (t.size : Int) := by omega
      obtain ⟨x, hx⟩ : ∃ x : ByteArray, t.extract f en = x := ⟨_, rfl⟩
      have hxl : x.data.toList = (t.data.toList.take en).drop f := by rw [← hx]; exact extract_list _ _ _
      rw [← hxl] at HX5
      have hxs : x.data.toList.length = x.size := by simp
      clear hen hrl HX4 hxl
      go_wp2_with fail
      refine HRUN.out.mono ?_
      rintro e' w' ⟨rfl, rfl⟩
      clear HRUN
      by_cases hx0 : x.size = 0
      · have hxn : x.data.toList = [] := List.eq_nil_of_length_eq_zero (by omega)
        have kx : (x.toList == []) = true := by rw [ByteArray.toList_eq, hxn]; rfl
        have HE : Hid (X = noneP 1 q) := by show _ = _; rw [HX5.out, if_pos hxn]
        clear hxn HX5
        have HFL : Hid (Calls Tryz.prog 29 #[.pointer (some ⟨br, 0, none⟩), .int .i64 (1 : Int), .int .i64 (q : Int)] w' _) := rfail_any w' br t ⟨q, deep, 0, bad, hv⟩ 1 q R0.out
        go_wp2_with fail
        refine HFL.out.mono ?_
        rintro e' w2 ⟨rfl, h2, f2⟩
        have y2 : Hid (w2.heap[w.heap.size]? = _) := (f2.block w.heap.size (block_lt x2.out) (by omega)).trans x2.out
        have R2 : Hid (RR w2 br t ⟨q, deep, 1, q, hv⟩) := h2
        have F2 : Hid (Fr (· ≠ br) w w2) := (Fr.grew G0.out).trans f2
        clear h2 f2 HFL x2 R0 G0
        have b0 := block_cell y2.out 0
        have b1 := block_cell y2.out 1
        have b2 := block_cell y2.out 2
        have b3 := block_cell y2.out 3
        have b4 := block_cell y2.out 4
        have g0 := frozen_block y2.out 0
        have g1 := frozen_block y2.out 1
        have g2 := frozen_block y2.out 2
        have g3 := frozen_block y2.out 3
        have g4 := frozen_block y2.out 4
        have z2 := block_lt y2.out
        go_wp2_with fail
        change bodyPost Tryz.prog _ _ _ _ (set5 w2 w.heap.size 0 (.int .i64 0) (.int .i64 0) (.string ⟨#[]⟩) (.slice none 0 0) (.slice none 0 0))
        obtain ⟨E, RZ, FZ⟩ := box_end y2.out R2.out hbl F2.out (.int .i64 0) (.int .i64 0) (.string ⟨#[]⟩) (.slice none 0 0) (.slice none 0 0)
        clear b0 b1 b2 b3 b4 g0 g1 g2 g3 g4
        generalize set5 w2 w.heap.size 0 (.int .i64 0) (.int .i64 0) (.string ⟨#[]⟩) (.slice none 0 0) (.slice none 0 0) = WZ at E RZ FZ ⊢
        have b0 := block_cell E 0
        have b1 := block_cell E 1
        have b2 := block_cell E 2
        have b3 := block_cell E 3
        have b4 := block_cell E 4
        rw [HE.out]
        exact bodyPost_ret (v := leafV (noneP 1 q)) (by simp [results, Tryz.results68, go_sem, b0, b1, b2, b3, b4, leafV, noneP]) rfl ⟨rfl, RZ, FZ⟩
      have hxn : x.data.toList ≠ [] := fun e => by rw [e] at hxs; simp at hxs; omega
      have kx : (x.toList == []) = false := by
        rw [ByteArray.toList_eq]
        cases hq0 : x.data.toList with
        | nil => exact absurd hq0 hxn
        | cons a l => rfl
      have hxp : 0 < x.size := by omega
      have hbx : byteAt x.data.toList 0 = x[0] := byteAt_data x 0 hxp
      have HX6 := HX5.out
      rw [if_neg hxn, hbx] at HX6
      have HDG : Hid (∀ W, Calls Tryz.prog 124 #[.int .u8 (UInt8.toNat x[0])] W _) := rdigit_any x[0]
      have HLT : Hid (∀ W, Calls Tryz.prog 126 #[.int .u8 (UInt8.toNat x[0])] W _) := rletter_any x[0]
      have hx4 : x.size ≤ 4000 := by
        have : x.data.toList.length ≤ t.data.toList.length := by
          rw [← hx, extract_list]
          exact Nat.le_trans (by rw [List.length_drop]; exact Nat.sub_le _ _) (List.length_take_le' _ _)
        omega
      generalize isDigit x[0] = dd at HX6 HDG
      generalize isLetter x[0] = ll at HX6 HLT
      clear HX5 hxn hbx hxs
      cases dd with
      | true =>
        have HNUM : Hid (Calls Tryz.prog 125 #[.pointer (some ⟨br, 0, none⟩), .string x, .bool (decide (q < f)), .int .i64 (q : Int), .int .i64 (en : Int)] w' _) := rnumber_any w' br t x (decide (q < f)) ⟨q, deep, 0, bad, hv⟩ q en R0.out hxp hx4
        rw [num_v _ _ q en, num_s _ _ _ q en rfl rfl] at HNUM
        have HE : Hid (X = numP x.data.toList (decide (q < f)) q en) := HX6
        generalize numP x.data.toList (decide (q < f)) q en = N at HNUM HE
        obtain ⟨n1, n2, n3, n4, n5⟩ := N
        have HNU2 : Hid (Calls Tryz.prog 125 #[.pointer (some ⟨br, 0, none⟩), .string x, .bool (decide (q < f)), .int .i64 (q : Int), .int .i64 (en : Int)] w' fun e w'' => e = .returned (.agg #[.int .i64 (n1 : Int), .int .i64 n2, .string ⟨n3.toArray⟩, .slice none 0 0, .slice none 0 0]) ∧ RR w'' br t (endS ⟨q, deep, 0, bad, hv⟩ (n1, n2, n3, n4, n5) q) ∧ Fr (· ≠ br) w' w'') := HNUM.out
        have hqf : decide ((q : Int) < (f : Int)) = decide (q < f) := by simp
        clear HNUM HX6 HLT
        go_wp2_with (go_at_call 124; refine (HDG.out _).mono ?_; rintro e2 w9 ⟨rfl, rfl⟩)
        refine HNU2.out.mono ?_
        rintro e2 w2 ⟨rfl, h2, f2⟩
        have y2 : Hid (w2.heap[w.heap.size]? = _) := (f2.block w.heap.size (block_lt x2.out) (by omega)).trans x2.out
        have R2 : Hid (RR w2 br t (endS ⟨q, deep, 0, bad, hv⟩ (n1, n2, n3, n4, n5) q)) := h2
        have F2 : Hid (Fr (· ≠ br) w w2) := (Fr.grew G0.out).trans f2
        clear h2 f2 HNU2 x2 R0 G0 c0 c1
        have b0 := block_cell y2.out 0
        have b1 := block_cell y2.out 1
        have b2 := block_cell y2.out 2
        have b3 := block_cell y2.out 3
        have b4 := block_cell y2.out 4
        have g0 := frozen_block y2.out 0
        have g1 := frozen_block y2.out 1
        have g2 := frozen_block y2.out 2
        have g3 := frozen_block y2.out 3
        have g4 := frozen_block y2.out 4
        have z2 := block_lt y2.out
        go_wp2_with fail
        change bodyPost Tryz.prog _ _ _ _ (set5 w2 w.heap.size 0 (.int .i64 (n1 : Int)) (.int .i64 n2) (.string ⟨n3.toArray⟩) (.slice none 0 0) (.slice none 0 0))
        obtain ⟨E, RZ, FZ⟩ := box_end y2.out R2.out hbl F2.out (.int .i64 (n1 : Int)) (.int .i64 n2) (.string ⟨n3.toArray⟩) (.slice none 0 0) (.slice none 0 0)
        clear b0 b1 b2 b3 b4 g0 g1 g2 g3 g4
        generalize set5 w2 w.heap.size 0 (.int .i64 (n1 : Int)) (.int .i64 n2) (.string ⟨n3.toArray⟩) (.slice none 0 0) (.slice none 0 0) = WZ at E RZ FZ ⊢
        have b0 := block_cell E 0
        have b1 := block_cell E 1
        have b2 := block_cell E 2
        have b3 := block_cell E 3
        have b4 := block_cell E 4
        rw [HE.out]
        exact bodyPost_ret (v := .agg #[.int .i64 (n1 : Int), .int .i64 n2, .string ⟨n3.toArray⟩, .slice none 0 0, .slice none 0 0]) (by simp [results, Tryz.results68, go_sem, b0, b1, b2, b3, b4]) rfl ⟨rfl, RZ, FZ⟩
      | false =>
        by_cases hbadf : q < f
        · have HE : Hid (X = noneP 1 q) := by show _ = _; rw [HX6, if_neg (by simp), if_pos (.inl hbadf)]
          have hqf : (q : Int) < (f : Int) := by omega
          clear HX6
          have HFL : Hid (Calls Tryz.prog 29 #[.pointer (some ⟨br, 0, none⟩), .int .i64 (1 : Int), .int .i64 (q : Int)] w' _) := rfail_any w' br t ⟨q, deep, 0, bad, hv⟩ 1 q R0.out
          go_wp2_with (first | (go_at_call 124; refine (HDG.out _).mono ?_; rintro e2 w9 ⟨rfl, rfl⟩) | (go_at_call 126; refine (HLT.out _).mono ?_; rintro e2 w9 ⟨rfl, rfl⟩))
          refine HFL.out.mono ?_
          rintro e' w2 ⟨rfl, h2, f2⟩
          have y2 : Hid (w2.heap[w.heap.size]? = _) := (f2.block w.heap.size (block_lt x2.out) (by omega)).trans x2.out
          have R2 : Hid (RR w2 br t ⟨q, deep, 1, q, hv⟩) := h2
          have F2 : Hid (Fr (· ≠ br) w w2) := (Fr.grew G0.out).trans f2
          clear h2 f2 HFL x2 R0 G0
          have b0 := block_cell y2.out 0
          have b1 := block_cell y2.out 1
          have b2 := block_cell y2.out 2
          have b3 := block_cell y2.out 3
          have b4 := block_cell y2.out 4
          have g0 := frozen_block y2.out 0
          have g1 := frozen_block y2.out 1
          have g2 := frozen_block y2.out 2
          have g3 := frozen_block y2.out 3
          have g4 := frozen_block y2.out 4
          have z2 := block_lt y2.out
          go_wp2_with fail
          change bodyPost Tryz.prog _ _ _ _ (set5 w2 w.heap.size 0 (.int .i64 0) (.int .i64 0) (.string ⟨#[]⟩) (.slice none 0 0) (.slice none 0 0))
          obtain ⟨E, RZ, FZ⟩ := box_end y2.out R2.out hbl F2.out (.int .i64 0) (.int .i64 0) (.string ⟨#[]⟩) (.slice none 0 0) (.slice none 0 0)
          clear b0 b1 b2 b3 b4 g0 g1 g2 g3 g4
          generalize set5 w2 w.heap.size 0 (.int .i64 0) (.int .i64 0) (.string ⟨#[]⟩) (.slice none 0 0) (.slice none 0 0) = WZ at E RZ FZ ⊢
          have b0 := block_cell E 0
          have b1 := block_cell E 1
          have b2 := block_cell E 2
          have b3 := block_cell E 3
          have b4 := block_cell E 4
          rw [HE.out]
          exact bodyPost_ret (v := leafV (noneP 1 q)) (by simp [results, Tryz.results68, go_sem, b0, b1, b2, b3, b4, leafV, noneP]) rfl ⟨rfl, RZ, FZ⟩
        · have hfe : f = q := by omega
          subst hfe
          cases ll with
          | false =>
            have HE : Hid (X = noneP 1 f) := by show _ = _; rw [HX6, if_neg (by simp), if_pos (.inr rfl)]
            clear HX6
            have HFL : Hid (Calls Tryz.prog 29 #[.pointer (some ⟨br, 0, none⟩), .int .i64 (1 : Int), .int .i64 (f : Int)] w' _) := rfail_any w' br t ⟨f, deep, 0, bad, hv⟩ 1 f R0.out
            go_wp2_with (first | (go_at_call 124; refine (HDG.out _).mono ?_; rintro e2 w9 ⟨rfl, rfl⟩) | (go_at_call 126; refine (HLT.out _).mono ?_; rintro e2 w9 ⟨rfl, rfl⟩))
            refine HFL.out.mono ?_
            rintro e' w2 ⟨rfl, h2, f2⟩
            have y2 : Hid (w2.heap[w.heap.size]? = _) := (f2.block w.heap.size (block_lt x2.out) (by omega)).trans x2.out
            have R2 : Hid (RR w2 br t ⟨f, deep, 1, f, hv⟩) := h2
            have F2 : Hid (Fr (· ≠ br) w w2) := (Fr.grew G0.out).trans f2
            clear h2 f2 HFL x2 R0 G0
            have b0 := block_cell y2.out 0
            have b1 := block_cell y2.out 1
            have b2 := block_cell y2.out 2
            have b3 := block_cell y2.out 3
            have b4 := block_cell y2.out 4
            have g0 := frozen_block y2.out 0
            have g1 := frozen_block y2.out 1
            have g2 := frozen_block y2.out 2
            have g3 := frozen_block y2.out 3
            have g4 := frozen_block y2.out 4
            have z2 := block_lt y2.out
            go_wp2_with fail
            change bodyPost Tryz.prog _ _ _ _ (set5 w2 w.heap.size 0 (.int .i64 0) (.int .i64 0) (.string ⟨#[]⟩) (.slice none 0 0) (.slice none 0 0))
            obtain ⟨E, RZ, FZ⟩ := box_end y2.out R2.out hbl F2.out (.int .i64 0) (.int .i64 0) (.string ⟨#[]⟩) (.slice none 0 0) (.slice none 0 0)
            clear b0 b1 b2 b3 b4 g0 g1 g2 g3 g4
            generalize set5 w2 w.heap.size 0 (.int .i64 0) (.int .i64 0) (.string ⟨#[]⟩) (.slice none 0 0) (.slice none 0 0) = WZ at E RZ FZ ⊢
            have b0 := block_cell E 0
            have b1 := block_cell E 1
            have b2 := block_cell E 2
            have b3 := block_cell E 3
            have b4 := block_cell E 4
            rw [HE.out]
            exact bodyPost_ret (v := leafV (noneP 1 f)) (by simp [results, Tryz.results68, go_sem, b0, b1, b2, b3, b4, leafV, noneP]) rfl ⟨rfl, RZ, FZ⟩
          | true =>
            rw [if_neg (by simp), if_neg (by simp)] at HX6
            have HX7 : Hid (X = wordP x.data.toList en) := HX6
            clear HX6
            have R3 : Hid (RR (w'.setCell ⟨br, 1, none⟩ (.int .i64 (en : Int))) br t ⟨en, deep, 0, bad, hv⟩) := by
              have := set_block R0.out 1 (.int .i64 (en : Int))
              simpa [RR, Hid] using this
            have F3 : Hid (Fr (· ≠ br) w (w'.setCell ⟨br, 1, none⟩ (.int .i64 (en : Int)))) := (Fr.grew G0.out).set (by simp) _
            have y3 : Hid ((w'.setCell ⟨br, 1, none⟩ (.int .i64 (en : Int))).heap[w.heap.size]? = _) := (Below.heap_setCell _ _ _ _ (by simp; omega)).trans x2.out
            have f1 := frozen_block R0.out 1
            go_upto_region 28 with (first | (go_at_call 124; refine (HDG.out _).mono ?_; rintro e2 w9 ⟨rfl, rfl⟩) | (go_at_call 126; refine (HLT.out _).mono ?_; rintro e2 w9 ⟨rfl, rfl⟩))
            generalize World.setCell _ ⟨br, 1, none⟩ (.int .i64 (en : Int)) = w2 at R3 F3 y3 ⊢
            have R2 : Hid (RR w2 br t ⟨en, deep, 0, bad, hv⟩) := R3
            have F2 : Hid (Fr (· ≠ br) w w2) := F3
            have y2 : Hid (w2.heap[w.heap.size]? = _) := y3
            clear R3 F3 y3 c0 c1 f1 x2 R0 G0 HDG HLT
            have hnl : ∀ v : List UInt8, (x.toList == v) = decide (x.data.toList = v) := by
              intro v; rw [ByteArray.toList_eq]; rw [Bool.eq_iff_iff]; simp
            by_cases w1 : x.data.toList = nilT
            · have HE : Hid (X = (0, 0, [], 0, en)) := by show _ = _; rw [HX7.out]; unfold wordP; rw [if_pos w1]
              have k3 : (x.toList == [110, 105, 108]) = true := by rw [hnl]; exact decide_eq_true w1
              clear hnl w1 HX7
              have b0 := block_cell y2.out 0
              have b1 := block_cell y2.out 1
              have b2 := block_cell y2.out 2
              have b3 := block_cell y2.out 3
              have b4 := block_cell y2.out 4
              have g0 := frozen_block y2.out 0
              have g1 := frozen_block y2.out 1
              have g2 := frozen_block y2.out 2
              have g3 := frozen_block y2.out 3
              have g4 := frozen_block y2.out 4
              have z2 := block_lt y2.out
              go_wp2_with fail
              change bodyPost Tryz.prog _ _ _ _ (set5 w2 w.heap.size 0 (.int .i64 0) (.int .i64 0) (.string ⟨#[]⟩) (.slice none 0 0) (.slice none 0 0))
              obtain ⟨E, RZ, FZ⟩ := box_end y2.out R2.out hbl F2.out (.int .i64 0) (.int .i64 0) (.string ⟨#[]⟩) (.slice none 0 0) (.slice none 0 0)
              clear b0 b1 b2 b3 b4 g0 g1 g2 g3 g4
              generalize set5 w2 w.heap.size 0 (.int .i64 0) (.int .i64 0) (.string ⟨#[]⟩) (.slice none 0 0) (.slice none 0 0) = WZ at E RZ FZ ⊢
              have b0 := block_cell E 0
              have b1 := block_cell E 1
              have b2 := block_cell E 2
              have b3 := block_cell E 3
              have b4 := block_cell E 4
              rw [HE.out]
              exact bodyPost_ret (v := nilV5) (by simp [results, Tryz.results68, go_sem, b0, b1, b2, b3, b4, nilV5]) rfl ⟨rfl, RZ, FZ⟩
            have k3 : (x.toList == [110, 105, 108]) = false := by rw [hnl]; exact decide_eq_false w1
            by_cases w2' : x.data.toList = trueT
            · have HE : Hid (X = (1, 1, [], 0, en)) := by show _ = _; rw [HX7.out]; unfold wordP; rw [if_neg w1, if_pos w2']
              have k4 : (x.toList == [116, 114, 117, 101]) = true := by rw [hnl]; exact decide_eq_true w2'
              have HTR : Hid (Calls Tryz.prog 88 #[.bool true] w2 _) := rtruth_mk true w2
              clear hnl w1 w2' HX7
              go_wp2_with fail
              refine HTR.out.mono ?_
              rintro e3 w3 ⟨rfl, hg⟩
              have y2 : Hid (w3.heap[w.heap.size]? = _) := Below.blockAt hg.below y2.out
              have R2 : Hid (RR w3 br t ⟨en, deep, 0, bad, hv⟩) := R2.out.fr (hg.below.block br (block_lt R2.out))
              have F2 : Hid (Fr (· ≠ br) w w3) := F2.out.trans (Fr.grew hg)
              clear hg HTR
              have b0 := block_cell y2.out 0
              have b1 := block_cell y2.out 1
              have b2 := block_cell y2.out 2
              have b3 := block_cell y2.out 3
              have b4 := block_cell y2.out 4
              have g0 := frozen_block y2.out 0
              have g1 := frozen_block y2.out 1
              have g2 := frozen_block y2.out 2
              have g3 := frozen_block y2.out 3
              have g4 := frozen_block y2.out 4
              have z2 := block_lt y2.out
              go_wp2_with fail
              change bodyPost Tryz.prog _ _ _ _ (set5 w3 w.heap.size 0 (.int .i64 1) (.int .i64 1) (.string ⟨#[]⟩) (.slice none 0 0) (.slice none 0 0))
              obtain ⟨E, RZ, FZ⟩ := box_end y2.out R2.out hbl F2.out (.int .i64 1) (.int .i64 1) (.string ⟨#[]⟩) (.slice none 0 0) (.slice none 0 0)
              clear b0 b1 b2 b3 b4 g0 g1 g2 g3 g4
              generalize set5 w3 w.heap.size 0 (.int .i64 1) (.int .i64 1) (.string ⟨#[]⟩) (.slice none 0 0) (.slice none 0 0) = WZ at E RZ FZ ⊢
              have b0 := block_cell E 0
              have b1 := block_cell E 1
              have b2 := block_cell E 2
              have b3 := block_cell E 3
              have b4 := block_cell E 4
              rw [HE.out]
              exact bodyPost_ret (v := .agg #[.int .i64 1, .int .i64 1, .string ⟨#[]⟩, .slice none 0 0, .slice none 0 0]) (by simp [results, Tryz.results68, go_sem, b0, b1, b2, b3, b4]) rfl ⟨rfl, RZ, FZ⟩
            have k4 : (x.toList == [116, 114, 117, 101]) = false := by rw [hnl]; exact decide_eq_false w2'
            by_cases w3' : x.data.toList = falseT
            · have HE : Hid (X = (1, 0, [], 0, en)) := by show _ = _; rw [HX7.out]; unfold wordP; rw [if_neg w1, if_neg w2', if_pos w3']
              have k5 : (x.toList == [102, 97, 108, 115, 101]) = true := by rw [hnl]; exact decide_eq_true w3'
              have HTR : Hid (Calls Tryz.prog 88 #[.bool false] w2 _) := rtruth_mk false w2
              clear hnl w1 w2' w3' HX7
              go_wp2_with fail
              refine HTR.out.mono ?_
              rintro e3 w3 ⟨rfl, hg⟩
              have y2 : Hid (w3.heap[w.heap.size]? = _) := Below.blockAt hg.below y2.out
              have R2 : Hid (RR w3 br t ⟨en, deep, 0, bad, hv⟩) := R2.out.fr (hg.below.block br (block_lt R2.out))
              have F2 : Hid (Fr (· ≠ br) w w3) := F2.out.trans (Fr.grew hg)
              clear hg HTR
              have b0 := block_cell y2.out 0
              have b1 := block_cell y2.out 1
              have b2 := block_cell y2.out 2
              have b3 := block_cell y2.out 3
              have b4 := block_cell y2.out 4
              have g0 := frozen_block y2.out 0
              have g1 := frozen_block y2.out 1
              have g2 := frozen_block y2.out 2
              have g3 := frozen_block y2.out 3
              have g4 := frozen_block y2.out 4
              have z2 := block_lt y2.out
              go_wp2_with fail
              change bodyPost Tryz.prog _ _ _ _ (set5 w3 w.heap.size 0 (.int .i64 1) (.int .i64 0) (.string ⟨#[]⟩) (.slice none 0 0) (.slice none 0 0))
              obtain ⟨E, RZ, FZ⟩ := box_end y2.out R2.out hbl F2.out (.int .i64 1) (.int .i64 0) (.string ⟨#[]⟩) (.slice none 0 0) (.slice none 0 0)
              clear b0 b1 b2 b3 b4 g0 g1 g2 g3 g4
              generalize set5 w3 w.heap.size 0 (.int .i64 1) (.int .i64 0) (.string ⟨#[]⟩) (.slice none 0 0) (.slice none 0 0) = WZ at E RZ FZ ⊢
              have b0 := block_cell E 0
              have b1 := block_cell E 1
              have b2 := block_cell E 2
              have b3 := block_cell E 3
              have b4 := block_cell E 4
              rw [HE.out]
              exact bodyPost_ret (v := .agg #[.int .i64 1, .int .i64 0, .string ⟨#[]⟩, .slice none 0 0, .slice none 0 0]) (by simp [results, Tryz.results68, go_sem, b0, b1, b2, b3, b4]) rfl ⟨rfl, RZ, FZ⟩
            have k5 : (x.toList == [102, 97, 108, 115, 101]) = false := by rw [hnl]; exact decide_eq_false w3'
            have HX8 := HX7.out
            unfold wordP at HX8
            rw [if_neg w1, if_neg w2', if_neg w3'] at HX8
            have HRS : Hid (Calls Tryz.prog 127 #[.string x] w2 _) := rreserved_any x w2
            have hrl2 : isReserved x.data.toList = true → x.size ≤ 16 := fun q => by have := res_len q; rw [show x.data.toList.length = x.size from by simp] at this; exact this
            rw [show x.data.toList.length = x.size from by simp] at HX8
            generalize isReserved x.data.toList = rr at HX8 HRS hrl2
            have HX9 : Hid _ := HX8
            clear hnl w1 w2' w3' HX7 HX8
            go_wp2_with fail
            refine HRS.out.mono ?_
            rintro e3 w3 ⟨rfl, hg⟩
            have y3 : Hid (w3.heap[w.heap.size]? = _) := Below.blockAt hg.below y2.out
            have R3 : Hid (RR w3 br t ⟨en, deep, 0, bad, hv⟩) := R2.out.fr (hg.below.block br (block_lt R2.out))
            have F3 : Hid (Fr (· ≠ br) w w3) := F2.out.trans (Fr.grew hg)
            clear hg HRS y2 R2 F2
            cases rr with
            | true =>
              have h16 : ¬ (16 : Int) < (x.size : Int) := by have := hrl2 rfl; omega
              have HE : Hid (X = (4, 0, x.data.toList, 1, en)) := HX9.out
              clear HX9 hrl2
              have HFL : Hid (Calls Tryz.prog 29 #[.pointer (some ⟨br, 0, none⟩), .int .i64 (1 : Int), .int .i64 (f : Int)] w3 _) := rfail_any w3 br t ⟨en, deep, 0, bad, hv⟩ 1 f R3.out
              go_wp2_with fail
              refine HFL.out.mono ?_
              rintro e4 w4 ⟨rfl, h4, f4⟩
              have y2 : Hid (w4.heap[w.heap.size]? = _) := (f4.block w.heap.size (block_lt y3.out) (by omega)).trans y3.out
              have R2 : Hid (RR w4 br t ⟨en, deep, 1, f, hv⟩) := h4
              have F2 : Hid (Fr (· ≠ br) w w4) := F3.out.trans f4
              clear h4 f4 HFL y3 R3 F3
              have b0 := block_cell y2.out 0
              have b1 := block_cell y2.out 1
              have b2 := block_cell y2.out 2
              have b3 := block_cell y2.out 3
              have b4 := block_cell y2.out 4
              have g0 := frozen_block y2.out 0
              have g1 := frozen_block y2.out 1
              have g2 := frozen_block y2.out 2
              have g3 := frozen_block y2.out 3
              have g4 := frozen_block y2.out 4
              have z2 := block_lt y2.out
              go_wp2_with fail
              change bodyPost Tryz.prog _ _ _ _ (set5 w4 w.heap.size 0 (.int .i64 4) (.int .i64 0) (.string x) (.slice none 0 0) (.slice none 0 0))
              obtain ⟨E, RZ, FZ⟩ := box_end y2.out R2.out hbl F2.out (.int .i64 4) (.int .i64 0) (.string x) (.slice none 0 0) (.slice none 0 0)
              clear b0 b1 b2 b3 b4 g0 g1 g2 g3 g4
              generalize set5 w4 w.heap.size 0 (.int .i64 4) (.int .i64 0) (.string x) (.slice none 0 0) (.slice none 0 0) = WZ at E RZ FZ ⊢
              have b0 := block_cell E 0
              have b1 := block_cell E 1
              have b2 := block_cell E 2
              have b3 := block_cell E 3
              have b4 := block_cell E 4
              rw [HE.out]
              exact bodyPost_ret (v := .agg #[.int .i64 4, .int .i64 0, .string x, .slice none 0 0, .slice none 0 0]) (by simp [results, Tryz.results68, go_sem, b0, b1, b2, b3, b4]) rfl ⟨by simp [leafV], RZ, FZ⟩
            | false =>
              by_cases h16 : 16 < x.size
              · have h16' : (16 : Int) < (x.size : Int) := by omega
                have HE : Hid (X = (4, 0, x.data.toList, 5, en)) := by show _ = _; rw [HX9.out, if_neg (by simp), if_pos h16]
                clear HX9 hrl2
                have HFL : Hid (Calls Tryz.prog 29 #[.pointer (some ⟨br, 0, none⟩), .int .i64 (5 : Int), .int .i64 (f : Int)] w3 _) := rfail_any w3 br t ⟨en, deep, 0, bad, hv⟩ 5 f R3.out
                go_wp2_with fail
                refine HFL.out.mono ?_
                rintro e4 w4 ⟨rfl, h4, f4⟩
                have y2 : Hid (w4.heap[w.heap.size]? = _) := (f4.block w.heap.size (block_lt y3.out) (by omega)).trans y3.out
                have R2 : Hid (RR w4 br t ⟨en, deep, 5, f, hv⟩) := h4
                have F2 : Hid (Fr (· ≠ br) w w4) := F3.out.trans f4
                clear h4 f4 HFL y3 R3 F3
                have b0 := block_cell y2.out 0
                have b1 := block_cell y2.out 1
                have b2 := block_cell y2.out 2
                have b3 := block_cell y2.out 3
                have b4 := block_cell y2.out 4
                have g0 := frozen_block y2.out 0
                have g1 := frozen_block y2.out 1
                have g2 := frozen_block y2.out 2
                have g3 := frozen_block y2.out 3
                have g4 := frozen_block y2.out 4
                have z2 := block_lt y2.out
                go_wp2_with fail
                change bodyPost Tryz.prog _ _ _ _ (set5 w4 w.heap.size 0 (.int .i64 4) (.int .i64 0) (.string x) (.slice none 0 0) (.slice none 0 0))
                obtain ⟨E, RZ, FZ⟩ := box_end y2.out R2.out hbl F2.out (.int .i64 4) (.int .i64 0) (.string x) (.slice none 0 0) (.slice none 0 0)
                clear b0 b1 b2 b3 b4 g0 g1 g2 g3 g4
                generalize set5 w4 w.heap.size 0 (.int .i64 4) (.int .i64 0) (.string x) (.slice none 0 0) (.slice none 0 0) = WZ at E RZ FZ ⊢
                have b0 := block_cell E 0
                have b1 := block_cell E 1
                have b2 := block_cell E 2
                have b3 := block_cell E 3
                have b4 := block_cell E 4
                rw [HE.out]
                exact bodyPost_ret (v := .agg #[.int .i64 4, .int .i64 0, .string x, .slice none 0 0, .slice none 0 0]) (by simp [results, Tryz.results68, go_sem, b0, b1, b2, b3, b4]) rfl ⟨by simp [leafV], RZ, FZ⟩
              · have h16' : ¬ (16 : Int) < (x.size : Int) := by omega
                have HE : Hid (X = (4, 0, x.data.toList, 0, en)) := by show _ = _; rw [HX9.out, if_neg (by simp), if_neg h16]
                have y2 : Hid (w3.heap[w.heap.size]? = _) := y3
                have R2 : Hid (RR w3 br t ⟨en, deep, 0, bad, hv⟩) := R3
                have F2 : Hid (Fr (· ≠ br) w w3) := F3
                clear HX9 hrl2 y3 R3 F3
                have b0 := block_cell y2.out 0
                have b1 := block_cell y2.out 1
                have b2 := block_cell y2.out 2
                have b3 := block_cell y2.out 3
                have b4 := block_cell y2.out 4
                have g0 := frozen_block y2.out 0
                have g1 := frozen_block y2.out 1
                have g2 := frozen_block y2.out 2
                have g3 := frozen_block y2.out 3
                have g4 := frozen_block y2.out 4
                have z2 := block_lt y2.out
                go_wp2_with fail
                change bodyPost Tryz.prog _ _ _ _ (set5 w3 w.heap.size 0 (.int .i64 4) (.int .i64 0) (.string x) (.slice none 0 0) (.slice none 0 0))
                obtain ⟨E, RZ, FZ⟩ := box_end y2.out R2.out hbl F2.out (.int .i64 4) (.int .i64 0) (.string x) (.slice none 0 0) (.slice none 0 0)
                clear b0 b1 b2 b3 b4 g0 g1 g2 g3 g4
                generalize set5 w3 w.heap.size 0 (.int .i64 4) (.int .i64 0) (.string x) (.slice none 0 0) (.slice none 0 0) = WZ at E RZ FZ ⊢
                have b0 := block_cell E 0
                have b1 := block_cell E 1
                have b2 := block_cell E 2
                have b3 := block_cell E 3
                have b4 := block_cell E 4
                rw [HE.out]
                exact bodyPost_ret (v := .agg #[.int .i64 4, .int .i64 0, .string x, .slice none 0 0, .slice none 0 0]) (by simp [results, Tryz.results68, go_sem, b0, b1, b2, b3, b4]) rfl ⟨by simp [leafV], RZ, FZ⟩
end Go.Proofs.YtbogejmmkohbkaaGreatDoor.Sx
