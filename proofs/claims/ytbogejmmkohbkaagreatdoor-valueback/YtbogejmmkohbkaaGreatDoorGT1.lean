/- Plain: what is written is read to the same (1): pieces. Nothing of the program. -/
import Derived.Test.YtbogejmmkohbkaaGreatDoorGQ1
namespace Go.Proofs.YtbogejmmkohbkaaGreatDoor.Sx

theorem puM_app (M : Nat) : ∀ (l r : List UInt8) (a b : Nat), Lib.parseUintM M a l = .ok b → Lib.parseUintM M a (l ++ r) = Lib.parseUintM M b r
  | [], r, a, b, h => by simp only [Lib.parseUintM, Lib.NumEnd.ok.injEq] at h; rw [h]; rfl
  | c :: l, r, a, b, h => by
    simp only [Lib.parseUintM, List.cons_append] at h ⊢
    split at h
    · rename_i h1
      rw [if_pos h1]
      split at h
      · simp at h
      · rename_i h2
        rw [if_neg h2]
        split at h
        · simp at h
        · rename_i h3
          rw [if_neg h3]
          exact puM_app M l r _ b h
    · simp at h
theorem puM_dec (M : Nat) (hM : M ≤ 18446744073709551615) (u : Nat) (hu : u ≤ M) : Lib.parseUintM M 0 (Lib.decDigits u) = .ok u := by
  induction u using Nat.strongRecOn with
  | ind u ih =>
    rw [Lib.decDigits]
    split
    · rename_i h
      simp only [Lib.parseUintM, digit_of u h]
      rw [if_pos (by omega), if_neg (by omega), if_neg (by omega)]
      congr 1; omega
    · rename_i h
      rw [puM_app M _ _ 0 (u / 10) (ih (u / 10) (by omega) (by omega))]
      simp only [Lib.parseUintM, digit_of (u % 10) (by omega)]
      rw [if_pos (by omega), if_neg (by omega), if_neg (by omega)]
      congr 1; omega
theorem parse_itoa (n : Int) (h0 : -9223372036854775808 ≤ n) (h1 : n ≤ 9223372036854775807) : Lib.parseIntB 64 (Lib.itoa n) = .ok n := by
  unfold Lib.itoa
  split
  · rename_i hn
    have e := puM_dec (2 ^ 64 - 1) (by decide) n.natAbs (by omega)
    simp only [Lib.parseIntB]
    rw [if_pos (by decide)]
    unfold Lib.parseUintB
    rw [if_neg (decDigits_ne _), e]
    simp only
    rw [if_neg (by simp), if_neg (by simp; omega), if_pos (by decide)]
    congr 1; omega
  · rename_i hn
    have e := puM_dec (2 ^ 64 - 1) (by decide) n.toNat (by omega)
    obtain ⟨c, r, ec, hc⟩ := decDigits_cons n.toNat
    have h2 := (digit_ne c hc).1
    rw [ec] at e ⊢
    have c1 : ¬ (c.toNat = 43 ∨ c.toNat = 45) := by
      simp [isDigit, UInt8.le_iff_toNat_le] at hc; omega
    simp only [Lib.parseIntB]
    rw [if_neg c1]
    unfold Lib.parseUintB
    rw [if_neg (by simp), e]
    have c2 : ¬ c.toNat = 45 := by omega
    simp only
    rw [if_neg (by simp; omega), if_neg (by simp [c2]), if_neg c2]
    congr 1; omega

theorem run_app (u r : List UInt8) (hu : ∀ c ∈ u, isPart c = true) (hr : Delim r) : runLen (u ++ r) = u.length := by
  unfold runLen
  rw [List.takeWhile_append_of_pos hu]
  cases r with
  | nil => simp
  | cons c r =>
    have := hr c r rfl
    have hc : isPart c = false := by
      cases h : isPart c with
      | false => rfl
      | true => rw [isW_part h] at this; simp at this
    simp [hc]
theorem tok_end : tokT [] = (0, 0) := rfl
theorem tok_word (c : UInt8) (u r : List UInt8) (hc : isLetter c = true) (hu : ∀ d ∈ c :: u, isPart d = true) (hr : Delim r) : tokT ((c :: u) ++ r) = (1, (c :: u).length) := by
  unfold tokT
  rw [if_neg (by simp), if_pos (by exact hc), run_app _ _ hu hr]
theorem dec_zero (n : Nat) (r : List UInt8) (h : Lib.decDigits n = 48 :: r) : r = [] := by
  have key : ∀ n, 0 < n → ∀ r, Lib.decDigits n ≠ 48 :: r := by
    intro n
    induction n using Nat.strongRecOn with
    | ind n ih =>
      intro hn r e
      rw [Lib.decDigits] at e
      split at e
      · rename_i h
        have := congrArg UInt8.toNat (List.cons.inj e).1
        rw [digit_of n h] at this
        simp at this; omega
      · rename_i h
        cases hd : Lib.decDigits (n / 10) with
        | nil => exact decDigits_ne _ hd
        | cons c q =>
          rw [hd] at e
          have := (List.cons.inj e).1
          subst this
          exact ih (n / 10) (by omega) (by omega) q hd
  by_cases hn : 0 < n
  · exact absurd h (key n hn r)
  · have : n = 0 := by omega
    subst this
    rw [Lib.decDigits] at h
    split at h
    · exact (List.cons.inj h).2.symm
    · omega
theorem digit_part {c : UInt8} (h : isDigit c = true) : isPart c = true := by simp [isPart, h]
theorem tok_dec (n : Nat) (r : List UInt8) (hr : Delim r) : digitsT (Lib.decDigits n ++ r) = (2, (Lib.decDigits n).length) := by
  have h1 := run_app (Lib.decDigits n) r (fun c hc => digit_part (decDigits_digit n c hc)) hr
  unfold digitsT
  rw [h1]
  obtain ⟨c, q, e, hc⟩ := decDigits_cons n
  rw [if_neg ?_, if_pos ?_]
  · simp only [List.take_left', List.all_eq_true]
    intro c hc
    exact decDigits_digit n c (by simpa using hc)
  · rintro ⟨h2, h3⟩
    rw [e] at h2
    simp at h2
    subst h2
    rw [e, dec_zero n q e] at h3
    simp at h3
theorem tok_num (n : Int) (r : List UInt8) (hr : Delim r) : tokT (Lib.itoa n ++ r) = (2, (Lib.itoa n).length) := by
  unfold Lib.itoa
  split
  · rename_i hn
    obtain ⟨c, q, e, hc⟩ := decDigits_cons n.natAbs
    unfold tokT
    rw [if_neg (by simp), if_neg (by show ¬ isLetter 45 = true; decide), if_neg (by show ¬ isDigit 45 = true; decide), if_pos (by show (45 : UInt8).toNat = 45; decide)]
    unfold negT
    have hb : byteAt ((45 :: Lib.decDigits n.natAbs) ++ r) 1 = c := by rw [e]; rfl
    rw [hb, if_neg ?_]
    · show ((digitsT (Lib.decDigits n.natAbs ++ r)).1, (digitsT (Lib.decDigits n.natAbs ++ r)).2 + 1) = _
      rw [tok_dec _ r hr]; rfl
    · have hd := hc
      simp [isDigit, UInt8.le_iff_toNat_le] at hd
      have h0 : c ≠ 48 := by
        intro q0
        subst q0
        have := dec_zero _ q e
        subst this
        have h2 := decDigits_inj n.natAbs 0 (by rw [e, Lib.decDigits]; rfl)
        omega
      have h0' : c.toNat ≠ 48 := fun q => h0 (UInt8.toNat_inj.1 q)
      rw [e]
      simp
      omega
  · obtain ⟨c, q, e, hc⟩ := decDigits_cons n.toNat
    have hb : byteAt (Lib.decDigits n.toNat ++ r) 0 = c := by rw [e]; rfl
    unfold tokT
    rw [hb, if_neg (by rw [e]; simp), if_neg (by simp [(digit_ne c hc).2]), if_pos hc, tok_dec _ r hr]
theorem q_app : ∀ (t r : List UInt8) (i : Nat), (∀ c ∈ t, okText c = true) → qScan (t ++ 34 :: r) i = (3, i + t.length + 1)
  | [], r, i, _ => by simp [qScan]
  | c :: t, r, i, h => by
    have hc := h c (by simp)
    have h34 : (c == 34) = false := by
      cases q : c == 34 with
      | false => rfl
      | true => rw [beq_iff_eq] at q; subst q; exact absurd hc (by decide)
    simp only [List.cons_append, qScan, h34, hc]
    rw [q_app t r (i + 1) (fun d hd => h d (by simp [hd]))]
    simp; omega
theorem tok_text (t r : List UInt8) (h : ∀ c ∈ t, okText c = true) : tokT ((34 :: (t ++ [34])) ++ r) = (3, (34 :: (t ++ [34])).length) := by
  unfold tokT
  rw [if_neg (by simp), if_neg (by show ¬ isLetter 34 = true; decide), if_neg (by show ¬ isDigit 34 = true; decide), if_neg (by show ¬ (34 : UInt8).toNat = 45; decide), if_pos (by show (34 : UInt8).toNat = 34; decide)]
  have e : ((34 :: (t ++ [34])) ++ r).drop 1 = t ++ 34 :: r := by simp
  rw [e, q_app t r 1 h]
  simp; omega
/-- a sign: one of the reader's -/
def Sgn (u : List UInt8) : Prop := u = [123] ∨ u = [125] ∨ u = [91] ∨ u = [93] ∨ u = [44] ∨ u = [58] ∨ u = [60, 60] ∨ u = [62, 62]
theorem tok_sign (u r : List UInt8) (h : Sgn u) : tokT (u ++ r) = (4, u.length) := by
  rcases h with rfl | rfl | rfl | rfl | rfl | rfl | rfl | rfl
  all_goals rfl
theorem sgn_head {u : List UInt8} (h : Sgn u) : ∃ c q, u = c :: q ∧ isBlank c = false ∧ isW c = false := by
  rcases h with rfl | rfl | rfl | rfl | rfl | rfl | rfl | rfl
  all_goals exact ⟨_, _, rfl, by decide, by decide⟩
theorem sgn_delim {u : List UInt8} (h : Sgn u) (r : List UInt8) : Delim (u ++ r) := by
  obtain ⟨c, q, rfl, _, h2⟩ := sgn_head h
  exact delim_cons h2

/-- where the reader stands when it goes on from p -/
def pos (T : List UInt8) (p : Nat) (hv : Bool) : St := advP T ⟨0, p, 0, hv⟩
theorem adv_pos (T : List UInt8) (s : St) : advP T s = pos T s.en s.hv := rfl
theorem pos_blank (T pre l : List UInt8) (hv : Bool) (h : T = pre ++ 32 :: l) : pos T pre.length hv = pos T (pre.length + 1) hv := by
  have e1 : T.drop pre.length = 32 :: l := by rw [h]; simp
  have e2 : T.drop (pre.length + 1) = l := by rw [h]; simp
  have b : blankLen (32 :: l) = blankLen l + 1 := by
    unfold blankLen
    rw [List.takeWhile_cons, if_pos (by decide)]; rfl
  simp only [pos, advP, e1, e2, b]
  have e3 : pre.length + (blankLen l + 1) = pre.length + 1 + blankLen l := by omega
  rw [e3]
theorem pos_tok (T pre u r : List UInt8) (k : Nat) (hv : Bool) (h : T = pre ++ (u ++ r)) (hb : ∃ c q, u = c :: q ∧ isBlank c = false) (ht : tokT (u ++ r) = (k, u.length)) :
    pos T pre.length hv = ⟨pre.length, pre.length + u.length, k, hv⟩ ∧ pieceP T ⟨pre.length, pre.length + u.length, k, hv⟩ = u := by
  obtain ⟨c, q, hu, hc⟩ := hb
  have e1 : T.drop pre.length = u ++ r := by rw [h]; simp
  have b : blankLen (u ++ r) = 0 := by
    rw [hu]; unfold blankLen
    rw [List.cons_append, List.takeWhile_cons, if_neg (by simp [hc])]; rfl
  constructor
  · simp only [pos, advP, e1, b, Nat.add_zero, ht]
  · simp only [pieceP]
    rw [List.drop_take, e1]
    have : pre.length + u.length - pre.length = u.length := by omega
    rw [this]; simp
end Go.Proofs.YtbogejmmkohbkaaGreatDoor.Sx

namespace Go.Proofs.YtbogejmmkohbkaaGreatDoor.Sx

/-- at its text the reader finds it, and stands behind it -/
def Reads {β : Type} (T : List UInt8) (item : St → Except (Nat × Nat) (β × St)) (t : List UInt8) (x : β) : Prop :=
  ∀ pre r hv, T = pre ++ (t ++ r) → Delim r → item (pos T pre.length hv) = .ok (x, pos T (pre.length + t.length) hv)

theorem isP_yes (T pre u r : List UInt8) (hv : Bool) (h : T = pre ++ (u ++ r)) (hs : Sgn u) : isP T (pos T pre.length hv) u = true ∧ advP T (pos T pre.length hv) = pos T (pre.length + u.length) hv := by
  obtain ⟨c, q, e, hc, _⟩ := sgn_head hs
  obtain ⟨h1, h2⟩ := pos_tok T pre u r 4 hv h ⟨c, q, e, hc⟩ (tok_sign u r hs)
  rw [adv_pos, h1]
  refine ⟨?_, rfl⟩
  unfold isP
  rw [h2]
  simp
theorem isP_no (T pre u v r : List UInt8) (hv : Bool) (h : T = pre ++ (u ++ r)) (hs : Sgn u) (hn : u ≠ v) : isP T (pos T pre.length hv) v = false := by
  obtain ⟨c, q, e, hc, _⟩ := sgn_head hs
  obtain ⟨h1, h2⟩ := pos_tok T pre u r 4 hv h ⟨c, q, e, hc⟩ (tok_sign u r hs)
  unfold isP
  rw [h1, h2]
  simp [hn]
theorem isP_first (T pre r v : List UInt8) (c d : UInt8) (hv : Bool) (h : T = pre ++ c :: r) (hc : isBlank c = false) (hn : c ≠ d) : isP T (pos T pre.length hv) (d :: v) = false := by
  have e1 : T.drop pre.length = c :: r := by rw [h]; simp
  have b : blankLen (c :: r) = 0 := by
    unfold blankLen
    rw [List.takeWhile_cons, if_neg (by simp [hc])]; rfl
  have ep : pieceP T (pos T pre.length hv) = (c :: r).take (tokT (c :: r)).2 := by
    simp only [pos, advP, pieceP, e1, b, Nat.add_zero]
    rw [List.drop_take, e1]
    congr 1; omega
  unfold isP
  rw [ep]
  cases hk : (tokT (c :: r)).2 with
  | zero => simp
  | succ k => simp [hn]

theorem jT_delim (cl : List UInt8) (hs : Sgn cl) (r : List UInt8) (l : List (List UInt8)) : Delim (jT cl l ++ r) := by
  cases l with
  | nil => exact sgn_delim hs r
  | cons a l => exact delim_cons (by decide)
theorem listP_reads {β : Type} {T cl : List UInt8} {item : St → Except (Nat × Nat) (β × St)} {t : β → List UInt8} (hs : Sgn cl) (h44 : [44] ≠ cl) :
    ∀ (l : List β) (x : β) (f : Nat), l.length < f → (∀ y ∈ x :: l, Reads T item (t y) y) → ∀ pre r hv, T = pre ++ (t x ++ jT cl (l.map t) ++ r) →
      listP T cl item f (pos T pre.length hv) = .ok (x :: l, pos T (pre.length + (t x ++ jT cl (l.map t)).length) hv)
  | [], x, f + 1, _, H, pre, r, hv, hT => by
    have hT' : T = pre ++ (t x ++ (cl ++ r)) := by rw [hT]; simp [jT]
    have h1 := H x (by simp) pre (cl ++ r) hv hT' (sgn_delim hs r)
    have hT2 : T = (pre ++ t x) ++ (cl ++ r) := by rw [hT']; simp
    obtain ⟨h2, h3⟩ := isP_yes T (pre ++ t x) cl r hv hT2 hs
    rw [List.length_append] at h2 h3
    simp only [listP, h1, h2, h3, if_pos]
    simp [jT, Nat.add_assoc]
  | y :: l, x, f + 1, hf, H, pre, r, hv, hT => by
    have hT' : T = pre ++ (t x ++ (44 :: 32 :: (t y ++ jT cl (l.map t) ++ r))) := by rw [hT]; simp [jT]
    have h1 := H x (by simp) pre _ hv hT' (delim_cons (by decide))
    have hT2 : T = (pre ++ t x) ++ ([44] ++ (32 :: (t y ++ jT cl (l.map t) ++ r))) := by rw [hT']; simp
    obtain ⟨h2, h3⟩ := isP_yes T (pre ++ t x) [44] _ hv hT2 (by simp [Sgn])
    have h4 := isP_no T (pre ++ t x) [44] cl _ hv hT2 (by simp [Sgn]) h44
    have hT3 : T = (pre ++ t x ++ [44]) ++ 32 :: (t y ++ jT cl (l.map t) ++ r) := by rw [hT2]; simp
    have h5 := pos_blank T _ _ hv hT3
    have hT4 : T = (pre ++ t x ++ [44, 32]) ++ (t y ++ jT cl (l.map t) ++ r) := by rw [hT3]; simp
    have h6 := listP_reads hs h44 l y f (by simp at hf; omega) (fun z hz => H z (by simp [hz])) (pre ++ t x ++ [44, 32]) r hv hT4
    simp only [List.length_append, List.length_cons, List.length_nil] at h2 h3 h4 h5 h6
    rw [h5] at h3
    simp only [listP, h1, h2, h3, h4, if_pos, h6, Bool.false_eq_true, if_neg, not_false_eq_true]
    simp only [List.map_cons, jT, List.length_append, List.length_cons]
    congr 3; omega
theorem valuesP_reads {β : Type} {T cl : List UInt8} {item : St → Except (Nat × Nat) (β × St)} {t : β → List UInt8} (hs : Sgn cl) (h44 : [44] ≠ cl) (l : List β)
    (H : ∀ y ∈ l, Reads T item (t y) y) (hh : ∀ y ∈ l, ∃ c q, t y = c :: q ∧ isBlank c = false ∧ cl.head? ≠ some c) (pre r : List UInt8) (hv : Bool) (hT : T = pre ++ (jL cl (l.map t) ++ r)) (hl : l.length ≤ T.length) :
    valuesP T cl item (pos T pre.length hv) = .ok (l, pos T (pre.length + (jL cl (l.map t)).length) hv) := by
  unfold valuesP
  cases l with
  | nil =>
    obtain ⟨h1, h2⟩ := isP_yes T pre cl r hv hT hs
    rw [if_pos h1, h2]; rfl
  | cons x l =>
    have hT' : T = pre ++ (t x ++ jT cl (l.map t) ++ r) := hT
    obtain ⟨c, q, e, hb, hc⟩ := hh x (by simp)
    obtain ⟨d, v, e2, _, _⟩ := sgn_head hs
    rw [e2] at hc
    have h1 := isP_first T pre (q ++ jT cl (l.map t) ++ r) v c d hv (by rw [hT', e]; simp) hb (fun q => hc (by simp [q]))
    rw [← e2] at h1
    rw [if_neg (by simp [h1]), listP_reads hs h44 l x (T.length + 1) (by simp at hl; omega) H pre r hv hT']
    rfl
theorem pairP_reads {β : Type} {T : List UInt8} {item : St → Except (Nat × Nat) (β × St)} {t : β → List UInt8} (p : β × β) (h1 : Reads T item (t p.1) p.1) (h2 : Reads T item (t p.2) p.2) : Reads T (pairP T item) (t p.1 ++ 58 :: 32 :: t p.2) p := by
  intro pre r hv hT hr
  have hT1 : T = pre ++ (t p.1 ++ (58 :: 32 :: (t p.2 ++ r))) := by rw [hT]; simp
  have a1 := h1 pre _ hv hT1 (delim_cons (by decide))
  have hT2 : T = (pre ++ t p.1) ++ ([58] ++ (32 :: (t p.2 ++ r))) := by rw [hT1]; simp
  obtain ⟨a2, a3⟩ := isP_yes T _ [58] _ hv hT2 (by simp [Sgn])
  have hT3 : T = (pre ++ t p.1 ++ [58]) ++ 32 :: (t p.2 ++ r) := by rw [hT2]; simp
  have a4 := pos_blank T _ _ hv hT3
  have hT4 : T = (pre ++ t p.1 ++ [58, 32]) ++ (t p.2 ++ r) := by rw [hT3]; simp
  have a5 := h2 _ r hv hT4 hr
  simp only [List.length_append, List.length_cons, List.length_nil] at a2 a3 a4 a5
  rw [a4] at a3
  simp only [pairP, a1, a2, a3, if_pos, a5]
  simp [Nat.add_assoc, Nat.add_comm, Nat.add_left_comm]

theorem normA_id {α : Type} {c : α → α → Int} : ∀ (l : List α), Asc c l → normA c l = l
  | [], _ => rfl
  | x :: l, h => by
    obtain ⟨h1, h2⟩ := List.pairwise_cons.1 h
    show insA c x (normA c l) = _
    rw [normA_id l h2]
    cases l with
    | nil => rfl
    | cons y l => simp only [insA]; rw [if_pos (h1 y (by simp))]
theorem normP_id {α : Type} {c : α → α → Int} : ∀ (l : List (α × α)), Asc c (l.map Prod.fst) → normP c l = l
  | [], _ => rfl
  | x :: l, h => by
    obtain ⟨h1, h2⟩ := List.pairwise_cons.1 h
    show insP c x (normP c l) = _
    rw [normP_id l h2]
    cases l with
    | nil => rfl
    | cons y l => simp only [insP]; rw [if_pos (h1 y.1 (by simp))]

/-- no brackets where there is no room for them -/
def Rd : (d : Nat) → AV (d + 1) → Prop
  | 0, a => Node.kind a ≠ 5 ∧ Node.kind a ≠ 6
  | d + 1, a => (∀ x ∈ Node.keys a, Rd d x) ∧ ∀ x ∈ Node.vals a, Rd d x

theorem keys_seq (m : Nat) (ks : List (AV (m + 1))) (hk : ∀ x ∈ ks, WF (m + 1) x) (h : counts (numOf (m + 1)) ks = true) : ks = seqKeys m ks.length := by
  apply List.ext_getElem?
  intro i
  by_cases hi : i < ks.length
  · rw [seqKeys_at m _ i hi]
    have hx : ks[i]? = some ks[i] := List.getElem?_eq_getElem hi
    rw [hx]
    have e := countsFrom_at (numOf (m + 1)) 1 ks i ks[i] hx h
    have w1 := hk ks[i] (List.getElem_mem hi)
    congr 1
    refine num_inj (m + 1) _ _ ((1 + i : Nat) : Int) w1 ?_ e ?_
    · obtain ⟨j, hj⟩ : ∃ j : Int, j = (i : Int) + 1 := ⟨_, rfl⟩
      have hw := w1
      rcases hw with q | ⟨b, q⟩ | ⟨n, q, h0, h1⟩ | ⟨l, q, _⟩ | ⟨l, q, _⟩ | ⟨es, q, _⟩ | ⟨ks', vs, q, _⟩
      all_goals rw [q] at e
      · simp [numOf, mkNil] at e
      · simp [numOf, mkBool] at e
      · simp only [numOf, mkInt, if_pos, Option.some.injEq] at e
        refine .inr (.inr (.inl ⟨(i : Int) + 1, rfl, by omega, by omega⟩))
      · simp [numOf, mkText] at e
      · simp [numOf, mkAtom] at e
      · simp [numOf, mkSet] at e
      · simp [numOf, mkFn] at e
    · simp only [numOf, intAV, mkInt, if_pos]; congr 1; omega
  · rw [List.getElem?_eq_none (by omega), List.getElem?_eq_none (by rw [seqKeys_len]; omega)]

theorem jP_zip : ∀ (ks vs : List (List UInt8)), ks.length = vs.length → jQ ks vs = jT [93] ((ks.zip vs).map fun p => p.1 ++ 58 :: 32 :: p.2)
  | [], [], _ => rfl
  | k :: ks, v :: vs, h => by
    simp only [List.zip_cons_cons, List.map_cons, jQ, jT, jP_zip ks vs (by simpa using h)]
    simp
theorem jL_len2 (cl : List UInt8) (hc : 0 < cl.length) : ∀ (l : List (List UInt8)), l.length < (jT cl l).length ∧ l.length ≤ (jL cl l).length
  | [] => by simp [jT]; omega
  | a :: l => by have := (jL_len2 cl hc l).1; simp [jT, jL]; omega

theorem head_word {n : Nat} {a : AV (n + 1)} (h : WF (n + 1) a) : ∃ c q, sh (n + 1) a = c :: q ∧ isBlank c = false ∧ c ≠ 125 ∧ c ≠ 62 := by
  obtain ⟨d, r, e, hf⟩ := sh_head (sh n) (numOf n) (WF n) (cmpV n) (wt n) h
  refine ⟨d, r, e, ?_⟩
  have key : isBlank d = true ∨ d = 125 ∨ d = 62 → False := by
    intro hd
    unfold first at hf
    have hd' : d = 32 ∨ d = 9 ∨ d = 10 ∨ d = 125 ∨ d = 62 := by
      simp only [isBlank, Bool.or_eq_true, beq_iff_eq] at hd
      rcases hd with ((h | h) | h) | h | h <;> simp [h]
    repeat' split at hf
    all_goals (rcases hd' with rfl | rfl | rfl | rfl | rfl <;> revert hf <;> decide)
  refine ⟨?_, fun q => key (.inr (.inl q)), fun q => key (.inr (.inr q))⟩
  cases q : isBlank d with
  | false => rfl
  | true => exact (key (.inl q)).elim

theorem pos_at (T pre u r : List UInt8) (k : Nat) (hv : Bool) (h : T = pre ++ (u ++ r)) (hb : ∃ c q, u = c :: q ∧ isBlank c = false) (ht : tokT (u ++ r) = (k, u.length)) :
    (pos T pre.length hv).cl = k ∧ pieceP T (pos T pre.length hv) = u ∧ advP T (pos T pre.length hv) = pos T (pre.length + u.length) hv := by
  obtain ⟨h1, h2⟩ := pos_tok T pre u r k hv h hb ht
  rw [adv_pos, h1]
  exact ⟨rfl, h2, rfl⟩

theorem letter_blank {c : UInt8} (h : isLetter c = true) : isBlank c = false := by
  cases q : isBlank c with
  | false => rfl
  | true =>
    simp only [isBlank, Bool.or_eq_true, beq_iff_eq] at q
    rcases q with (rfl | rfl) | rfl <;> revert h <;> decide
theorem W_blank {c : UInt8} (h : isW c = true) : isBlank c = false := by
  cases q : isBlank c with
  | false => rfl
  | true =>
    simp only [isBlank, Bool.or_eq_true, beq_iff_eq] at q
    rcases q with (rfl | rfl) | rfl <;> revert h <;> decide

theorem leaf_word {m : Nat} {T : List UInt8} {br : St → Except (Nat × Nat) (AV (m + 1) × St)} (c : UInt8) (u : List UInt8) (hc : isLetter c = true) (hu : ∀ d ∈ c :: u, isPart d = true) (pre r : List UInt8) (hv : Bool) (hT : T = pre ++ ((c :: u) ++ r)) (hr : Delim r) :
    leafP T br (pos T pre.length hv) =
      (if c :: u = nilT then .ok ((mkNil : Node (AV m)), pos T (pre.length + (c :: u).length) hv)
      else if c :: u = trueT then .ok ((mkBool true : Node (AV m)), pos T (pre.length + (c :: u).length) hv)
      else if c :: u = falseT then .ok ((mkBool false : Node (AV m)), pos T (pre.length + (c :: u).length) hv)
      else if isReserved (c :: u) then .error (1, (pos T pre.length hv).at')
      else if 16 < (c :: u).length then .error (5, (pos T pre.length hv).at')
      else .ok ((mkAtom (c :: u) : Node (AV m)), pos T (pre.length + (c :: u).length) hv)) := by
  obtain ⟨h1, h2, h3⟩ := pos_at T pre (c :: u) r 1 hv hT ⟨c, u, rfl, letter_blank hc⟩ (tok_word c u r hc hu hr)
  unfold leafP
  rw [if_pos h1, h2, h3]

theorem leaf_reads {m : Nat} {T : List UInt8} {br : St → Except (Nat × Nat) (AV (m + 1) × St)} (a : AV (m + 1)) (hw : WF (m + 1) a)
    (hb : Node.kind a = 5 ∨ Node.kind a = 6 → Reads T br (sh (m + 1) a) a) : Reads T (leafP T br) (sh (m + 1) a) a := by
  intro pre r hv hT hr
  rcases hw with rfl | ⟨b, rfl⟩ | ⟨n, rfl, h0, h1⟩ | ⟨l, rfl, h⟩ | ⟨l, rfl, h⟩ | ⟨es, rfl, hh⟩ | ⟨ks, vs, rfl, hh⟩
  · exact leaf_word 110 [105, 108] (by decide) (by decide) pre r hv hT hr
  · cases b
    · exact leaf_word 102 [97, 108, 115, 101] (by decide) (by decide) pre r hv hT hr
    · exact leaf_word 116 [114, 117, 101] (by decide) (by decide) pre r hv hT hr
  · have hT' : T = pre ++ (Lib.itoa n ++ r) := hT
    obtain ⟨c, q, e, _, hc⟩ := itoa_head n
    have hcb : isBlank c = false := by
      rcases hc with hc | rfl
      · exact W_blank (isW_digit hc)
      · decide
    obtain ⟨h1', h2, h3⟩ := pos_at T pre (Lib.itoa n) r 2 hv hT' ⟨c, q, e, hcb⟩ (tok_num n r hr)
    unfold leafP
    rw [if_neg (by omega), if_pos h1', h2, h3, parse_itoa n h0 h1]
    rfl
  · have hT' : T = pre ++ ((34 :: (l ++ [34])) ++ r) := hT
    obtain ⟨h1', h2, h3⟩ := pos_at T pre (34 :: (l ++ [34])) r 3 hv hT' ⟨34, _, rfl, by decide⟩ (tok_text l r h)
    unfold leafP
    rw [if_neg (by omega), if_neg (by omega), if_pos h1', h2, h3]
    have e : ((34 :: (l ++ [34])).take ((34 :: (l ++ [34])).length - 1)).drop 1 = l := by
      simp
    rw [e]
    rfl
  · obtain ⟨c, u, e, hc⟩ := h.head
    subst e
    rw [leaf_word c u hc h.all pre r hv hT hr]
    have n1 : c :: u ≠ nilT := fun q => by have := h.free; rw [q, nil_res] at this; simp at this
    have n2 : c :: u ≠ trueT := fun q => by have := h.free; rw [q, true_res] at this; simp at this
    have n3 : c :: u ≠ falseT := fun q => by have := h.free; rw [q, false_res] at this; simp at this
    rw [if_neg n1, if_neg n2, if_neg n3, if_neg (by simp [h.free]), if_neg (by have := h.len; omega)]
    rfl
  · have h1 := hb (.inl rfl) pre r hv hT hr
    have hT' : T = pre ++ ([123] ++ (jL [125] (es.map (sh m)) ++ r)) := hT
    obtain ⟨h1', _, _⟩ := pos_at T pre [123] _ 4 hv hT' ⟨123, _, rfl, by decide⟩ (tok_sign _ _ (by simp [Sgn]))
    unfold leafP
    rw [if_neg (by omega), if_neg (by omega), if_neg (by omega), if_pos h1', h1]
  · have h1 := hb (.inr rfl) pre r hv hT hr
    have h4 : (pos T pre.length hv).cl = 4 := by
      by_cases q : counts (numOf m) ks = true
      · have hT' : T = pre ++ ([60, 60] ++ (jL [62, 62] (vs.map (sh m)) ++ r)) := by rw [hT]; show pre ++ (shN (sh m) (numOf m) (mkFn ks vs) ++ r) = _; rw [sh_seq _ _ ks vs q]; rfl
        exact (pos_at T pre [60, 60] _ 4 hv hT' ⟨60, _, rfl, by decide⟩ (tok_sign _ _ (by simp [Sgn]))).1
      · have hT' : T = pre ++ ([91] ++ (jP (ks.map (sh m)) (vs.map (sh m)) ++ r)) := by rw [hT]; show pre ++ (shN (sh m) (numOf m) (mkFn ks vs) ++ r) = _; rw [sh_fn _ _ ks vs q]; rfl
        exact (pos_at T pre [91] _ 4 hv hT' ⟨91, _, rfl, by decide⟩ (tok_sign _ _ (by simp [Sgn]))).1
    unfold leafP
    rw [if_neg (by omega), if_neg (by omega), if_neg (by omega), if_pos h4, h1]
end Go.Proofs.YtbogejmmkohbkaaGreatDoor.Sx

namespace Go.Proofs.YtbogejmmkohbkaaGreatDoor.Sx

theorem mkS_same {α : Type} {wta : α → Nat} {es : List α} (h : 1 + wtL wta es ≤ 1024) : mkS wta es = mkSet es := by unfold mkS; rw [if_pos h]
theorem mkF_same {α : Type} {wta : α → Nat} {ks us : List α} (h : 1 + wtL wta ks + wtL wta us ≤ 1024) : mkF wta ks us = mkFn ks us := by unfold mkF; rw [if_pos h]
theorem hv_same (T : List UInt8) (p : Nat) (hv : Bool) : ({ pos T p hv with hv := (pos T p hv).hv || false } : St) = pos T p hv := by
  have : (pos T p hv).hv = hv := rfl
  rw [this, Bool.or_false]; rfl

theorem bracket_reads {m : Nat} {T : List UInt8} {item : St → Except (Nat × Nat) (AV (m + 1) × St)} (a : AV (m + 2)) (hw : WF (m + 2) a) (hk : Node.kind a = 5 ∨ Node.kind a = 6)
    (H : ∀ x, x ∈ Node.keys a ∨ x ∈ Node.vals a → WF (m + 1) x → Reads T item (sh (m + 1) x) x) : Reads T (bracketP T item) (sh (m + 2) a) a := by
  intro pre r hv hT hr
  rcases hw with rfl | ⟨b, rfl⟩ | ⟨n, rfl, h0, h1⟩ | ⟨l, rfl, h⟩ | ⟨l, rfl, h⟩ | ⟨es, rfl, h1, h2, h3⟩ | ⟨ks, vs, rfl, h1, h2, h3, h4, h5⟩
  · exact absurd hk (by simp [mkNil])
  · exact absurd hk (by simp [mkBool])
  · exact absurd hk (by simp [mkInt])
  · exact absurd hk (by simp [mkText])
  · exact absurd hk (by simp [mkAtom])
  · have hT' : T = pre ++ ([123] ++ (jL [125] (es.map (sh (m + 1))) ++ r)) := hT
    obtain ⟨_, g2, g3⟩ := pos_at T pre [123] _ 4 hv hT' ⟨123, _, rfl, by decide⟩ (tok_sign _ _ (by simp [Sgn]))
    have hT2 : T = (pre ++ [123]) ++ (jL [125] (es.map (sh (m + 1))) ++ r) := by rw [hT']; simp
    have hl : es.length ≤ T.length := by
      have := (jL_len2 [125] (by decide) (es.map (sh (m + 1)))).2
      rw [hT']; simp at this ⊢; omega
    have k := valuesP_reads (T := T) (item := item) (t := sh (m + 1)) (cl := [125]) (by simp [Sgn]) (by decide) es (fun y hy => H y (.inl hy) (h1 y hy)) (fun y hy => by
      obtain ⟨c, q, e, b1, b2, b3⟩ := head_word (h1 y hy)
      exact ⟨c, q, e, b1, by simp; exact fun q => b2 q.symm⟩) (pre ++ [123]) r hv hT2 hl
    unfold bracketP
    rw [if_pos g2, g3]
    rw [List.length_append] at k
    rw [k]
    simp only
    rw [normA_id es h2, mkS_same h3]
    have e : heavyP (mkSet es : Node (AV (m + 1))) = false := rfl
    rw [e, hv_same]
    show Except.ok (_, _) = Except.ok (_, _)
    congr 3
    show _ = pre.length + (123 :: jL [125] (es.map (sh (m + 1)))).length
    simp; omega
  · by_cases q : counts (numOf (m + 1)) ks = true
    · have es : sh (m + 2) (mkFn ks vs : Node (AV (m + 1))) = 60 :: 60 :: jL [62, 62] (vs.map (sh (m + 1))) := sh_seq _ _ ks vs q
      rw [es] at hT ⊢
      have hT' : T = pre ++ ([60, 60] ++ (jL [62, 62] (vs.map (sh (m + 1))) ++ r)) := hT
      obtain ⟨_, g2, g3⟩ := pos_at T pre [60, 60] _ 4 hv hT' ⟨60, _, rfl, by decide⟩ (tok_sign _ _ (by simp [Sgn]))
      have hT2 : T = (pre ++ [60, 60]) ++ (jL [62, 62] (vs.map (sh (m + 1))) ++ r) := by rw [hT']; simp
      have hl : vs.length ≤ T.length := by
        have := (jL_len2 [62, 62] (by decide) (vs.map (sh (m + 1)))).2
        rw [hT']; simp at this ⊢; omega
      have k := valuesP_reads (T := T) (item := item) (t := sh (m + 1)) (cl := [62, 62]) (by simp [Sgn]) (by decide) vs (fun y hy => H y (.inr hy) (h2 y hy)) (fun y hy => by
        obtain ⟨c, q, e, b1, b2, b3⟩ := head_word (h2 y hy)
        exact ⟨c, q, e, b1, by simp; exact fun q => b3 q.symm⟩) (pre ++ [60, 60]) r hv hT2 hl
      unfold bracketP
      rw [g2, if_neg (by decide), if_pos rfl, g3]
      rw [List.length_append] at k
      rw [k]
      simp only
      rw [← h4, ← keys_seq m ks h1 q, mkF_same h5]
      have e : heavyP (mkFn ks vs : Node (AV (m + 1))) = false := rfl
      rw [e, hv_same]
      show Except.ok (_, _) = Except.ok (_, _)
      congr 3
      simp; omega
    · have es : sh (m + 2) (mkFn ks vs : Node (AV (m + 1))) = 91 :: jP (ks.map (sh (m + 1))) (vs.map (sh (m + 1))) := sh_fn _ _ ks vs q
      rw [es] at hT ⊢
      have hT' : T = pre ++ ([91] ++ (jP (ks.map (sh (m + 1))) (vs.map (sh (m + 1))) ++ r)) := hT
      obtain ⟨_, g2, g3⟩ := pos_at T pre [91] _ 4 hv hT' ⟨91, _, rfl, by decide⟩ (tok_sign _ _ (by simp [Sgn]))
      cases ks with
      | nil => exact absurd rfl q
      | cons k0 ks =>
        cases vs with
        | nil => simp at h4
        | cons v0 vs =>
          have hlen : ks.length = vs.length := by simpa using h4
          let t : AV (m + 1) × AV (m + 1) → List UInt8 := fun p => sh (m + 1) p.1 ++ 58 :: 32 :: sh (m + 1) p.2
          have ej : jP ((k0 :: ks).map (sh (m + 1))) ((v0 :: vs).map (sh (m + 1))) = t (k0, v0) ++ jT [93] ((ks.zip vs).map t) := by
            simp only [List.map_cons, jP, jP_zip (ks.map (sh (m + 1))) (vs.map (sh (m + 1))) (by simpa using hlen), t]
            rw [List.zip_map, List.map_map]
            simp
            rfl
          have hT2 : T = (pre ++ [91]) ++ (t (k0, v0) ++ jT [93] ((ks.zip vs).map t) ++ r) := by rw [hT', ej]; simp
          have hl : (ks.zip vs).length < T.length + 1 := by
            have := (jL_len2 [93] (by decide) ((ks.zip vs).map t)).1
            rw [hT2]
            simp only [List.length_append, List.length_map] at this ⊢
            omega
          have hmem : ∀ p ∈ (k0, v0) :: ks.zip vs, p.1 ∈ k0 :: ks ∧ p.2 ∈ v0 :: vs := by
            intro p hp
            rcases List.mem_cons.1 hp with rfl | hp
            · exact ⟨by simp, by simp⟩
            · have := List.of_mem_zip (a := p.1) (b := p.2) hp
              exact ⟨by simp [this.1], by simp [this.2]⟩
          have k := listP_reads (T := T) (cl := [93]) (item := pairP T item) (t := t) (by simp [Sgn]) (by decide) (ks.zip vs) (k0, v0) (T.length + 1) hl (fun p hp =>
            pairP_reads p (H p.1 (.inl (hmem p hp).1) (h1 _ (hmem p hp).1)) (H p.2 (.inr (hmem p hp).2) (h2 _ (hmem p hp).2))) (pre ++ [91]) r hv hT2
          unfold bracketP
          rw [g2, if_neg (by decide), if_neg (by decide), if_pos rfl, g3]
          rw [List.length_append] at k
          rw [k]
          simp only
          have f1 : ((k0, v0) :: ks.zip vs).map Prod.fst = k0 :: ks := by simp [List.map_fst_zip (Nat.le_of_eq hlen)]
          have f2 : ((k0, v0) :: ks.zip vs).map Prod.snd = v0 :: vs := by simp [List.map_snd_zip (Nat.le_of_eq hlen.symm)]
          rw [normP_id _ (by rw [f1]; exact h3)]
          have ep : mkP (wt (m + 1)) ((k0, v0) :: ks.zip vs) = mkFn (k0 :: ks) (v0 :: vs) := by
            unfold mkP
            rw [f1, f2, if_pos (by omega), mkF_same h5]
          rw [ep]
          have e : heavyP (mkFn (k0 :: ks) (v0 :: vs) : Node (AV (m + 1))) = false := rfl
          rw [e, hv_same]
          show Except.ok (_, _) = Except.ok (_, _)
          congr 3
          rw [ej]
          simp; omega

theorem value_reads (T : List UInt8) : ∀ (d : Nat) (a : AV (d + 1)), WF (d + 1) a → Rd d a → Reads T (valueP T d) (sh (d + 1) a) a
  | 0, a, hw, hr => leaf_reads a hw fun h => h.elim (fun h => absurd h hr.1) (fun h => absurd h hr.2)
  | d + 1, a, hw, hr => leaf_reads a hw fun h => bracket_reads a hw h fun x hx hw' => value_reads T d x hw' (hx.elim (hr.1 x) (hr.2 x))

theorem rd_plain : ∀ (d : Nat) (a : AV (d + 1)), Node.keys a = [] → Node.vals a = [] → Node.kind a ≠ 5 → Node.kind a ≠ 6 → Rd d a
  | 0, _, _, _, h1, h2 => ⟨h1, h2⟩
  | d + 1, a, h1, h2, _, _ => ⟨by rw [h1]; simp, by rw [h2]; simp⟩

def GoodR {β : Type} (Q : β → Prop) (item : St → Except (Nat × Nat) (β × St)) : Prop := ∀ s x s', item s = .ok (x, s') → Q x
theorem listP_r {β : Type} {T closing : List UInt8} {Q : β → Prop} {item : St → Except (Nat × Nat) (β × St)} (H : GoodR Q item) : ∀ f, GoodR (fun l => ∀ x ∈ l, Q x) (listP T closing item f)
  | 0, s, l, s', h => by simp [listP] at h
  | f + 1, s, l, s', h => by
    simp only [listP] at h
    cases hi : item s with
    | error e => rw [hi] at h; simp at h
    | ok q =>
      obtain ⟨x, s1⟩ := q
      rw [hi] at h
      have hx := H s x s1 hi
      simp only at h
      split at h
      · simp only [Except.ok.injEq, Prod.mk.injEq] at h
        obtain ⟨rfl, _⟩ := h
        simpa using hx
      · split at h
        · cases hl : listP T closing item f (advP T s1) with
          | error e => rw [hl] at h; simp at h
          | ok q =>
            obtain ⟨l2, s2⟩ := q
            rw [hl] at h
            simp only [Except.ok.injEq, Prod.mk.injEq] at h
            obtain ⟨rfl, _⟩ := h
            have := listP_r H f _ _ _ hl
            intro y hy
            rcases List.mem_cons.1 hy with rfl | hy
            · exact hx
            · exact this y hy
        · simp at h
theorem valuesP_r {β : Type} {T closing : List UInt8} {Q : β → Prop} {item : St → Except (Nat × Nat) (β × St)} (H : GoodR Q item) : GoodR (fun l => ∀ x ∈ l, Q x) (valuesP T closing item) := by
  intro s l s' h
  unfold valuesP at h
  split at h
  · simp only [Except.ok.injEq, Prod.mk.injEq] at h
    obtain ⟨rfl, _⟩ := h
    simp
  · exact listP_r H _ s l s' h
theorem pairP_r {β : Type} {T : List UInt8} {Q : β → Prop} {item : St → Except (Nat × Nat) (β × St)} (H : GoodR Q item) : GoodR (fun p => Q p.1 ∧ Q p.2) (pairP T item) := by
  intro s p s' h
  unfold pairP at h
  cases hi : item s with
  | error e => rw [hi] at h; simp at h
  | ok q =>
    obtain ⟨x, s1⟩ := q
    rw [hi] at h
    simp only at h
    split at h
    · cases hl : item (advP T s1) with
      | error e => rw [hl] at h; simp at h
      | ok q =>
        obtain ⟨y, s2⟩ := q
        rw [hl] at h
        simp only [Except.ok.injEq, Prod.mk.injEq] at h
        obtain ⟨rfl, _⟩ := h
        exact ⟨H _ _ _ hi, H _ _ _ hl⟩
    · simp at h
theorem leafP_r {m : Nat} {T : List UInt8} {br : St → Except (Nat × Nat) (AV (m + 1) × St)} (H : GoodR (Rd m) br) : GoodR (Rd m) (leafP T br) := by
  intro s x s' h
  unfold leafP at h
  repeat' split at h
  all_goals first
    | (rw [← ok_fst h]; exact rd_plain m _ rfl rfl (by show ¬ 0 = 5; decide) (by show ¬ 0 = 6; decide))
    | (rw [← ok_fst h]; exact rd_plain m _ rfl rfl (by show ¬ 1 = 5; decide) (by show ¬ 1 = 6; decide))
    | (rw [← ok_fst h]; exact rd_plain m _ rfl rfl (by show ¬ 4 = 5; decide) (by show ¬ 4 = 6; decide))
    | (rw [← ok_fst h]; exact rd_plain m _ rfl rfl (by show ¬ 2 = 5; decide) (by show ¬ 2 = 6; decide))
    | (rw [← ok_fst h]; exact rd_plain m _ rfl rfl (by show ¬ 3 = 5; decide) (by show ¬ 3 = 6; decide))
    | (exact H s x s' h)
    | (simp at h; done)
theorem rd_set {m : Nat} {es : List (AV (m + 1))} (h : ∀ x ∈ es, Rd m x) : Rd (m + 1) (mkS (wt (m + 1)) es : Node (AV (m + 1))) := by
  unfold mkS
  split
  · exact ⟨h, by simp [mkSet]⟩
  · exact rd_plain (m + 1) _ rfl rfl (by show ¬ 0 = 5; decide) (by show ¬ 0 = 6; decide)
theorem rd_fn {m : Nat} {ks us : List (AV (m + 1))} (h : ∀ x ∈ ks, Rd m x) (k : ∀ x ∈ us, Rd m x) : Rd (m + 1) (mkF (wt (m + 1)) ks us : Node (AV (m + 1))) := by
  unfold mkF
  split
  · exact ⟨h, k⟩
  · exact rd_plain (m + 1) _ rfl rfl (by show ¬ 0 = 5; decide) (by show ¬ 0 = 6; decide)
theorem normP_mem {α : Type} (c : α → α → Int) (l : List (α × α)) : ∀ p ∈ normP c l, p ∈ l := by
  intro z hz
  rw [normP_normF] at hz
  induction l with
  | nil => simp [normF] at hz
  | cons x l ih =>
    rcases insF_mem x (normF _ l) z hz with q | q
    · simp [q]
    · exact List.mem_cons_of_mem _ (ih q)
theorem bracketP_r {m : Nat} {T : List UInt8} {item : St → Except (Nat × Nat) (AV (m + 1) × St)} (H : GoodR (Rd m) item) : GoodR (Rd (m + 1)) (bracketP T item) := by
  intro s x s' h
  unfold bracketP at h
  split at h
  · cases hl : valuesP T [125] item (advP T s) with
    | error e => rw [hl] at h; simp at h
    | ok q =>
      obtain ⟨l, s1⟩ := q
      rw [hl] at h
      rw [← ok_fst h]
      have hv := valuesP_r H _ _ _ hl
      exact rd_set (fun y hy => hv y ((normA_mem (fun a b e => (cmpV_eq (m + 1) a b).1 e) l y).1 hy))
  · split at h
    · cases hl : valuesP T [62, 62] item (advP T s) with
      | error e => rw [hl] at h; simp at h
      | ok q =>
        obtain ⟨l, s1⟩ := q
        rw [hl] at h
        rw [← ok_fst h]
        refine rd_fn ?_ (valuesP_r H _ _ _ hl)
        intro y hy
        obtain ⟨i, _, rfl⟩ := List.mem_map.1 hy
        exact rd_plain m _ rfl rfl (by show ¬ 2 = 5; decide) (by show ¬ 2 = 6; decide)
    · split at h
      · cases hl : listP T [93] (pairP T item) (T.length + 1) (advP T s) with
        | error e => rw [hl] at h; simp at h
        | ok q =>
          obtain ⟨l, s1⟩ := q
          rw [hl] at h
          rw [← ok_fst h]
          have hv := listP_r (pairP_r H) _ _ _ _ hl
          unfold mkP
          split
          · refine rd_fn ?_ ?_
            · intro y hy
              obtain ⟨p, hp, rfl⟩ := List.mem_map.1 hy
              exact (hv p (normP_mem _ l p hp)).1
            · intro y hy
              obtain ⟨p, hp, rfl⟩ := List.mem_map.1 hy
              exact (hv p (normP_mem _ l p hp)).2
          · exact rd_plain (m + 1) _ rfl rfl (by show ¬ 0 = 5; decide) (by show ¬ 0 = 6; decide)
      · simp at h
theorem valueP_r (T : List UInt8) : ∀ d, GoodR (Rd d) (valueP T d)
  | 0 => by
    refine leafP_r ?_
    intro s x s' h
    simp only at h
    split at h <;> simp at h
  | d + 1 => leafP_r (bracketP_r (valueP_r T d))
theorem readP_rd {T : List UInt8} {x : AV 25} (h : readP T = .ok x) : Rd 24 x := by
  unfold readP at h
  split at h
  · simp at h
  · cases hv : valueP T 24 (advP T ⟨0, 0, 0, false⟩) with
    | error e => rw [hv] at h; simp at h
    | ok q =>
      obtain ⟨v, s⟩ := q
      rw [hv] at h
      simp only at h
      split at h
      · simp at h
      · split at h
        · simp at h
        · simp only [Except.ok.injEq] at h
          subst h
          exact valueP_r T 24 _ _ _ hv

/-- what is written is read to the same -/
theorem back {x : AV 25} (hw : WF 25 x) (hr : Rd 24 x) (hl : (sh 25 x).length ≤ 4000) : readP (sh 25 x) = .ok x := by
  generalize hT : sh 25 x = T at hl
  have h := value_reads T 24 x hw hr [] [] false (by rw [← hT]; simp) delim_nil
  have e : advP T ⟨0, 0, 0, false⟩ = pos T ([] : List UInt8).length false := rfl
  unfold readP
  rw [if_neg (by omega), e, h]
  have hp : pos T (([] : List UInt8).length + (sh (24 + 1) x).length) false = ⟨T.length, T.length, 0, false⟩ := by
    have : (sh (24 + 1) x).length = T.length := by rw [← hT]
    rw [this]
    simp [pos, advP, blankLen, tok_end]
  rw [hp]
  rfl
theorem wt_pos (n : Nat) (a : AV (n + 1)) : 1 ≤ wt (n + 1) a := by
  show 1 ≤ wtN (wt n) a
  unfold wtN
  repeat' split
  all_goals omega
end Go.Proofs.YtbogejmmkohbkaaGreatDoor.Sx
