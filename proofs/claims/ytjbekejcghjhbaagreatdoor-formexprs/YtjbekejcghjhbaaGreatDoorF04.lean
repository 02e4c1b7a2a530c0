/- Plain: the tokens of a text, where expressions are read. Nothing of the program. -/
import Derived.Test.YtjbekejcghjhbaaGreatDoorF00
import Derived.Test.YtjbekejcghjhbaaGreatDoorF03
namespace Go.Proofs.YtjbekejcghjhbaaGreatDoor.Sx

/-- how many bytes stand ahead of the first token (r: a remark is going on) -/
def btw : Bool → List UInt8 → Nat
  | _, [] => 0
  | r, c :: l => if isBlank c || (c == 35 || r) then 1 + btw ((c == 35 || r) && !(c == 10)) l else 0
theorem btw_le : ∀ (r : Bool) (l : List UInt8), btw r l ≤ l.length
  | _, [] => Nat.le_refl _
  | r, c :: l => by
    rw [btw]; split
    · have := btw_le ((c == 35 || r) && !(c == 10)) l; simp; omega
    · simp

def signs2 : List (List UInt8) := [[61, 61], [58, 61], [47, 61], [60, 61], [62, 61], [60, 60], [62, 62], [46, 46], [45, 62], [43, 43]]
def signs1 : List UInt8 := [61, 60, 62, 43, 45, 42, 47, 37, 40, 41, 123, 125, 91, 93, 44, 58, 46, 39]
def signF (l : List UInt8) : Nat := if decide (1 < l.length) && signs2.contains (l.take 2) then 2 else if signs1.contains (byteAt l 0) then 1 else 0
/-- the class and the length of the token that a text begins with -/
def tokF (l : List UInt8) : Nat × Nat :=
  if l.length = 0 then (0, 0)
  else if isLetter (byteAt l 0) then (1, runLen l)
  else if isPart (byteAt l 0) then (if numB l then 2 else 5, runLen l)
  else if (byteAt l 0).toNat = 34 then qScan (l.drop 1) 1
  else if signF l = 0 then (5, 0) else (4, signF l)

theorem qScan_end : ∀ (l : List UInt8) (i : Nat), (qScan l i).2 ≤ i + l.length
  | [], i => by simp [qScan]
  | c :: r, i => by
    have := qScan_end r (i + 1)
    simp only [qScan, List.length_cons]
    repeat' split
    all_goals simp
    all_goals omega
theorem signF_le (l : List UInt8) (h : 0 < l.length) : signF l ≤ l.length := by
  unfold signF
  split
  · rename_i q; simp at q; omega
  · split <;> omega
theorem tokF_le (l : List UInt8) : (tokF l).2 ≤ l.length := by
  unfold tokF
  split
  · simp
  · rename_i h0
    repeat' split
    · exact runLen_le l
    · exact runLen_le l
    · exact runLen_le l
    · have := qScan_end (l.drop 1) 1; simp at this ⊢; omega
    · exact Nat.zero_le _
    · exact signF_le l (by omega)

/-- where the bytes end of so many tokens -/
def posF (T : List UInt8) : Nat → Nat
  | 0 => 0
  | i + 1 => posF T i + btw false (T.drop (posF T i)) + (tokF (T.drop (posF T i + btw false (T.drop (posF T i))))).2
def atF (T : List UInt8) (i : Nat) : Nat := posF T i + btw false (T.drop (posF T i))
def lenF (T : List UInt8) (i : Nat) : Nat := (tokF (T.drop (atF T i))).2
def clF (T : List UInt8) (i : Nat) : Nat := (tokF (T.drop (atF T i))).1
def txF (T : List UInt8) (i : Nat) : List UInt8 := (T.drop (atF T i)).take (lenF T i)
def tkF (T : List UInt8) (i : Nat) : Tk := ⟨clF T i, txF T i, atF T i⟩
theorem posF_succ (T : List UInt8) (i : Nat) : posF T (i + 1) = atF T i + lenF T i := rfl
theorem posF_le (T : List UInt8) : ∀ i, posF T i ≤ T.length
  | 0 => Nat.zero_le _
  | i + 1 => by
    have h := posF_le T i
    have h1 := btw_le false (T.drop (posF T i))
    have h2 := tokF_le (T.drop (posF T i + btw false (T.drop (posF T i))))
    rw [posF]
    simp at h1 h2; omega
theorem atF_le (T : List UInt8) (i : Nat) : posF T i ≤ atF T i ∧ atF T i ≤ T.length ∧ atF T i + lenF T i ≤ T.length := by
  have h := posF_le T i
  have h1 := btw_le false (T.drop (posF T i))
  have h2 := tokF_le (T.drop (atF T i))
  unfold lenF
  unfold atF at h2 ⊢
  simp at h1 h2; omega
theorem txF_length (T : List UInt8) (i : Nat) : (txF T i).length = lenF T i := by
  have := atF_le T i
  unfold txF; simp; omega

/-- what a class says of the bytes -/
theorem tokF_ok (l : List UInt8) (a : Nat) : TkOK ⟨(tokF l).1, l.take (tokF l).2, a⟩ := by
  cases l with
  | nil => exact ⟨fun c r h => by simp at h, .inl rfl, fun _ => rfl, fun h => by simp [tokF] at h, fun h => by simp [tokF] at h⟩
  | cons c l =>
    have hb : byteAt (c :: l) 0 = c := rfl
    have hh : ∀ (k : Nat) (c' : UInt8) (r : List UInt8), List.take k (c :: l) = c' :: r → c' = c := by
      intro k c' r h
      cases k with
      | zero => simp at h
      | succ k => simp at h; exact h.1.symm
    have q1 := qScan_cls l 1
    have q2 : ∀ (l : List UInt8) (i : Nat), (qScan l i).1 = 3 → i + 1 ≤ (qScan l i).2 := by
      intro l
      induction l with
      | nil => intro i h; simp [qScan] at h
      | cons c r ih =>
        intro i h
        simp only [qScan] at h ⊢
        repeat' split at h
        · rename_i e; rw [if_pos e]; exact Nat.le_refl _
        · rename_i e1 e2; rw [if_neg e1, if_pos e2]; have := ih (i + 1) h; omega
        · simp at h
    have q3 := qScan_end l 1
    have e : tokF (c :: l) = (if isLetter c then (1, runLen (c :: l)) else if isPart c then (if numB (c :: l) then 2 else 5, runLen (c :: l)) else if c.toNat = 34 then qScan l 1 else if signF (c :: l) = 0 then (5, 0) else (4, signF (c :: l))) := by
      unfold tokF; rw [if_neg (by simp), hb]; rfl
    rw [e]
    cases h1 : isLetter c with
    | true =>
      simp only [if_true]
      exact ⟨fun _ _ _ _ => rfl, .inr (.inl rfl), fun h => by simp at h, fun h => by simp at h, fun h => by simp at h⟩
    | false =>
      simp only [Bool.false_eq_true, if_false]
      cases h2 : isPart c with
      | true =>
        simp only [if_true]
        have hd : isDigit c = true ∨ c = 95 ∨ c = 34 := by
          simp only [isPart, h1, Bool.false_or, Bool.or_eq_true, beq_iff_eq] at h2
          rcases h2 with h2 | h2
          · exact .inl h2
          · exact .inr (.inl h2)
        refine ⟨fun c' r hc hl => ?_, ?_, fun h => ?_, fun _ c' r hc => ?_, fun h => ?_⟩
        · rw [hh _ _ _ hc, h1] at hl; simp at hl
        · show (if _ then 2 else 5) = 0 ∨ _; split <;> simp
        · exfalso; revert h; show (if _ then 2 else 5) = 0 → _; split <;> simp
        · rw [hh _ _ _ hc]; exact hd
        · exfalso; revert h; show (if _ then 2 else 5) = 3 → _; split <;> simp
      | false =>
        simp only [Bool.false_eq_true, if_false]
        by_cases h3 : c.toNat = 34
        · rw [if_pos h3]
          have h4 : c = 34 := by rw [← UInt8.toNat_inj]; exact h3
          refine ⟨fun c' r hc hl => ?_, ?_, fun h => ?_, fun _ c' r hc => ?_, fun h => ?_⟩
          · rw [hh _ _ _ hc, h1] at hl; simp at hl
          · rcases q1 with q | q
            · exact .inr (.inr (.inr (.inl q)))
            · exact .inr (.inr (.inr (.inr (.inr q))))
          · have h : (qScan l 1).1 = 0 := h
            omega
          · rw [hh _ _ _ hc]; exact .inr (.inr h4)
          · have := q2 l 1 h
            simp; omega
        · rw [if_neg h3]
          by_cases h4 : signF (c :: l) = 0
          · rw [if_pos h4]
            exact ⟨fun c' r hc => by simp at hc, by simp, fun h => by simp at h, fun _ c' r hc => by simp at hc, fun h => by simp at h⟩
          · rw [if_neg h4]
            refine ⟨fun c' r hc hl => ?_, by simp, fun h => by simp at h, fun h => by simp at h, fun h => by simp at h⟩
            rw [hh _ _ _ hc, h1] at hl; simp at hl
theorem tkF_ok (T : List UInt8) (i : Nat) : TkOK (tkF T i) := tokF_ok (T.drop (atF T i)) _

/-- a token that is one has bytes -/
theorem tokF_pos (l : List UInt8) (h : (tokF l).1 ≠ 0) (h5 : (tokF l).1 ≠ 5) : 0 < (tokF l).2 := by
  cases l with
  | nil => simp [tokF] at h
  | cons c l =>
    have hb : byteAt (c :: l) 0 = c := rfl
    have e : tokF (c :: l) = (if isLetter c then (1, runLen (c :: l)) else if isPart c then (if numB (c :: l) then 2 else 5, runLen (c :: l)) else if c.toNat = 34 then qScan l 1 else if signF (c :: l) = 0 then (5, 0) else (4, signF (c :: l))) := by
      unfold tokF; rw [if_neg (by simp), hb]; rfl
    have hp : isPart c = true → 0 < runLen (c :: l) := fun q => by simp [runLen, q]
    have hl : isLetter c = true → isPart c = true := fun q => by simp [isPart, q]
    have q4 : ∀ (l : List UInt8) (i : Nat), i ≤ (qScan l i).2 := by
      intro l
      induction l with
      | nil => intro i; simp [qScan]
      | cons c r ih =>
        intro i
        simp only [qScan]
        repeat' split
        · simp
        · have := ih (i + 1); omega
        · simp
    rw [e] at h5 ⊢
    split at h5
    · rename_i q; rw [if_pos q]; exact hp (hl q)
    · rename_i q; rw [if_neg q]
      split at h5
      · rename_i q; rw [if_pos q]; exact hp q
      · rename_i q; rw [if_neg q]
        split at h5
        · rename_i q; rw [if_pos q]; exact Nat.lt_of_lt_of_le Nat.zero_lt_one (q4 l 1)
        · rename_i q; rw [if_neg q]
          split at h5
          · simp at h5
          · rename_i q; rw [if_neg q]; exact Nat.pos_of_ne_zero q
/-- one comes that is the last -/
theorem last_exists (T : List UInt8) : ∃ N, N ≤ T.length ∧ (clF T N = 0 ∨ clF T N = 5) ∧ ∀ i, i < N → clF T i ≠ 0 ∧ clF T i ≠ 5 := by
  have key : ∀ k i, T.length - posF T i ≤ k → i ≤ posF T i → (∀ j, j < i → clF T j ≠ 0 ∧ clF T j ≠ 5) → ∃ N, N ≤ T.length ∧ (clF T N = 0 ∨ clF T N = 5) ∧ ∀ j, j < N → clF T j ≠ 0 ∧ clF T j ≠ 5 := by
    intro k
    induction k with
    | zero =>
      intro i hk hi hj
      have h := posF_le T i
      have h2 := atF_le T i
      refine ⟨i, by omega, .inl ?_, hj⟩
      unfold clF
      rw [List.drop_of_length_le (by omega)]; rfl
    | succ k ih =>
      intro i hk hi hj
      by_cases q : clF T i = 0 ∨ clF T i = 5
      · exact ⟨i, by have := posF_le T i; omega, q, hj⟩
      · have hp := tokF_pos (T.drop (atF T i)) (fun e => q (.inl e)) (fun e => q (.inr e))
        have h2 := atF_le T i
        have h3 := posF_succ T i
        have h4 : 0 < lenF T i := hp
        exact ih (i + 1) (by omega) (by omega) fun j hj' => by
          rcases Nat.lt_or_eq_of_le (Nat.le_of_lt_succ hj') with r | r
          · exact hj j r
          · subst r; exact ⟨fun e => q (.inl e), fun e => q (.inr e)⟩
  exact key T.length 0 (by omega) (Nat.le_refl _) (fun j h => absurd h (by omega))
theorem marks_cons : ∀ m ∈ marks, ∃ c r, m = c :: r ∧ isDigit c = false ∧ c ≠ 95 ∧ c ≠ 34 := by
  have h : marks.all (fun m => match m with | [] => false | c :: _ => !isDigit c && c != 95 && c != 34) = true := by decide
  intro m hm
  have := (List.all_eq_true.1 h) m hm
  cases m with
  | nil => simp at this
  | cons c r => simp at this; exact ⟨c, r, rfl, this.1.1, this.1.2, this.2⟩
/-- what stands in a mark's place is a word or a sign -/
theorem mark_cl {t : Tk} (h : TkOK t) {m : List UInt8} (hm : m ∈ marks) (e : t.tx = m) : t.cl = 1 ∨ t.cl = 4 := by
  obtain ⟨c, r, rfl, h1, h2, h3⟩ := marks_cons m hm
  rcases h.sort with q | q | q | q | q | q
  · rw [h.none q] at e; simp at e
  · exact .inl q
  · have := h.odd (.inl q) _ _ e; simp [h1, h2, h3] at this
  · have := h.odd (.inr (.inl q)) _ _ e; simp [h1, h2, h3] at this
  · exact .inr q
  · have := h.odd (.inr (.inr q)) _ _ e; simp [h1, h2, h3] at this
theorem last_of {T : List UInt8} {N : Nat} (h : clF T N = 0 ∨ clF T N = 5) : Last (tkF T) N :=
  ⟨h, fun m hm e => by have := mark_cl (tkF_ok T N) hm e; have : clF T N = 1 ∨ clF T N = 4 := this; omega⟩
/-- every text is read, in both ways to the same -/
theorem both_read (T : List UInt8) : ∃ f g r, refX (tkF T) f 0 0 0 = some r ∧ progX (tkF T) g 0 0 0 = some r := by
  obtain ⟨N, _, h, _⟩ := last_exists T
  obtain ⟨r, hr, _⟩ := refX_adv (last_of h) (N + 1) 0 0 0 (Nat.zero_le _) (by omega)
  exact ⟨_, _, r, hr, (ref_prog (tkF_ok T) (N + 1) 0 0 0).some hr⟩
end Go.Proofs.YtjbekejcghjhbaaGreatDoor.Sx

namespace Go.Proofs.YtjbekejcghjhbaaGreatDoor.Sx

theorem bX_fin {β γ : Type} {a : RX β} {k : β → Nat → RX γ} {y : γ} {l : Nat} (h : bX a k = some (.ok (y, l))) : ∃ x j, a = some (.ok (x, j)) ∧ k x j = some (.ok (y, l)) := by
  rcases a with _ | (e | ⟨x, j⟩)
  · simp [bX] at h
  · simp [bX] at h
  · exact ⟨x, j, rfl, h⟩
section
variable {K : Nat → Tk}
theorem needX_fin {γ : Type} {m : List UInt8} {i : Nat} {k : Nat → RX γ} {y : γ} {l : Nat} (h : needX K m i k = some (.ok (y, l))) : k (i + 1) = some (.ok (y, l)) := by
  unfold needX at h
  split at h
  · exact h
  · simp [errX] at h
theorem enterX_fin {γ : Type} {d i : Nat} {k : Nat → RX γ} {y : γ} {l : Nat} (h : enterX K d i k = some (.ok (y, l))) : k (i + 1) = some (.ok (y, l)) := by
  unfold enterX at h
  split at h
  · simp [errX] at h
  · exact h
theorem nameX_len {i : Nat} {n : List UInt8} {j : Nat} (h : nameX K i = some (.ok (n, j))) : j = i + 1 ∧ n.length ≤ 16 := by
  unfold nameX at h
  split at h
  · simp [errX] at h
  split at h
  · simp [errX] at h
  · rename_i q
    simp only [okX, Option.some.injEq, Except.ok.injEq, Prod.mk.injEq] at h
    exact ⟨h.2.symm, by rw [← h.1]; omega⟩
theorem okX_fin {β : Type} {x y : β} {i j : Nat} (h : okX x i = some (.ok (y, j))) : y = x ∧ j = i := by
  simp only [okX, Option.some.injEq, Except.ok.injEq, Prod.mk.injEq] at h
  exact ⟨h.1.symm, h.2.symm⟩

/-- how long the name is that it is as a key -/
def kl (x : PX) : Nat := match x.key with | some n => n.length | none => 0
/-- what was read is no longer than so many bytes a token -/
def CX (i : Nat) (r : RX PX) : Prop := ∀ x j, r = some (.ok (x, j)) → i < j ∧ x.tx.length + kl x + 10 ≤ (j - i) * 10000
def wP (x : PX) : Nat := x.tx.length + kl x + 10
def wPP (p : PX × PX) : Nat := p.1.tx.length + kl p.1 + p.2.tx.length + kl p.2 + 20

theorem listX_len {β : Type} (g : β → Nat) {cl : List UInt8} {item : Nat → RX β} (hi : ∀ i x j, item i = some (.ok (x, j)) → i < j ∧ g x ≤ (j - i) * 10000) :
    ∀ m acc i l j, listX K cl item m acc i = some (.ok (l, j)) → i < j ∧ (l.map g).sum + 10000 ≤ (acc.map g).sum + (j - i) * 10000
  | 0, _, _, _, _, h => by simp [listX] at h
  | m + 1, acc, i, l, j, h => by
    rw [listX] at h
    obtain ⟨x, k, h1, h2⟩ := bX_fin h
    have q := hi i x k h1
    split at h2
    · obtain ⟨rfl, rfl⟩ := okX_fin h2
      simp only [List.map_append, List.map_cons, List.map_nil, List.sum_append, List.sum_cons, List.sum_nil]
      omega
    · have h3 := listX_len g hi m _ _ l j (needX_fin h2)
      simp only [List.map_append, List.map_cons, List.map_nil, List.sum_append, List.sum_cons, List.sum_nil] at h3
      omega
theorem sepFrom_len {sep : Nat → List UInt8} (hs : ∀ i, (sep i).length ≤ 2) : ∀ (l : List PX) (i : Nat), (sepFrom sep i (l.map PX.tx)).length ≤ (l.map wP).sum
  | [], i => by simp [sepFrom]
  | a :: l, i => by
    have h1 := sepFrom_len hs l (i + 1)
    have h2 := hs i
    simp only [List.map_cons, sepFrom, List.length_append, List.sum_cons, wP] at h1 ⊢
    omega
theorem commaS_len (i : Nat) : (commaS i).length ≤ 2 := by unfold commaS; split <;> simp
theorem pairS_len (i : Nat) : (pairS i).length ≤ 2 := by unfold pairS; split <;> (try split) <;> simp
theorem commasX_len (l : List PX) : (commasX l).length ≤ (l.map wP).sum := sepFrom_len commaS_len l 0
theorem flat_sum : ∀ l : List (PX × PX), ((l.flatMap fun p => [p.1, p.2]).map wP).sum = (l.map wPP).sum
  | [] => rfl
  | a :: l => by
    have := flat_sum l
    simp only [List.flatMap_cons, List.map_append, List.sum_append, List.map_cons, List.map_nil, List.sum_cons, List.sum_nil, wP, wPP] at this ⊢
    omega
theorem partX_len (x : PX) (n : Nat) : (partX x n).length ≤ x.tx.length + 2 := by unfold partX; split <;> simp

variable {self : Nat → Nat → Nat → RX PX} (hT : ∀ i, (K i).tx.length ≤ 4000) (hs : ∀ n d i, CX i (self n d i))
theorem pairX_len (hs : ∀ n d i, CX i (self n d i)) (d i : Nat) (p : PX × PX) (j : Nat) (h : pairX K self d i = some (.ok (p, j))) : i < j ∧ wPP p ≤ (j - i) * 10000 := by
  unfold pairX at h
  obtain ⟨a, j1, h1, h⟩ := bX_fin h
  have q1 := hs _ _ _ _ _ h1
  obtain ⟨b, j2, h2, h⟩ := bX_fin (needX_fin h)
  have q2 := hs _ _ _ _ _ h2
  obtain ⟨rfl, rfl⟩ := okX_fin h
  simp only [wPP]; omega
theorem dBind_len (op n : List UInt8) (a b : PX) : (dBind op n a b).tx.length ≤ op.length + n.length + a.tx.length + b.tx.length + 15 := by
  have := partX_len a 8
  unfold dBind
  split <;> simp only [boundT, List.length_append, List.length_cons, List.length_nil] <;> omega
theorem boundX_len (hs : ∀ n d i, CX i (self n d i)) (op : List UInt8) (ho : op.length ≤ 4000) (d i : Nat) (x : PX) (j : Nat) (h : boundX K self op d i = some (.ok (x, j))) : i < j ∧ x.tx.length + kl x + 10 ≤ (j - i) * 10000 := by
  unfold boundX at h
  obtain ⟨n, j1, h1, h⟩ := bX_fin h
  have q1 := nameX_len h1
  obtain ⟨a, j2, h2, h⟩ := bX_fin (needX_fin h)
  have q2 := hs _ _ _ _ _ h2
  obtain ⟨b, j3, h3, h⟩ := bX_fin (needX_fin h)
  have q3 := hs _ _ _ _ _ h3
  obtain ⟨rfl, rfl⟩ := okX_fin h
  have := dBind_len op n a b
  have hk : kl (dBind op n a b) = 0 := by unfold dBind; split <;> rfl
  omega
theorem bindingX_len (hT : ∀ i, (K i).tx.length ≤ 4000) (hs : ∀ n d i, CX i (self n d i)) (d i : Nat) : CX i (bindingX K self d i) := by
  intro x j h
  unfold bindingX at h
  have h := enterX_fin h
  split at h
  · unfold choiceX at h
    obtain ⟨a, j1, h1, h⟩ := bX_fin h
    have q1 := hs _ _ _ _ _ h1
    obtain ⟨b, j2, h2, h⟩ := bX_fin (needX_fin h)
    have q2 := hs _ _ _ _ _ h2
    obtain ⟨c, j3, h3, h⟩ := bX_fin (needX_fin h)
    have q3 := hs _ _ _ _ _ h3
    obtain ⟨rfl, rfl⟩ := okX_fin h
    simp only [dIf, kl, List.length_append, List.length_cons, List.length_nil]; omega
  split at h
  · unfold namingX at h
    obtain ⟨n, j1, h1, h⟩ := bX_fin h
    have q1 := nameX_len h1
    obtain ⟨a, j2, h2, h⟩ := bX_fin (needX_fin h)
    have q2 := hs _ _ _ _ _ h2
    obtain ⟨b, j3, h3, h⟩ := bX_fin (needX_fin h)
    have q3 := hs _ _ _ _ _ h3
    obtain ⟨rfl, rfl⟩ := okX_fin h
    simp only [dLet, kl, List.length_append, List.length_cons, List.length_nil]; omega
  · have := boundX_len hs _ (hT i) _ _ _ _ h
    omega
theorem aheadX_len (hT : ∀ i, (K i).tx.length ≤ 4000) (hs : ∀ n d i, CX i (self n d i)) (r d i : Nat) : CX i (aheadX K self r d i) := by
  intro x j h
  unfold aheadX at h
  have ht := hT i
  split at h
  · obtain ⟨n, j1, h1, h⟩ := bX_fin h
    have q1 := nameX_len h1
    obtain ⟨rfl, rfl⟩ := okX_fin h
    simp only [dOfName, kl, List.length_append, List.length_cons]; omega
  · obtain ⟨y, j1, h1, h⟩ := bX_fin (enterX_fin h)
    have q1 := hs _ _ _ _ _ h1
    obtain ⟨rfl, rfl⟩ := okX_fin h
    have := partX_len y r
    simp only [dAhead, kl]
    split <;> simp only [List.length_append, List.length_cons] <;> omega
theorem callX_len (hs : ∀ n d i, CX i (self n d i)) (m : Nat) (n : List UInt8) (hn : n.length ≤ 4000) (d i : Nat) : CX i (callX K self m n d i) := by
  intro x j h
  unfold callX at h
  obtain ⟨l, j1, h1, h⟩ := bX_fin (enterX_fin h)
  have q1 := listX_len wP (fun i x j e => hs _ _ _ _ _ e) _ _ _ _ _ h1
  obtain ⟨rfl, rfl⟩ := okX_fin h
  have := commasX_len l
  simp only [dCall, kl, List.length_append, List.length_cons, List.length_nil, List.map_nil, List.sum_nil] at q1 ⊢
  omega
theorem namedX_len (hs : ∀ n d i, CX i (self n d i)) (m d i : Nat) : CX i (namedX K self m d i) := by
  intro x j h
  unfold namedX at h
  obtain ⟨n, j1, h1, h⟩ := bX_fin h
  have q1 := nameX_len h1
  split at h
  · obtain ⟨rfl, rfl⟩ := okX_fin h
    simp only [dLeaf, kl, List.length_append, List.length_cons, List.length_nil]; omega
  split at h
  · have := callX_len hs m n (by omega) _ _ _ _ h
    omega
  · obtain ⟨rfl, rfl⟩ := okX_fin h
    simp only [dLeaf, kl]; omega
theorem wordX_len (hT : ∀ i, (K i).tx.length ≤ 4000) (hs : ∀ n d i, CX i (self n d i)) (m d i : Nat) : CX i (wordX K self m d i) := by
  intro x j h
  unfold wordX at h
  have ht := hT i
  split at h
  · obtain ⟨rfl, rfl⟩ := okX_fin h
    simp only [dLeaf, kl]; omega
  split at h
  · split at h
    · have := callX_len hs m _ ht _ _ _ _ h
      omega
    · simp [errX] at h
  · exact namedX_len hs m d i x j h
theorem anyX_len (hs : ∀ n d i, CX i (self n d i)) {cl : List UInt8} (m d i : Nat) (l : List PX) (j : Nat) (h : anyX K cl (self 0 d) m i = some (.ok (l, j))) : i < j ∧ (l.map wP).sum + 10000 ≤ (j - i) * 10000 := by
  unfold anyX at h
  split at h
  · obtain ⟨rfl, rfl⟩ := okX_fin h
    simp
  · have := listX_len wP (fun i x j e => hs _ _ _ _ _ e) _ _ _ _ _ h
    simpa using this
theorem setX_len (hT : ∀ i, (K i).tx.length ≤ 4000) (hs : ∀ n d i, CX i (self n d i)) (m d i : Nat) : CX i (setX K self m d i) := by
  intro x j h
  unfold setX at h
  split at h
  · obtain ⟨y, j1, h1, h⟩ := bX_fin h
    have := boundX_len hs _ (hT i) _ _ _ _ h1
    obtain ⟨rfl, rfl⟩ := okX_fin (needX_fin h)
    omega
  · obtain ⟨l, j1, h1, h⟩ := bX_fin h
    have q1 := anyX_len hs _ _ _ _ _ h1
    have := commasX_len l
    obtain ⟨rfl, rfl⟩ := okX_fin h
    simp only [dSet, kl, List.length_append, List.length_cons, List.length_nil]; omega
theorem bracketX_len (hT : ∀ i, (K i).tx.length ≤ 4000) (hs : ∀ n d i, CX i (self n d i)) (m d i : Nat) : CX i (bracketX K self m d i) := by
  intro x j h
  unfold bracketX at h
  split at h
  · obtain ⟨y, j1, h1, h⟩ := bX_fin (enterX_fin h)
    have q1 := hs _ _ _ _ _ h1
    obtain ⟨rfl, rfl⟩ := okX_fin (needX_fin h)
    omega
  split at h
  · have := setX_len hT hs m _ _ _ _ (enterX_fin h)
    omega
  split at h
  · obtain ⟨l, j1, h1, h⟩ := bX_fin (enterX_fin h)
    have q1 := anyX_len hs _ _ _ _ _ h1
    have := commasX_len l
    obtain ⟨rfl, rfl⟩ := okX_fin h
    simp only [dSeq, kl, List.length_append, List.length_cons, List.length_nil]; omega
  split at h
  · obtain ⟨l, j1, h1, h⟩ := bX_fin (enterX_fin h)
    have q1 := listX_len wPP (fun i x j e => pairX_len hs _ _ _ _ e) _ _ _ _ _ h1
    have := sepFrom_len pairS_len (l.flatMap fun p => [p.1, p.2]) 0
    rw [flat_sum] at this
    obtain ⟨rfl, rfl⟩ := okX_fin h
    simp only [dFun, kl, List.length_append, List.length_cons, List.length_nil, List.map_nil, List.sum_nil] at q1 ⊢; omega
  · simp [errX] at h
theorem firstX_len (hN : ∀ i v, Lib.parseIntB 64 (K i).tx = .ok v → (Lib.itoa v).length ≤ 100) (hT : ∀ i, (K i).tx.length ≤ 4000) (hs : ∀ n d i, CX i (self n d i)) (m d i : Nat) : CX i (firstX K self m d i) := by
  intro x j h
  unfold firstX at h
  have ht := hT i
  split at h
  · split at h
    · rename_i v hv
      obtain ⟨rfl, rfl⟩ := okX_fin h
      have := hN i v hv
      simp only [dLeaf, kl]; omega
    · simp [errX] at h
  split at h
  · obtain ⟨rfl, rfl⟩ := okX_fin h
    have hk : kl (dTxt (((K i).tx.take ((K i).tx.length - 1)).drop 1)) ≤ 4000 := by
      unfold kl dTxt
      simp only
      split
      · rename_i n hn
        split at hn
        · simp only [Option.some.injEq] at hn
          rw [← hn, List.length_drop, List.length_take]; omega
        · simp at hn
      · omega
    refine ⟨by omega, ?_⟩
    have : (dTxt (((K i).tx.take ((K i).tx.length - 1)).drop 1)).tx.length ≤ 4002 := by
      simp only [dTxt, List.length_append, List.length_cons, List.length_nil, List.length_drop, List.length_take]; omega
    omega
  split at h
  · exact wordX_len hT hs m d i x j h
  · exact bracketX_len hT hs m d i x j h
theorem dAt_len (f k : PX) : (dAt f k).tx.length + kl (dAt f k) ≤ f.tx.length + k.tx.length + kl k + 4 := by
  have := partX_len f 13
  have h0 : kl (dAt f k) = 0 := rfl
  rw [h0]
  simp only [dAt, List.length_append]
  split
  · rename_i n hn
    have : kl k = n.length := by simp [kl, hn]
    simp only [List.length_cons]; omega
  · simp only [List.length_cons, List.length_append, List.length_nil]; omega
theorem dPut_len (f k v : PX) : (dPut f k v).tx.length + kl (dPut f k v) ≤ f.tx.length + k.tx.length + v.tx.length + 8 := by
  have := partX_len f 13
  have h0 : kl (dPut f k v) = 0 := rfl
  rw [h0]
  simp only [dPut, List.length_append, List.length_cons, List.length_nil]; omega
theorem dTxt_len (n : List UInt8) : (dTxt n).tx.length + kl (dTxt n) ≤ 2 * n.length + 2 := by
  have h1 : (dTxt n).tx.length = n.length + 2 := by simp [dTxt]
  have h2 : kl (dTxt n) ≤ n.length := by
    unfold kl dTxt
    simp only
    split
    · rename_i m hm
      split at hm
      · simp only [Option.some.injEq] at hm
        rw [hm]; omega
      · simp at hm
    · omega
  omega
theorem behindX_len (hs : ∀ n d i, CX i (self n d i)) (M d : Nat) : ∀ m x i y j, behindX K self M d m x i = some (.ok (y, j)) → i ≤ j ∧ y.tx.length + kl y ≤ x.tx.length + kl x + (j - i) * 10000
  | 0, _, _, _, _, h => by simp [behindX] at h
  | m + 1, x, i, y, j, h => by
    rw [behindX] at h
    split at h
    · obtain ⟨k, j1, h1, h⟩ := bX_fin (enterX_fin h)
      have q1 := hs _ _ _ _ _ h1
      split at h
      · obtain ⟨v, j2, h2, h⟩ := bX_fin h
        have q2 := hs _ _ _ _ _ h2
        have q3 := behindX_len hs M d m _ _ _ _ (needX_fin h)
        have := dPut_len x k v
        omega
      · have q3 := behindX_len hs M d m _ _ _ _ (needX_fin h)
        have := dAt_len x k
        omega
    split at h
    · obtain ⟨n, j1, h1, h⟩ := bX_fin h
      have q1 := nameX_len h1
      have q3 := behindX_len hs M d m _ _ _ _ h
      have := dAt_len x (dTxt n)
      have := dTxt_len n
      omega
    · obtain ⟨rfl, rfl⟩ := okX_fin h
      omega
theorem tightX_len (hN : ∀ i v, Lib.parseIntB 64 (K i).tx = .ok v → (Lib.itoa v).length ≤ 100) (hT : ∀ i, (K i).tx.length ≤ 4000) (hs : ∀ n d i, CX i (self n d i)) (m d i : Nat) : CX i (tightX K self m d i) := by
  intro x j h
  unfold tightX at h
  obtain ⟨y, j1, h1, h⟩ := bX_fin h
  have q1 := firstX_len hN hT hs m d i _ _ h1
  have q2 := behindX_len hs _ _ _ _ _ _ _ h
  omega
theorem climbX_len (hT : ∀ i, (K i).tx.length ≤ 4000) (hs : ∀ n d i, CX i (self n d i)) (rank d : Nat) : ∀ m held x i y j, climbX K self rank d m held x i = some (.ok (y, j)) → i ≤ j ∧ y.1.tx.length + kl y.1 ≤ x.tx.length + kl x + (j - i) * 10000
  | 0, _, _, _, _, _, h => by simp [climbX] at h
  | m + 1, held, x, i, y, j, h => by
    rw [climbX] at h
    split at h
    · obtain ⟨rfl, rfl⟩ := okX_fin h
      simp
    · obtain ⟨z, j1, h1, h⟩ := bX_fin h
      have q1 := hs _ _ _ _ _ h1
      have q2 := climbX_len hT hs rank d m _ _ _ _ _ h
      have p1 := partX_len x (leftF (levelF (K i).tx))
      have p2 := partX_len z (rightF (levelF (K i).tx))
      have ht := hT i
      have h0 : kl (dBin (K i).tx x z) = 0 := rfl
      have : (dBin (K i).tx x z).tx.length ≤ x.tx.length + z.tx.length + 4006 := by
        simp only [dBin, List.length_append, List.length_cons, List.length_nil]; omega
      omega
theorem holdX_len (hN : ∀ i v, Lib.parseIntB 64 (K i).tx = .ok v → (Lib.itoa v).length ≤ 100) (hT : ∀ i, (K i).tx.length ≤ 4000) (hs : ∀ n d i, CX i (self n d i)) (m rank d i : Nat) : CX i (bX (holdX K self m rank d i) fun x j => okX x.1 j) := by
  intro x j h
  obtain ⟨y, j1, h1, h⟩ := bX_fin h
  obtain ⟨rfl, rfl⟩ := okX_fin h
  unfold holdX at h1
  split at h1
  · simp [errX] at h1
  obtain ⟨z, j2, h2, h3⟩ := bX_fin h1
  have q2 := climbX_len hT hs _ _ _ _ _ _ _ _ h3
  have q1 : i < j2 ∧ z.tx.length + kl z + 10 ≤ (j2 - i) * 10000 := by
    unfold openedX at h2
    split at h2
    · exact bindingX_len hT hs d i _ _ h2
    split at h2
    · exact aheadX_len hT hs _ d i _ _ h2
    · exact tightX_len hN hT hs m d i _ _ h2
  omega
theorem progX_len (hN : ∀ i v, Lib.parseIntB 64 (K i).tx = .ok v → (Lib.itoa v).length ≤ 100) (hT : ∀ i, (K i).tx.length ≤ 4000) : ∀ f n d i, CX i (progX K f n d i)
  | 0, _, _, _ => fun x j h => by simp [progX] at h
  | f + 1, n, d, i => by
    rw [progX]
    exact holdX_len hN hT (progX_len hN hT f) _ _ _ _
end
end Go.Proofs.YtjbekejcghjhbaaGreatDoor.Sx

namespace Go.Proofs.YtjbekejcghjhbaaGreatDoor.Sx

def PosX (r : RX PX) : Prop := ∀ x j, r = some (.ok (x, j)) → 0 < x.tx.length
section
variable {K : Nat → Tk} {self : Nat → Nat → Nat → RX PX}
theorem dBind_pos (op n : List UInt8) (a b : PX) : 0 < (dBind op n a b).tx.length := by
  unfold dBind; split <;> simp [boundT] <;> omega
theorem boundX_pos (op : List UInt8) (d i : Nat) : PosX (boundX K self op d i) := by
  intro x j h
  unfold boundX at h
  obtain ⟨n, j1, -, h⟩ := bX_fin h
  obtain ⟨a, j2, -, h⟩ := bX_fin (needX_fin h)
  obtain ⟨b, j3, -, h⟩ := bX_fin (needX_fin h)
  obtain ⟨rfl, -⟩ := okX_fin h
  exact dBind_pos _ _ _ _
theorem bindingX_pos (d i : Nat) : PosX (bindingX K self d i) := by
  intro x j h
  unfold bindingX at h
  have h := enterX_fin h
  split at h
  · unfold choiceX at h
    obtain ⟨a, j1, -, h⟩ := bX_fin h
    obtain ⟨b, j2, -, h⟩ := bX_fin (needX_fin h)
    obtain ⟨c, j3, -, h⟩ := bX_fin (needX_fin h)
    obtain ⟨rfl, -⟩ := okX_fin h
    simp [dIf]
  split at h
  · unfold namingX at h
    obtain ⟨n, j1, -, h⟩ := bX_fin h
    obtain ⟨a, j2, -, h⟩ := bX_fin (needX_fin h)
    obtain ⟨b, j3, -, h⟩ := bX_fin (needX_fin h)
    obtain ⟨rfl, -⟩ := okX_fin h
    simp [dLet]
  · exact boundX_pos _ _ _ _ _ h
theorem aheadX_pos (r d i : Nat) : PosX (aheadX K self r d i) := by
  intro x j h
  unfold aheadX at h
  split at h
  · obtain ⟨n, j1, -, h⟩ := bX_fin h
    obtain ⟨rfl, -⟩ := okX_fin h
    simp [dOfName]; omega
  · obtain ⟨y, j1, -, h⟩ := bX_fin (enterX_fin h)
    obtain ⟨rfl, -⟩ := okX_fin h
    simp only [dAhead]
    split <;> simp <;> omega
theorem callX_pos (m : Nat) (n : List UInt8) (d i : Nat) : PosX (callX K self m n d i) := by
  intro x j h
  unfold callX at h
  obtain ⟨l, j1, -, h⟩ := bX_fin (enterX_fin h)
  obtain ⟨rfl, -⟩ := okX_fin h
  simp [dCall]; omega
theorem wordX_pos (hP : ∀ i, (K i).cl = 1 → 0 < (K i).tx.length) (m d i : Nat) (hc : (K i).cl = 1) : PosX (wordX K self m d i) := by
  intro x j h
  unfold wordX at h
  split at h
  · obtain ⟨rfl, -⟩ := okX_fin h
    exact hP i hc
  split at h
  · split at h
    · exact callX_pos _ _ _ _ _ _ h
    · simp [errX] at h
  · unfold namedX at h
    obtain ⟨n, j1, h1, h⟩ := bX_fin h
    have hn : 0 < n.length := by
      unfold nameX at h1
      split at h1
      · simp [errX] at h1
      split at h1
      · simp [errX] at h1
      · obtain ⟨rfl, -⟩ := okX_fin h1
        exact hP i hc
    split at h
    · obtain ⟨rfl, -⟩ := okX_fin h
      simp [dLeaf]
    split at h
    · exact callX_pos _ _ _ _ _ _ h
    · obtain ⟨rfl, -⟩ := okX_fin h
      exact hn
theorem bracketX_pos (hs : ∀ n d i, PosX (self n d i)) (m d i : Nat) : PosX (bracketX K self m d i) := by
  intro x j h
  unfold bracketX at h
  split at h
  · obtain ⟨y, j1, h1, h⟩ := bX_fin (enterX_fin h)
    obtain ⟨rfl, -⟩ := okX_fin (needX_fin h)
    exact hs _ _ _ _ _ h1
  split at h
  · have h := enterX_fin h
    unfold setX at h
    split at h
    · obtain ⟨y, j1, h1, h⟩ := bX_fin h
      obtain ⟨rfl, -⟩ := okX_fin (needX_fin h)
      exact boundX_pos _ _ _ _ _ h1
    · obtain ⟨l, j1, -, h⟩ := bX_fin h
      obtain ⟨rfl, -⟩ := okX_fin h
      simp [dSet]
  split at h
  · obtain ⟨l, j1, -, h⟩ := bX_fin (enterX_fin h)
    obtain ⟨rfl, -⟩ := okX_fin h
    simp [dSeq]
  split at h
  · obtain ⟨l, j1, -, h⟩ := bX_fin (enterX_fin h)
    obtain ⟨rfl, -⟩ := okX_fin h
    simp [dFun]
  · simp [errX] at h
theorem firstX_pos (hP : ∀ i, (K i).cl = 1 → 0 < (K i).tx.length) (hI : ∀ v, 0 < (Lib.itoa v).length) (hs : ∀ n d i, PosX (self n d i)) (m d i : Nat) : PosX (firstX K self m d i) := by
  intro x j h
  unfold firstX at h
  split at h
  · split at h
    · obtain ⟨rfl, -⟩ := okX_fin h
      exact hI _
    · simp [errX] at h
  split at h
  · obtain ⟨rfl, -⟩ := okX_fin h
    simp [dTxt]
  split at h
  · rename_i hc
    exact wordX_pos hP m d i hc x j h
  · exact bracketX_pos hs m d i x j h
theorem dAt_pos (f k : PX) : 0 < (dAt f k).tx.length := by
  simp only [dAt, List.length_append]
  split <;> simp <;> omega
theorem dPut_pos (f k v : PX) : 0 < (dPut f k v).tx.length := by simp [dPut]; omega
theorem behindX_pos (M d : Nat) : ∀ m x i y j, 0 < x.tx.length → behindX K self M d m x i = some (.ok (y, j)) → 0 < y.tx.length
  | 0, _, _, _, _, _, h => by simp [behindX] at h
  | m + 1, x, i, y, j, hx, h => by
    rw [behindX] at h
    split at h
    · obtain ⟨k, j1, -, h⟩ := bX_fin (enterX_fin h)
      split at h
      · obtain ⟨v, j2, -, h⟩ := bX_fin h
        exact behindX_pos M d m _ _ _ _ (dPut_pos _ _ _) (needX_fin h)
      · exact behindX_pos M d m _ _ _ _ (dAt_pos _ _) (needX_fin h)
    split at h
    · obtain ⟨n, j1, -, h⟩ := bX_fin h
      exact behindX_pos M d m _ _ _ _ (dAt_pos _ _) h
    · obtain ⟨rfl, -⟩ := okX_fin h
      exact hx
theorem climbX_pos (rank d : Nat) : ∀ m held x i y j, 0 < x.tx.length → climbX K self rank d m held x i = some (.ok (y, j)) → 0 < y.1.tx.length
  | 0, _, _, _, _, _, _, h => by simp [climbX] at h
  | m + 1, held, x, i, y, j, hx, h => by
    rw [climbX] at h
    split at h
    · obtain ⟨rfl, -⟩ := okX_fin h
      exact hx
    · obtain ⟨z, j1, -, h⟩ := bX_fin h
      exact climbX_pos rank d m _ _ _ _ _ (by simp [dBin]; omega) h
theorem progX_pos (hP : ∀ i, (K i).cl = 1 → 0 < (K i).tx.length) (hI : ∀ v, 0 < (Lib.itoa v).length) : ∀ f n d i, PosX (progX K f n d i)
  | 0, _, _, _ => fun x j h => by simp [progX] at h
  | f + 1, n, d, i => by
    intro x j h
    rw [progX] at h
    obtain ⟨y, j1, h1, h⟩ := bX_fin h
    obtain ⟨rfl, -⟩ := okX_fin h
    unfold holdX at h1
    split at h1
    · simp [errX] at h1
    obtain ⟨z, j2, h2, h3⟩ := bX_fin h1
    refine climbX_pos _ _ _ _ _ _ _ _ ?_ h3
    unfold openedX at h2
    split at h2
    · exact bindingX_pos d i _ _ h2
    split at h2
    · exact aheadX_pos _ d i _ _ h2
    · unfold tightX at h2
      obtain ⟨u, j3, h4, h5⟩ := bX_fin h2
      exact behindX_pos _ _ _ _ _ _ _ (firstX_pos hP hI (progX_pos hP hI f) _ _ _ _ _ h4) h5
end
theorem clF_pos (T : List UInt8) (i : Nat) (h : (tkF T i).cl = 1) : 0 < (tkF T i).tx.length := by
  have h' : clF T i = 1 := h
  have := tokF_pos (T.drop (atF T i)) (by unfold clF at h'; omega) (by unfold clF at h'; omega)
  show 0 < (txF T i).length
  rw [txF_length]
  exact this
end Go.Proofs.YtjbekejcghjhbaaGreatDoor.Sx
