/- Plain: what is read is well formed, and its text is not long. Nothing of the program. -/
import Derived.Test.YtbogejmmkohbkaaGreatDoorGP1
import Derived.Test.YtbogejmmkohbkaaGreatDoorGA8
import Derived.Test.YtbogejmmkohbkaaGreatDoorGA9
import Derived.Lib.ItoaLen
import Derived.Lib.ParseIntBTie
namespace Go.Proofs.YtbogejmmkohbkaaGreatDoor.Sx

theorem take_run (l : List UInt8) : l.take (runLen l) = l.takeWhile isPart :=
  (List.prefix_iff_eq_take.1 (List.takeWhile_prefix isPart)).symm
theorem takeWhile_all (p : UInt8 → Bool) : ∀ l : List UInt8, ∀ c ∈ l.takeWhile p, p c = true
  | [], c, h => by simp at h
  | a :: l, c, h => by
    rw [List.takeWhile_cons] at h
    split at h
    · rcases List.mem_cons.1 h with rfl | h
      · assumption
      · exact takeWhile_all p l c h
    · simp at h
theorem negT_cls (l : List UInt8) : (negT l).1 = 2 ∨ (negT l).1 = 5 := by
  unfold negT; split
  · exact .inr rfl
  · exact digitsT_cls _
theorem signT_cls (l : List UInt8) : (signT l).1 = 4 ∨ (signT l).1 = 5 := by
  unfold signT; repeat' split
  all_goals simp
theorem qScan_ok : ∀ (l : List UInt8) (i : Nat), (qScan l i).1 = 3 → ∃ k, (qScan l i).2 = i + k + 1 ∧ k < l.length ∧ ∀ c ∈ l.take k, okText c = true
  | [], i, h => by simp [qScan] at h
  | c :: r, i, h => by
    simp only [qScan] at h ⊢
    split at h
    · rename_i q; rw [if_pos q]; exact ⟨0, rfl, by simp, by simp⟩
    · rename_i q
      rw [if_neg q]
      split at h
      · rename_i q2
        rw [if_pos q2]
        obtain ⟨k, h1, h2, h3⟩ := qScan_ok r (i + 1) h
        refine ⟨k + 1, by omega, by simpa using h2, ?_⟩
        intro d hd
        simp only [List.take_succ_cons, List.mem_cons] at hd
        rcases hd with rfl | hd
        · exact q2
        · exact h3 d hd
      · simp at h
theorem tok_name (l : List UInt8) (h : (tokT l).1 = 1) : (∃ c r, l.take (tokT l).2 = c :: r ∧ isLetter c = true) ∧ ∀ c ∈ l.take (tokT l).2, isPart c = true := by
  unfold tokT at h ⊢
  split at h
  · simp at h
  · rename_i h0
    rw [if_neg h0]
    split at h
    · rename_i h1
      rw [if_pos h1]
      simp only [take_run]
      refine ⟨?_, takeWhile_all isPart l⟩
      cases l with
      | nil => simp at h0
      | cons c r =>
        have e : byteAt (c :: r) 0 = c := rfl
        rw [e] at h1
        refine ⟨c, r.takeWhile isPart, ?_, h1⟩
        rw [List.takeWhile_cons, if_pos (by simp [isPart, h1])]
    · exfalso
      split at h
      · have := digitsT_cls l; omega
      · split at h
        · have := negT_cls l; omega
        · split at h
          · have := qScan_cls (l.drop 1) 1; omega
          · have := signT_cls l; omega

theorem tok_quote (l : List UInt8) (h : (tokT l).1 = 3) : ∀ c ∈ ((l.take (tokT l).2).take ((l.take (tokT l).2).length - 1)).drop 1, okText c = true := by
  unfold tokT at h ⊢
  split at h
  · simp at h
  · rename_i h0
    rw [if_neg h0]
    split at h
    · simp at h
    · rename_i h1
      rw [if_neg h1]
      split at h
      · exfalso; have := digitsT_cls l; omega
      · rename_i h2
        rw [if_neg h2]
        split at h
        · exfalso; have := negT_cls l; omega
        · rename_i h3
          rw [if_neg h3]
          split at h
          · rename_i h4
            rw [if_pos h4]
            obtain ⟨k, e1, e2, e3⟩ := qScan_ok (l.drop 1) 1 h
            rw [e1]
            simp only [List.length_drop] at e2
            have el : (l.take (1 + k + 1)).length = k + 2 := by simp; omega
            rw [el, List.take_take, Nat.min_eq_left (by omega), List.drop_take]
            exact fun c hc => e3 c (by simpa using hc)
          · exfalso; have := signT_cls l; omega

/-- the piece that is read is a word or a quotation as they should be -/
def TokF (T : List UInt8) (s : St) : Prop :=
  (s.cl = 1 → (∃ c r, pieceP T s = c :: r ∧ isLetter c = true) ∧ ∀ c ∈ pieceP T s, isPart c = true) ∧
  (s.cl = 3 → ∀ c ∈ ((pieceP T s).take ((pieceP T s).length - 1)).drop 1, okText c = true)
theorem piece_adv (T : List UInt8) (s : St) : ∃ l, pieceP T (advP T s) = l.take (tokT l).2 ∧ (advP T s).cl = (tokT l).1 := by
  refine ⟨T.drop (s.en + blankLen (T.drop s.en)), ?_, rfl⟩
  simp only [pieceP, advP]
  rw [List.drop_take]
  congr 1
  omega
theorem tokF_adv (T : List UInt8) (s : St) : TokF T (advP T s) := by
  obtain ⟨l, h1, h2⟩ := piece_adv T s
  unfold TokF
  rw [h1, h2]
  exact ⟨tok_name l, tok_quote l⟩

def GoodW {β : Type} (T : List UInt8) (Q : β → Prop) (item : St → Except (Nat × Nat) (β × St)) : Prop := ∀ s x s', TokF T s → item s = .ok (x, s') → Q x

theorem listP_w {β : Type} {T closing : List UInt8} {Q : β → Prop} {item : St → Except (Nat × Nat) (β × St)} (H : GoodW T Q item) : ∀ f, GoodW T (fun l => ∀ x ∈ l, Q x) (listP T closing item f)
  | 0, s, l, s', _, h => by simp [listP] at h
  | f + 1, s, l, s', ht, h => by
    simp only [listP] at h
    cases hi : item s with
    | error e => rw [hi] at h; simp at h
    | ok q =>
      obtain ⟨x, s1⟩ := q
      rw [hi] at h
      have hx := H s x s1 ht hi
      simp only at h
      split at h
      · simp only [Except.ok.injEq, Prod.mk.injEq] at h
        obtain ⟨rfl, _⟩ := h
        simpa using hx
      · split at h
        · cases hl : listP T closing item f (advP T s1) with
          | error e => rw [hl] at h; simp at h
          | ok q =>
            obtain ⟨l2, s2⟩ := q
            rw [hl] at h
            simp only [Except.ok.injEq, Prod.mk.injEq] at h
            obtain ⟨rfl, _⟩ := h
            have := listP_w H f _ _ _ (tokF_adv T s1) hl
            intro y hy
            rcases List.mem_cons.1 hy with rfl | hy
            · exact hx
            · exact this y hy
        · simp at h
theorem valuesP_w {β : Type} {T closing : List UInt8} {Q : β → Prop} {item : St → Except (Nat × Nat) (β × St)} (H : GoodW T Q item) : GoodW T (fun l => ∀ x ∈ l, Q x) (valuesP T closing item) := by
  intro s l s' ht h
  unfold valuesP at h
  split at h
  · simp only [Except.ok.injEq, Prod.mk.injEq] at h
    obtain ⟨rfl, _⟩ := h
    simp
  · exact listP_w H _ s l s' ht h
theorem pairP_w {β : Type} {T : List UInt8} {Q : β → Prop} {item : St → Except (Nat × Nat) (β × St)} (H : GoodW T Q item) : GoodW T (fun p => Q p.1 ∧ Q p.2) (pairP T item) := by
  intro s p s' ht h
  unfold pairP at h
  cases hi : item s with
  | error e => rw [hi] at h; simp at h
  | ok q =>
    obtain ⟨x, s1⟩ := q
    rw [hi] at h
    simp only at h
    split at h
    · cases hl : item (advP T s1) with
      | error e => rw [hl] at h; simp at h
      | ok q =>
        obtain ⟨y, s2⟩ := q
        rw [hl] at h
        simp only [Except.ok.injEq, Prod.mk.injEq] at h
        obtain ⟨rfl, _⟩ := h
        exact ⟨H _ _ _ ht hi, H _ _ _ (tokF_adv T s1) hl⟩
    · simp at h
end Go.Proofs.YtbogejmmkohbkaaGreatDoor.Sx

namespace Go.Proofs.YtbogejmmkohbkaaGreatDoor.Sx

def ll : List (List UInt8) → Nat
  | [] => 0
  | a :: l => a.length + 2 + ll l
theorem jT_len (cl : List UInt8) : ∀ l, (jT cl l).length = cl.length + ll l
  | [] => rfl
  | a :: l => by simp [jT, ll, jT_len cl l]; omega
theorem jL_len (cl : List UInt8) (l : List (List UInt8)) : (jL cl l).length ≤ cl.length + ll l := by
  cases l with
  | nil => simp [jL, ll]
  | cons a l => simp [jL, ll, jT_len]; omega
theorem jQ_len : ∀ ks us, (jQ ks us).length ≤ 1 + ll ks + ll us
  | [], us => by simp [jQ, ll]
  | _ :: _, [] => by simp [jQ, ll]
  | k :: ks, u :: us => by have := jQ_len ks us; simp [jQ, ll]; omega
theorem jP_len (ks us : List (List UInt8)) : (jP ks us).length ≤ 1 + ll ks + ll us := by
  cases ks with
  | nil => simp [jP, ll]
  | cons k ks =>
    cases us with
    | nil => simp [jP, ll]
    | cons u us => have := jQ_len ks us; simp [jP, ll]; omega
theorem ll_map {α : Type} (s : α → List UInt8) (wta : α → Nat) : ∀ l : List α, (∀ x ∈ l, (s x).length + 4 ≤ 5000 * wta x) → ll (l.map s) ≤ 5000 * wtL wta l
  | [], _ => by simp [ll]
  | a :: l, h => by
    have h1 := h a (by simp)
    have h2 := ll_map s wta l (fun x hx => h x (by simp [hx]))
    rw [wtL_cons]
    simp only [List.map_cons, ll]
    omega

/-- well formed, and not long -/
def Fine (n : Nat) (a : AV n) : Prop := WF n a ∧ (sh n a).length + 4 ≤ 5000 * wt n a
theorem fine_nil (n : Nat) : Fine (n + 1) (mkNil : Node (AV n)) := ⟨.inl rfl, by show 3 + 4 ≤ 5000 * 1; omega⟩
theorem fine_bool (n : Nat) (b : Bool) : Fine (n + 1) (mkBool b : Node (AV n)) := by
  refine ⟨.inr (.inl ⟨b, rfl⟩), ?_⟩
  show (shN (sh n) (numOf n) (mkBool b)).length + 4 ≤ 5000 * 1
  rw [sh_bool]; cases b <;> decide
theorem fine_int (n : Nat) (i : Int) (h0 : -9223372036854775808 ≤ i) (h1 : i ≤ 9223372036854775807) : Fine (n + 1) (mkInt i : Node (AV n)) := by
  refine ⟨.inr (.inr (.inl ⟨i, rfl, h0, h1⟩)), ?_⟩
  have := Lib.itoa_length_le i h0 h1
  show (Lib.itoa i).length + 4 ≤ 5000 * 1
  omega
theorem fine_text (n : Nat) (l : List UInt8) (h : ∀ c ∈ l, okText c = true) (hl : l.length ≤ 4000) : Fine (n + 1) (mkText l : Node (AV n)) := by
  refine ⟨.inr (.inr (.inr (.inl ⟨l, rfl, h⟩))), ?_⟩
  have e : (shN (sh n) (numOf n) (mkText l)).length = l.length + 2 := by rw [sh_text]; simp
  show (shN (sh n) (numOf n) (mkText l)).length + 4 ≤ 5000 * 1
  omega
theorem fine_atom (n : Nat) (l : List UInt8) (h : IsName l) : Fine (n + 1) (mkAtom l : Node (AV n)) := by
  refine ⟨.inr (.inr (.inr (.inr (.inl ⟨l, rfl, h⟩)))), ?_⟩
  have := h.len
  show l.length + 4 ≤ 5000 * 1
  omega
theorem fine_set (n : Nat) (es : List (AV n)) (h : ∀ x ∈ es, Fine n x) (ha : Asc (cmpV n) es) : Fine (n + 1) (mkS (wt n) es : Node (AV n)) := by
  unfold mkS
  split
  · rename_i hw
    refine ⟨.inr (.inr (.inr (.inr (.inr (.inl ⟨es, rfl, fun x hx => (h x hx).1, ha, hw⟩))))), ?_⟩
    have h1 := jL_len [125] (es.map (sh n))
    have h2 := ll_map (sh n) (wt n) es (fun x hx => (h x hx).2)
    show (jL [125] (es.map (sh n))).length + 1 + 4 ≤ 5000 * (1 + wtL (wt n) es)
    simp at h1
    omega
  · exact fine_nil n
theorem fine_fn (n : Nat) (ks us : List (AV n)) (hk : ∀ x ∈ ks, Fine n x) (hu : ∀ x ∈ us, Fine n x) (ha : Asc (cmpV n) ks) (hl : ks.length = us.length) : Fine (n + 1) (mkF (wt n) ks us : Node (AV n)) := by
  unfold mkF
  split
  · rename_i hw
    refine ⟨.inr (.inr (.inr (.inr (.inr (.inr ⟨ks, us, rfl, fun x hx => (hk x hx).1, fun x hx => (hu x hx).1, ha, hl, hw⟩))))), ?_⟩
    show (shN (sh n) (numOf n) (mkFn ks us)).length + 4 ≤ 5000 * (1 + wtL (wt n) ks + wtL (wt n) us)
    have k2 := ll_map (sh n) (wt n) ks (fun x hx => (hk x hx).2)
    have u2 := ll_map (sh n) (wt n) us (fun x hx => (hu x hx).2)
    cases hq : counts (numOf n) ks with
    | true =>
      rw [sh_seq _ _ ks us hq]
      have h1 := jL_len [62, 62] (us.map (sh n))
      simp at h1 ⊢
      omega
    | false =>
      rw [sh_fn _ _ ks us (by simp [hq])]
      have h1 := jP_len (ks.map (sh n)) (us.map (sh n))
      simp at h1 ⊢
      omega
  · exact fine_nil n

theorem cmp_intAV (m : Nat) (i j : Int) (h : i < j) : cmpV (m + 1) (intAV m i) (intAV m j) < 0 := by
  show then2 (Lib.compareInt 2 2) (then2 (Lib.compareInt i j) _) < 0
  have e1 : Lib.compareInt 2 2 = 0 := by decide
  have e2 : Lib.compareInt i j = -1 := by unfold Lib.compareInt; rw [if_pos h]
  rw [e1, e2]
  simp [then2]
theorem seqKeys_asc (m len : Nat) : Asc (cmpV (m + 1)) (seqKeys m len) := by
  unfold Asc seqKeys
  rw [List.pairwise_map]
  exact List.Pairwise.imp (fun h => cmp_intAV m _ _ (by omega)) List.pairwise_lt_range
theorem seqKeys_fine (m len : Nat) (h : len ≤ 4294967296) : ∀ x ∈ seqKeys m len, Fine (m + 1) x := by
  intro x hx
  obtain ⟨i, hi, rfl⟩ := List.mem_map.1 hx
  have := List.mem_range.1 hi
  exact fine_int m _ (by omega) (by omega)

theorem insP_insF {α : Type} (c : α → α → Int) (x : α × α) : ∀ l : List (α × α), insP c x l = insF (fun a b => c a.1 b.1) x l
  | [] => rfl
  | y :: l => by simp only [insP, insF, insP_insF c x l]
theorem normP_normF {α : Type} (c : α → α → Int) (l : List (α × α)) : normP c l = normF (fun a b => c a.1 b.1) l := by
  induction l with
  | nil => rfl
  | cons x l ih =>
    show insP c x (normP c l) = insF _ x (normF _ l)
    rw [ih, insP_insF]
theorem fine_pairs (n : Nat) (l : List (AV n × AV n)) (h : ∀ p ∈ l, Fine n p.1 ∧ Fine n p.2) : Fine (n + 1) (mkP (wt n) (normP (cmpV n) l) : Node (AV n)) := by
  rw [normP_normF]
  have O : Ord3 (fun a b : AV n × AV n => cmpV n a.1 b.1) := ⟨fun a b => (ord n).rng _ _, fun a b => (ord n).anti _ _, fun a b d => (ord n).trans _ _ _⟩
  have ha := normF_asc O l
  have hm : ∀ p ∈ normF (fun a b : AV n × AV n => cmpV n a.1 b.1) l, p ∈ l := by
    intro z hz
    induction l with
    | nil => simp [normF] at hz
    | cons x l ih =>
      rcases insF_mem x (normF _ l) z hz with q | q
      · simp [q]
      · exact List.mem_cons_of_mem _ (ih (fun p hp => h p (by simp [hp])) (normF_asc O l) q)
  generalize normF (fun a b : AV n × AV n => cmpV n a.1 b.1) l = r at ha hm ⊢
  unfold mkP
  split
  · refine fine_fn n _ _ ?_ ?_ ?_ (by simp)
    · intro x hx
      obtain ⟨p, hp, rfl⟩ := List.mem_map.1 hx
      exact (h p (hm p hp)).1
    · intro x hx
      obtain ⟨p, hp, rfl⟩ := List.mem_map.1 hx
      exact (h p (hm p hp)).2
    · unfold Asc; rw [List.pairwise_map]; exact ha
  · exact fine_nil n

theorem piece_leW (T : List UInt8) (s : St) : (pieceP T s).length ≤ T.length := by
  unfold pieceP; simp; omega
theorem listP_lenW {β : Type} {T closing : List UInt8} {item : St → Except (Nat × Nat) (β × St)} : ∀ (f : Nat) (s s' : St) (l : List β), listP T closing item f s = .ok (l, s') → l.length ≤ f
  | 0, s, s', l, h => by simp [listP] at h
  | f + 1, s, s', l, h => by
    simp only [listP] at h
    cases hi : item s with
    | error e => rw [hi] at h; simp at h
    | ok q =>
      obtain ⟨x, s1⟩ := q
      rw [hi] at h
      simp only at h
      split at h
      · simp only [Except.ok.injEq, Prod.mk.injEq] at h
        obtain ⟨rfl, _⟩ := h
        simp
      · split at h
        · cases hl : listP T closing item f (advP T s1) with
          | error e => rw [hl] at h; simp at h
          | ok q =>
            obtain ⟨l2, s2⟩ := q
            rw [hl] at h
            simp only [Except.ok.injEq, Prod.mk.injEq] at h
            obtain ⟨rfl, _⟩ := h
            have := listP_lenW f _ _ _ hl
            simp; omega
        · simp at h
theorem valuesP_lenW {β : Type} {T closing : List UInt8} {item : St → Except (Nat × Nat) (β × St)} {s s' : St} {l : List β} (h : valuesP T closing item s = .ok (l, s')) : l.length ≤ T.length + 1 := by
  unfold valuesP at h
  split at h
  · simp only [Except.ok.injEq, Prod.mk.injEq] at h
    obtain ⟨rfl, _⟩ := h
    simp
  · exact listP_lenW _ _ _ _ h

theorem ok_fst {ε α β : Type} {a x : α} {b y : β} (h : (Except.ok (a, b) : Except ε (α × β)) = .ok (x, y)) : a = x := by
  injection h with h
  exact congrArg Prod.fst h
theorem leafP_w {m : Nat} {T : List UInt8} (hT : T.length ≤ 4000) {br : St → Except (Nat × Nat) (AV (m + 1) × St)} (H : GoodW T (Fine (m + 1)) br) : GoodW T (Fine (m + 1)) (leafP T br) := by
  intro s x s' ht h
  have hp := piece_leW T s
  unfold leafP at h
  split at h
  · rename_i hc
    obtain ⟨h1, h2⟩ := ht.1 hc
    split at h
    · rw [← ok_fst h]; exact fine_nil m
    · split at h
      · rw [← ok_fst h]; exact fine_bool m true
      · split at h
        · rw [← ok_fst h]; exact fine_bool m false
        · split at h
          · simp at h
          · rename_i hr
            split at h
            · simp at h
            · rename_i hn
              rw [← ok_fst h]
              exact fine_atom m _ ⟨by omega, h1, h2, by simpa using hr⟩
  · split at h
    · cases hi : Lib.parseIntB 64 (pieceP T s) with
      | ok v =>
        rw [hi] at h
        rw [← ok_fst h]
        obtain ⟨b1, b2⟩ := Lib.parseIntB_bounds hi
        have e : ((2 ^ (64 - 1) : Nat) : Int) = 9223372036854775808 := by decide
        rw [e] at b1 b2
        exact fine_int m v (by omega) (by omega)
      | _ => rw [hi] at h; simp at h
    · split at h
      · rename_i hc
        rw [← ok_fst h]
        exact fine_text m _ (ht.2 hc) (by simp; omega)
      · split at h
        · exact H s x s' ht h
        · simp at h
theorem bracketP_w {m : Nat} {T : List UInt8} (hT : T.length ≤ 4000) {item : St → Except (Nat × Nat) (AV (m + 1) × St)} (H : GoodW T (Fine (m + 1)) item) : GoodW T (Fine (m + 2)) (bracketP T item) := by
  intro s x s' ht h
  unfold bracketP at h
  split at h
  · cases hl : valuesP T [125] item (advP T s) with
    | error e => rw [hl] at h; simp at h
    | ok q =>
      obtain ⟨l, s1⟩ := q
      rw [hl] at h
      rw [← ok_fst h]
      have hv := valuesP_w H _ _ _ (tokF_adv T s) hl
      refine fine_set (m + 1) _ (fun y hy => hv y ((normA_mem (fun a b e => (cmpV_eq (m + 1) a b).1 e) l y).1 hy)) (normA_asc (ord (m + 1)) (fun a b e => (cmpV_eq (m + 1) a b).1 e) l)
  · split at h
    · cases hl : valuesP T [62, 62] item (advP T s) with
      | error e => rw [hl] at h; simp at h
      | ok q =>
        obtain ⟨l, s1⟩ := q
        rw [hl] at h
        rw [← ok_fst h]
        have hv := valuesP_w H _ _ _ (tokF_adv T s) hl
        have hn := valuesP_lenW hl
        exact fine_fn (m + 1) _ _ (seqKeys_fine m _ (by omega)) hv (seqKeys_asc m _) (seqKeys_len m _)
    · split at h
      · cases hl : listP T [93] (pairP T item) (T.length + 1) (advP T s) with
        | error e => rw [hl] at h; simp at h
        | ok q =>
          obtain ⟨l, s1⟩ := q
          rw [hl] at h
          rw [← ok_fst h]
          have hv := listP_w (pairP_w H) _ _ _ _ (tokF_adv T s) hl
          exact fine_pairs (m + 1) l hv
      · simp at h
theorem valueP_w {T : List UInt8} (hT : T.length ≤ 4000) : ∀ d, GoodW T (Fine (d + 1)) (valueP T d)
  | 0 => by
    refine leafP_w hT ?_
    intro s x s' _ h
    simp only at h
    split at h <;> simp at h
  | d + 1 => leafP_w hT (bracketP_w hT (valueP_w hT d))
theorem readP_fine {T : List UInt8} {x : AV 25} (h : readP T = .ok x) : Fine 25 x := by
  unfold readP at h
  split at h
  · simp at h
  · rename_i hT
    cases hv : valueP T 24 (advP T ⟨0, 0, 0, false⟩) with
    | error e => rw [hv] at h; simp at h
    | ok q =>
      obtain ⟨v, s⟩ := q
      rw [hv] at h
      simp only at h
      split at h
      · simp at h
      · split at h
        · simp at h
        · simp only [Except.ok.injEq] at h
          subst h
          exact valueP_w (by omega) 24 _ _ _ (tokF_adv T _) hv
end Go.Proofs.YtbogejmmkohbkaaGreatDoor.Sx
