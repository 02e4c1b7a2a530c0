/- Plain mathematics: values as trees (by levels), their order. Nothing of the program. -/
import Derived.Lib.Bytealg
import Derived.Lib.Small
import Derived.Lib.ItoaNum
namespace Go.Proofs.YtbogejmmkohbkaaGreatDoor.Sx

structure Node (α : Type) where
  kind : Nat
  int : Int
  text : List UInt8
  keys : List α
  vals : List α

/-- a value of fewer than n levels -/
def AV : Nat → Type
  | 0 => Empty
  | n + 1 => Node (AV n)

def mkNil {α : Type} : Node α := ⟨0, 0, [], [], []⟩
def mkBool {α : Type} (b : Bool) : Node α := ⟨1, if b then 1 else 0, [], [], []⟩
def mkInt {α : Type} (n : Int) : Node α := ⟨2, n, [], [], []⟩
def mkText {α : Type} (l : List UInt8) : Node α := ⟨3, 0, l, [], []⟩
def mkAtom {α : Type} (l : List UInt8) : Node α := ⟨4, 0, l, [], []⟩
def mkSet {α : Type} (es : List α) : Node α := ⟨5, 0, [], es, []⟩
def mkFn {α : Type} (ks vs : List α) : Node α := ⟨6, 0, [], ks, vs⟩

def then2 (x y : Int) : Int := if x = 0 then y else x

/-- lists, one by one -/
def cmpL {α : Type} (c : α → α → Int) : List α → List α → Int
  | [], [] => 0
  | [], _ :: _ => -1
  | _ :: _, [] => 1
  | a :: as, b :: bs => then2 (c a b) (cmpL c as bs)

/-- the shorter one first -/
def cmpS {α : Type} (c : α → α → Int) (a b : List α) : Int := then2 (Lib.compareInt a.length b.length) (cmpL c a b)

def cmpN {α : Type} (c : α → α → Int) (a b : Node α) : Int :=
  then2 (Lib.compareInt a.kind b.kind) (then2 (Lib.compareInt a.int b.int) (then2 (Lib.compareBytes a.text b.text) (then2 (cmpS c a.keys b.keys) (cmpS c a.vals b.vals))))

def cmpV : (n : Nat) → AV n → AV n → Int
  | 0, _, _ => 0
  | n + 1, a, b => cmpN (cmpV n) a b

/-- a comparison in three that is an order -/
structure Ord3 {α : Type} (c : α → α → Int) : Prop where
  rng : ∀ a b, c a b = -1 ∨ c a b = 0 ∨ c a b = 1
  anti : ∀ a b, c b a = - c a b
  trans : ∀ a b d, c a b ≤ 0 → c b d ≤ 0 → c a d ≤ 0

theorem Ord3.sub {α : Type} {c : α → α → Int} (h : Ord3 c) {a b : α} (e : c a b = 0) (d : α) : c a d = c b d := by
  have e' : c b a = 0 := by rw [h.anti a b, e]; rfl
  have h1 := h.trans a b d (by omega)
  have h2 := h.trans b a d (by omega)
  have h3 := fun q => h.trans d a b q (by omega)
  have h4 := fun q => h.trans d b a q (by omega)
  have r1 := h.rng a d
  have r2 := h.rng b d
  rw [h.anti a d, h.anti b d] at h3
  rw [h.anti a d, h.anti b d] at h4
  omega
theorem Ord3.self {α : Type} {c : α → α → Int} (h : Ord3 c) (a : α) : c a a = 0 := by
  have := h.anti a a; omega

theorem Ord3.pull {α β : Type} {c : α → α → Int} (h : Ord3 c) (f : β → α) : Ord3 (fun a b => c (f a) (f b)) :=
  ⟨fun _ _ => h.rng _ _, fun _ _ => h.anti _ _, fun _ _ _ => h.trans _ _ _⟩

theorem Ord3.lex {α : Type} {c d : α → α → Int} (h : Ord3 c) (k : Ord3 d) : Ord3 (fun a b => then2 (c a b) (d a b)) := by
  constructor
  · intro a b
    have := h.rng a b; have := k.rng a b
    simp only [then2]; split <;> assumption
  · intro a b
    have h1 := h.anti a b; have h2 := k.anti a b
    simp only [then2, h1, h2]
    by_cases e : c a b = 0
    · simp [e]
    · rw [if_neg (by omega), if_neg e]
  · intro a b x h1 h2
    simp only [then2] at h1 h2 ⊢
    by_cases e : c a b = 0
    · rw [if_pos e] at h1
      rw [h.sub e x]
      by_cases e2 : c b x = 0
      · rw [if_pos e2] at h2 ⊢; exact k.trans a b x h1 h2
      · rw [if_neg e2] at h2 ⊢; exact h2
    · rw [if_neg e] at h1
      have a1 := h.anti a b
      by_cases e2 : c b x = 0
      · have := h.trans a b x h1 (by omega)
        have n : c a x ≠ 0 := by
          intro q
          have s := h.sub q b
          have a2 := h.anti b x
          omega
        rw [if_neg n]; exact this
      · rw [if_neg e2] at h2
        have := h.trans a b x h1 h2
        have n : c a x ≠ 0 := by
          intro q
          have s := h.sub q b
          have a2 := h.anti b x
          omega
        rw [if_neg n]; exact this

theorem ord_int : Ord3 Lib.compareInt := by
  constructor
  · intro a b; unfold Lib.compareInt; split; · simp
    split <;> simp
  · intro a b; unfold Lib.compareInt; repeat' split
    all_goals omega
  · intro a b d; unfold Lib.compareInt; repeat' split
    all_goals omega
theorem cint_eq (a b : Int) : Lib.compareInt a b = 0 ↔ a = b := by
  unfold Lib.compareInt; repeat' split
  all_goals omega
theorem cint_le (a b : Int) : Lib.compareInt a b ≤ 0 ↔ a ≤ b := by
  unfold Lib.compareInt; repeat' split
  all_goals omega

theorem ord_bytes : Ord3 Lib.compareBytes := by
  constructor
  · intro a
    induction a with
    | nil => intro b; cases b <;> simp [Lib.compareBytes]
    | cons x a ih =>
      intro b
      cases b with
      | nil => simp [Lib.compareBytes]
      | cons y b =>
        simp only [Lib.compareBytes]; repeat' split
        all_goals first | exact ih b | simp
  · intro a
    induction a with
    | nil => intro b; cases b <;> simp [Lib.compareBytes]
    | cons x a ih =>
      intro b
      cases b with
      | nil => simp [Lib.compareBytes]
      | cons y b =>
        simp only [Lib.compareBytes, UInt8.lt_iff_toNat_lt]
        repeat' split
        all_goals first | omega | exact ih b
  · intro a
    induction a with
    | nil => intro b d; cases d <;> simp [Lib.compareBytes]
    | cons x a ih =>
      intro b d
      cases b with
      | nil => simp [Lib.compareBytes]
      | cons y b =>
        cases d with
        | nil => simp [Lib.compareBytes]
        | cons z d =>
          simp only [Lib.compareBytes, UInt8.lt_iff_toNat_lt]
          repeat' split
          all_goals first | omega | exact ih b d | skip
          all_goals (intro h1 h2; first | omega | (exact ih b d h1 h2))
theorem cby_eq (a b : List UInt8) : Lib.compareBytes a b = 0 ↔ a = b := by
  induction a generalizing b with
  | nil => cases b <;> simp [Lib.compareBytes]
  | cons x a ih =>
    cases b with
    | nil => simp [Lib.compareBytes]
    | cons y b =>
      simp only [Lib.compareBytes, UInt8.lt_iff_toNat_lt, List.cons.injEq]
      have hxy : x = y ↔ x.toNat = y.toNat := UInt8.toNat_inj.symm
      repeat' split
      · simp; intro h; rw [hxy] at h; omega
      · simp; intro h; rw [hxy] at h; omega
      · rw [ih b, hxy]; constructor
        · intro h; exact ⟨by omega, h⟩
        · intro h; exact h.2

theorem ord_list {α : Type} {c : α → α → Int} (h : Ord3 c) : Ord3 (cmpL c) := by
  constructor
  · intro a
    induction a with
    | nil => intro b; cases b <;> simp [cmpL]
    | cons x a ih =>
      intro b
      cases b with
      | nil => simp [cmpL]
      | cons y b =>
        have := h.rng x y; have := ih b
        simp only [cmpL, then2]; split <;> assumption
  · intro a
    induction a with
    | nil => intro b; cases b <;> simp [cmpL]
    | cons x a ih =>
      intro b
      cases b with
      | nil => simp [cmpL]
      | cons y b =>
        have h1 := h.anti x y; have h2 := ih b
        simp only [cmpL, then2, h1, h2]
        by_cases e : c x y = 0
        · simp [e]
        · rw [if_neg (by omega), if_neg e]
  · intro a
    induction a with
    | nil => intro b d; cases d <;> simp [cmpL]
    | cons x a ih =>
      intro b d
      cases b with
      | nil => simp [cmpL]
      | cons y b =>
        cases d with
        | nil => simp [cmpL]
        | cons z d =>
          intro h1 h2
          simp only [cmpL, then2] at h1 h2 ⊢
          by_cases e : c x y = 0
          · rw [if_pos e] at h1
            rw [h.sub e z]
            by_cases e2 : c y z = 0
            · rw [if_pos e2] at h2 ⊢; exact ih b d h1 h2
            · rw [if_neg e2] at h2 ⊢; exact h2
          · rw [if_neg e] at h1
            have a1 := h.anti x y
            by_cases e2 : c y z = 0
            · have := h.trans x y z h1 (by omega)
              have n : c x z ≠ 0 := by
                intro q
                have s := h.sub q y
                have a2 := h.anti y z
                omega
              rw [if_neg n]; exact this
            · rw [if_neg e2] at h2
              have := h.trans x y z h1 h2
              have n : c x z ≠ 0 := by
                intro q
                have s := h.sub q y
                have a2 := h.anti y z
                omega
              rw [if_neg n]; exact this

theorem ord_rows {α : Type} {c : α → α → Int} (h : Ord3 c) : Ord3 (cmpS c) :=
  (ord_int.pull (fun a : List α => (a.length : Int))).lex (ord_list h)

theorem ord_node {α : Type} {c : α → α → Int} (h : Ord3 c) : Ord3 (cmpN c) :=
  (ord_int.pull (fun a : Node α => (a.kind : Int))).lex ((ord_int.pull (fun a : Node α => a.int)).lex ((ord_bytes.pull (fun a : Node α => a.text)).lex (((ord_rows h).pull (fun a : Node α => a.keys)).lex ((ord_rows h).pull (fun a : Node α => a.vals)))))

theorem ord (n : Nat) : Ord3 (cmpV n) := by
  induction n with
  | zero => exact ⟨fun a => Empty.elim a, fun a => Empty.elim a, fun a => Empty.elim a⟩
  | succ n ih => exact ord_node ih

theorem cmpL_eq {α : Type} {c : α → α → Int} (h : ∀ a b, c a b = 0 ↔ a = b) : ∀ a b : List α, cmpL c a b = 0 ↔ a = b
  | [], [] => by simp [cmpL]
  | [], _ :: _ => by simp [cmpL]
  | _ :: _, [] => by simp [cmpL]
  | x :: a, y :: b => by
    have h1 := h x y; have h2 := cmpL_eq h a b
    simp only [cmpL, then2, List.cons.injEq]
    by_cases e : c x y = 0
    · rw [if_pos e, h2]; exact ⟨fun q => ⟨h1.1 e, q⟩, fun q => q.2⟩
    · rw [if_neg e]; exact ⟨fun q => absurd q e, fun q => absurd (h1.2 q.1) e⟩
theorem cmpS_eq {α : Type} {c : α → α → Int} (h : ∀ a b, c a b = 0 ↔ a = b) (a b : List α) : cmpS c a b = 0 ↔ a = b := by
  simp only [cmpS, then2]
  by_cases e : Lib.compareInt a.length b.length = 0
  · rw [if_pos e]; exact cmpL_eq h a b
  · rw [if_neg e]
    refine ⟨fun q => absurd q e, fun q => ?_⟩
    subst q; exact (cint_eq _ _).2 rfl
theorem then2_eq (x y : Int) : then2 x y = 0 ↔ x = 0 ∧ y = 0 := by
  unfold then2; split <;> simp_all
theorem cmpN_eq {α : Type} {c : α → α → Int} (h : ∀ a b, c a b = 0 ↔ a = b) (a b : Node α) : cmpN c a b = 0 ↔ a = b := by
  obtain ⟨k, i, t, ks, vs⟩ := a
  obtain ⟨k', i', t', ks', vs'⟩ := b
  simp only [cmpN, then2_eq, cint_eq, cby_eq, cmpS_eq h, Node.mk.injEq]
  constructor
  · rintro ⟨a, b, c, d, e⟩; exact ⟨by omega, b, c, d, e⟩
  · rintro ⟨a, b, c, d, e⟩; exact ⟨by omega, b, c, d, e⟩
theorem cmpV_eq : ∀ (n : Nat) (a b : AV n), cmpV n a b = 0 ↔ a = b
  | 0, a, _ => Empty.elim a
  | n + 1, a, b => cmpN_eq (cmpV_eq n) a b

end Go.Proofs.YtbogejmmkohbkaaGreatDoor.Sx

namespace Go.Proofs.YtbogejmmkohbkaaGreatDoor.Sx

def isLetter (c : UInt8) : Bool := (97 ≤ c && c ≤ 122) || (65 ≤ c && c ≤ 90)
def isDigit (c : UInt8) : Bool := 48 ≤ c && c ≤ 57
def isPart (c : UInt8) : Bool := isLetter c || isDigit c || c == 95

def str (s : String) : List UInt8 := s.toUTF8.data.toList

def reservedWords : List (List UInt8) := ["module", "constant", "atoms", "symmetric", "variable", "define", "init", "action", "fair", "weak", "strong", "invariant", "property", "and", "or", "not", "implies", "iff", "in", "union", "inter", "minus", "subset", "powerset", "flatten", "domain", "unchanged", "enabled", "always", "eventually", "until", "leadsto", "choose", "all", "some", "each", "those", "fun", "if", "then", "else", "let", "nil", "true", "false", "size", "len", "head", "tail", "append", "values", "seqs"].map str

def isReserved (l : List UInt8) : Bool := reservedWords.contains l

def nilT : List UInt8 := [110, 105, 108]
def trueT : List UInt8 := [116, 114, 117, 101]
def falseT : List UInt8 := [102, 97, 108, 115, 101]

structure IsName (l : List UInt8) : Prop where
  len : l.length ≤ 16
  head : ∃ c r, l = c :: r ∧ isLetter c = true
  all : ∀ c ∈ l, isPart c = true
  free : isReserved l = false

def okText (c : UInt8) : Bool := 32 ≤ c && c ≤ 126 && c != 34 && c != 92

def numOf : (n : Nat) → AV n → Option Int
  | 0, _ => none
  | _ + 1, a => if Node.kind a = 2 then some (Node.int a) else none

def countsFrom {α : Type} (num : α → Option Int) : Nat → List α → Bool
  | _, [] => true
  | i, a :: l => num a == some (i : Int) && countsFrom num (i + 1) l
def counts {α : Type} (num : α → Option Int) (l : List α) : Bool := countsFrom num 1 l

def wtL {α : Type} (wt : α → Nat) (l : List α) : Nat := (l.map wt).sum
def wtN {α : Type} (wt : α → Nat) (a : Node α) : Nat := if a.kind = 5 then 1 + wtL wt a.keys else if a.kind = 6 then 1 + wtL wt a.keys + wtL wt a.vals else 1
def wt : (n : Nat) → AV n → Nat
  | 0, _ => 0
  | n + 1, a => wtN (wt n) a

def jT (cl : List UInt8) : List (List UInt8) → List UInt8
  | [] => cl
  | a :: l => 44 :: 32 :: (a ++ jT cl l)
def jL (cl : List UInt8) : List (List UInt8) → List UInt8
  | [] => cl
  | a :: l => a ++ jT cl l
def jQ : List (List UInt8) → List (List UInt8) → List UInt8
  | k :: ks, v :: vs => 44 :: 32 :: (k ++ 58 :: 32 :: (v ++ jQ ks vs))
  | _, _ => [93]
def jP : List (List UInt8) → List (List UInt8) → List UInt8
  | k :: ks, v :: vs => k ++ 58 :: 32 :: (v ++ jQ ks vs)
  | _, _ => [93]

def shN {α : Type} (s : α → List UInt8) (num : α → Option Int) (a : Node α) : List UInt8 :=
  if a.kind = 0 then nilT
  else if a.kind = 1 then (if a.int = 1 then trueT else falseT)
  else if a.kind = 2 then Lib.itoa a.int
  else if a.kind = 3 then 34 :: (a.text ++ [34])
  else if a.kind = 4 then a.text
  else if a.kind = 5 then 123 :: jL [125] (a.keys.map s)
  else if counts num a.keys then 60 :: 60 :: jL [62, 62] (a.vals.map s)
  else 91 :: jP (a.keys.map s) (a.vals.map s)
def sh : (n : Nat) → AV n → List UInt8
  | 0, _ => []
  | n + 1, a => shN (sh n) (numOf n) a

def Asc {α : Type} (c : α → α → Int) (l : List α) : Prop := l.Pairwise fun a b => c a b < 0

def wfN {α : Type} (W : α → Prop) (c : α → α → Int) (wt : α → Nat) (a : Node α) : Prop :=
  a = mkNil ∨ (∃ b, a = mkBool b) ∨ (∃ n, a = mkInt n ∧ -9223372036854775808 ≤ n ∧ n ≤ 9223372036854775807) ∨
  (∃ l, a = mkText l ∧ ∀ c ∈ l, okText c = true) ∨ (∃ l, a = mkAtom l ∧ IsName l) ∨
  (∃ es, a = mkSet es ∧ (∀ x ∈ es, W x) ∧ Asc c es ∧ 1 + wtL wt es ≤ 1024) ∨
  (∃ ks vs, a = mkFn ks vs ∧ (∀ x ∈ ks, W x) ∧ (∀ x ∈ vs, W x) ∧ Asc c ks ∧ ks.length = vs.length ∧ 1 + wtL wt ks + wtL wt vs ≤ 1024)
def WF : (n : Nat) → AV n → Prop
  | 0, _ => True
  | n + 1, a => wfN (WF n) (cmpV n) (wt n) a

/-- bytes of words and of numbers -/
def isW (c : UInt8) : Bool := isPart c || c == 45

def Delim (r : List UInt8) : Prop := ∀ c l, r = c :: l → isW c = false

theorem delim_cons {c : UInt8} {l : List UInt8} (h : isW c = false) : Delim (c :: l) := by
  intro d m e; simp only [List.cons.injEq] at e; rw [← e.1]; exact h
theorem delim_nil : Delim [] := by intro c l e; simp at e

theorem run_cancel : ∀ (u v r s : List UInt8), (∀ c ∈ u, isW c = true) → (∀ c ∈ v, isW c = true) → Delim r → Delim s → u ++ r = v ++ s → u = v ∧ r = s
  | [], [], r, s, _, _, _, _, e => ⟨rfl, by simpa using e⟩
  | [], d :: v, r, s, _, hv, hr, _, e => by
    have := hr d (v ++ s) (by simpa using e)
    rw [hv d (by simp)] at this; simp at this
  | c :: u, [], r, s, hu, _, _, hs, e => by
    have := hs c (u ++ r) (by simpa using e.symm)
    rw [hu c (by simp)] at this; simp at this
  | c :: u, d :: v, r, s, hu, hv, hr, hs, e => by
    simp only [List.cons_append, List.cons.injEq] at e
    obtain ⟨e1, e2⟩ := e
    obtain ⟨h1, h2⟩ := run_cancel u v r s (fun x hx => hu x (by simp [hx])) (fun x hx => hv x (by simp [hx])) hr hs e2
    exact ⟨by rw [e1, h1], h2⟩

theorem isW_digit {c : UInt8} (h : isDigit c = true) : isW c = true := by simp [isW, isPart, h]
theorem isW_part {c : UInt8} (h : isPart c = true) : isW c = true := by simp [isW, h]

theorem digit_of (k : Nat) (h : k < 10) : (UInt8.ofNat (48 + k)).toNat = 48 + k := by
  simp; omega
theorem decDigits_digit (n : Nat) : ∀ c ∈ Lib.decDigits n, isDigit c = true := by
  induction n using Nat.strongRecOn with
  | ind n ih =>
    intro c hc
    rw [Lib.decDigits] at hc
    split at hc
    · rename_i hn
      simp only [List.mem_singleton] at hc
      subst hc
      simp [isDigit, UInt8.le_iff_toNat_le]; omega
    · simp only [List.mem_append, List.mem_singleton] at hc
      rcases hc with hc | hc
      · exact ih (n / 10) (by omega) c hc
      · subst hc
        simp [isDigit, UInt8.le_iff_toNat_le]; omega
theorem decDigits_ne (n : Nat) : Lib.decDigits n ≠ [] := by
  rw [Lib.decDigits]; split <;> simp
theorem decDigits_inj : ∀ (n m : Nat), Lib.decDigits n = Lib.decDigits m → n = m := by
  intro n
  induction n using Nat.strongRecOn with
  | ind n ih =>
    intro m h
    rw [Lib.decDigits.eq_def n, Lib.decDigits.eq_def m] at h
    split at h <;> split at h
    · rename_i h1 h2
      simp only [List.cons.injEq, and_true] at h
      have := congrArg UInt8.toNat h
      rw [digit_of n h1, digit_of m h2] at this; omega
    · have := congrArg List.length h
      simp at this
      exact absurd this (decDigits_ne _)
    · have := congrArg List.length h
      simp at this
      exact absurd this (decDigits_ne _)
    · obtain ⟨e1, e2⟩ := List.append_inj' h (by simp)
      have a := ih (n / 10) (by omega) (m / 10) e1
      simp only [List.cons.injEq, and_true] at e2
      have b := congrArg UInt8.toNat e2
      rw [digit_of _ (by omega), digit_of _ (by omega)] at b; omega
theorem itoa_W (n : Int) : ∀ c ∈ Lib.itoa n, isW c = true := by
  intro c hc
  unfold Lib.itoa at hc
  split at hc
  · rcases List.mem_cons.1 hc with hc | hc
    · subst hc; decide
    · exact isW_digit (decDigits_digit _ c hc)
  · exact isW_digit (decDigits_digit _ c hc)
theorem digit_ne (c : UInt8) (h : isDigit c = true) : c ≠ 45 ∧ isLetter c = false := by
  simp [isDigit, UInt8.le_iff_toNat_le] at h
  refine ⟨fun e => by subst e; simp at h, ?_⟩
  simp [isLetter, UInt8.le_iff_toNat_le]; omega
theorem decDigits_cons (n : Nat) : ∃ c r, Lib.decDigits n = c :: r ∧ isDigit c = true := by
  cases h : Lib.decDigits n with
  | nil => exact absurd h (decDigits_ne n)
  | cons c r => exact ⟨c, r, rfl, decDigits_digit n c (by simp [h])⟩
theorem itoa_inj (n m : Int) (h : Lib.itoa n = Lib.itoa m) : n = m := by
  unfold Lib.itoa at h
  obtain ⟨c, r, e, hc⟩ := decDigits_cons n.toNat
  obtain ⟨c', r', e', hc'⟩ := decDigits_cons m.toNat
  split at h <;> split at h
  · simp only [List.cons.injEq, true_and] at h
    have := decDigits_inj _ _ h; omega
  · rw [e'] at h; simp only [List.cons.injEq] at h
    exact absurd h.1.symm (digit_ne c' hc').1
  · rw [e] at h; simp only [List.cons.injEq] at h
    exact absurd h.1 (digit_ne c hc).1
  · have := decDigits_inj _ _ h; omega
theorem itoa_head (n : Int) : ∃ c r, Lib.itoa n = c :: r ∧ isLetter c = false ∧ (isDigit c = true ∨ c = 45) := by
  unfold Lib.itoa
  obtain ⟨c, r, e, hc⟩ := decDigits_cons n.toNat
  split
  · exact ⟨45, _, rfl, by decide, .inr rfl⟩
  · exact ⟨c, r, e, (digit_ne c hc).2, .inl hc⟩

theorem nil_res : isReserved nilT = true := by decide +kernel
theorem true_res : isReserved trueT = true := by decide +kernel
theorem false_res : isReserved falseT = true := by decide +kernel

section
variable {α : Type} (s : α → List UInt8) (num : α → Option Int)

theorem sh_nil : shN s num mkNil = nilT := rfl
theorem sh_bool (b : Bool) : shN s num (mkBool b) = if b then trueT else falseT := by cases b <;> rfl
theorem sh_int (n : Int) : shN s num (mkInt n) = Lib.itoa n := rfl
theorem sh_text (l : List UInt8) : shN s num (mkText l) = 34 :: (l ++ [34]) := rfl
theorem sh_atom (l : List UInt8) : shN s num (mkAtom l) = l := rfl
theorem sh_set (es : List α) : shN s num (mkSet es) = 123 :: jL [125] (es.map s) := rfl
theorem sh_seq (ks vs : List α) (h : counts num ks = true) : shN s num (mkFn ks vs) = 60 :: 60 :: jL [62, 62] (vs.map s) := by
  show (if counts num ks = true then _ else _) = _; rw [if_pos h]; rfl
theorem sh_fn (ks vs : List α) (h : ¬ counts num ks = true) : shN s num (mkFn ks vs) = 91 :: jP (ks.map s) (vs.map s) := by
  show (if counts num ks = true then _ else _) = _; rw [if_neg h]; rfl

/-- what a value's text opens with: 0 a word or a number, 1 a quote, 2 a brace, 3 an angle, 4 a square bracket -/
def kd (a : Node α) : Nat :=
  if a.kind = 3 then 1 else if a.kind = 5 then 2 else if a.kind = 6 then (if counts num a.keys then 3 else 4) else 0
theorem kd_seq (ks vs : List α) (h : counts num ks = true) : kd num (mkFn ks vs) = 3 := by
  show (if counts num ks = true then 3 else 4) = 3; rw [if_pos h]
theorem kd_fn (ks vs : List α) (h : ¬ counts num ks = true) : kd num (mkFn ks vs) = 4 := by
  show (if counts num ks = true then 3 else 4) = 4; rw [if_neg h]

def first (k : Nat) (c : UInt8) : Bool :=
  if k = 0 then isW c else if k = 1 then c == 34 else if k = 2 then c == 123 else if k = 3 then c == 60 else if k = 4 then c == 91 else false

variable (W : α → Prop) (c : α → α → Int) (wta : α → Nat)

theorem word_bytes {a : Node α} (hw : wfN W c wta a) (hk : kd num a = 0) : ∀ c ∈ shN s num a, isW c = true := by
  rcases hw with rfl | ⟨b, rfl⟩ | ⟨n, rfl, _⟩ | ⟨l, rfl, _⟩ | ⟨l, rfl, h⟩ | ⟨es, rfl, _⟩ | ⟨ks, vs, rfl, _⟩
  · rw [sh_nil]; decide
  · rw [sh_bool]; cases b <;> decide
  · rw [sh_int]; exact itoa_W n
  · exact absurd hk (by simp [kd, mkText])
  · rw [sh_atom]; exact fun c hc => isW_part (h.all c hc)
  · exact absurd hk (by simp [kd, mkSet])
  · by_cases q : counts num ks = true
    · rw [kd_seq num ks vs q] at hk; simp at hk
    · rw [kd_fn num ks vs q] at hk; simp at hk

theorem word_inj {a b : Node α} (ha : wfN W c wta a) (hb : wfN W c wta b) (ka : kd num a = 0) (kb : kd num b = 0) (h : shN s num a = shN s num b) : a = b := by
  have lt : ∀ {l : List UInt8} {n : Int}, IsName l → l = Lib.itoa n → False := by
    intro l n hl e
    obtain ⟨c, r, e1, hc⟩ := hl.head
    obtain ⟨c', r', e2, hc', _⟩ := itoa_head n
    rw [e1, e2] at e; simp only [List.cons.injEq] at e
    rw [e.1, hc'] at hc; simp at hc
  have ni : ∀ {l : List UInt8} {n : Int}, isLetter (l.headD 0) = true → l = Lib.itoa n → False := by
    intro l n hl e
    obtain ⟨c', r', e2, hc', _⟩ := itoa_head n
    rw [e, e2] at hl; simp [hc'] at hl
  have nr : ∀ {l r : List UInt8}, IsName l → isReserved r = true → l = r → False := by
    intro l r hl hr e
    rw [← e, hl.free] at hr; simp at hr
  have nf : ∀ ks vs, kd num (mkFn ks vs) = 0 → False := by
    intro ks vs hk
    by_cases q : counts num ks = true
    · rw [kd_seq num ks vs q] at hk; simp at hk
    · rw [kd_fn num ks vs q] at hk; simp at hk
  have nl : isLetter (nilT.headD 0) = true := by decide
  have tr : ∀ b : Bool, isLetter ((if b then trueT else falseT).headD 0) = true ∧ isReserved (if b then trueT else falseT) = true := by
    intro b; cases b
    · exact ⟨by decide, false_res⟩
    · exact ⟨by decide, true_res⟩
  rcases ha with rfl | ⟨b1, rfl⟩ | ⟨n1, rfl, _⟩ | ⟨l1, rfl, _⟩ | ⟨l1, rfl, h1⟩ | ⟨es, rfl, _⟩ | ⟨ks, vs, rfl, _⟩
  all_goals first | (exact absurd ka (nf _ _)) | (exfalso; simp [kd, mkText, mkSet] at ka; done) | skip
  all_goals rcases hb with rfl | ⟨b2, rfl⟩ | ⟨n2, rfl, _⟩ | ⟨l2, rfl, _⟩ | ⟨l2, rfl, h2⟩ | ⟨es, rfl, _⟩ | ⟨ks, vs, rfl, _⟩
  all_goals first | (exact absurd kb (nf _ _)) | (exfalso; simp [kd, mkText, mkSet] at kb; done) | skip
  all_goals simp only [sh_nil, sh_bool, sh_int, sh_atom] at h
  all_goals first
    | rfl
    | (cases b2 <;> simp [nilT, trueT, falseT] at h; done)
    | (cases b1 <;> simp [nilT, trueT, falseT] at h; done)
    | (cases b1 <;> cases b2 <;> first | rfl | (simp [trueT, falseT] at h; done))
    | (exact absurd h (fun e => ni (tr _).1 e))
    | (exact absurd h.symm (fun e => ni (tr _).1 e))
    | (exact absurd h (fun e => ni nl e))
    | (exact absurd h.symm (fun e => ni nl e))
    | (exact absurd h.symm (fun e => nr h2 nil_res e))
    | (exact absurd h (fun e => nr h1 nil_res e))
    | (exact absurd h.symm (fun e => nr h2 (tr _).2 e))
    | (exact absurd h (fun e => nr h1 (tr _).2 e))
    | (exact absurd h (fun e => lt h1 e))
    | (exact absurd h.symm (fun e => lt h2 e))
    | (rw [itoa_inj _ _ h])
    | (rw [h])

theorem sh_head {a : Node α} (hw : wfN W c wta a) : ∃ d r, shN s num a = d :: r ∧ first (kd num a) d = true := by
  rcases hw with rfl | ⟨b, rfl⟩ | ⟨n, rfl, _⟩ | ⟨l, rfl, _⟩ | ⟨l, rfl, h⟩ | ⟨es, rfl, _⟩ | ⟨ks, vs, rfl, _⟩
  · exact ⟨110, _, rfl, (by decide : isW 110 = true)⟩
  · rw [sh_bool]; cases b
    · exact ⟨102, _, rfl, (by decide : isW 102 = true)⟩
    · exact ⟨116, _, rfl, (by decide : isW 116 = true)⟩
  · obtain ⟨d, r, e, _, h⟩ := itoa_head n
    refine ⟨d, r, e, ?_⟩
    rcases h with h | h
    · exact isW_digit h
    · subst h; exact (by decide : isW 45 = true)
  · exact ⟨34, l ++ [34], rfl, rfl⟩
  · obtain ⟨d, r, e, h'⟩ := h.head
    exact ⟨d, r, e, isW_part (h.all d (by simp [e]))⟩
  · exact ⟨123, _, sh_set s num es, rfl⟩
  · by_cases q : counts num ks = true
    · exact ⟨60, _, sh_seq s num ks vs q, by rw [kd_seq num ks vs q]; rfl⟩
    · exact ⟨91, _, sh_fn s num ks vs q, by rw [kd_fn num ks vs q]; rfl⟩

theorem first_one {j k : Nat} {c : UInt8} (h : first j c = true) (h' : first k c = true) : j = k := by
  have two : isW c = true → c ≠ 34 ∧ c ≠ 123 ∧ c ≠ 60 ∧ c ≠ 91 := by
    intro hd
    refine ⟨?_, ?_, ?_, ?_⟩ <;> (intro e; subst e; exact absurd hd (by decide))
  have lo : ∀ i, first i c = true → i = 0 ∧ isW c = true ∨ i = 1 ∧ c = 34 ∨ i = 2 ∧ c = 123 ∨ i = 3 ∧ c = 60 ∨ i = 4 ∧ c = 91 := by
    intro i hi
    unfold first at hi
    repeat' split at hi
    all_goals first | (simp at hi; done) | simp_all
  rcases lo j h with ⟨rfl, x⟩ | ⟨rfl, x⟩ | ⟨rfl, x⟩ | ⟨rfl, x⟩ | ⟨rfl, x⟩ <;>
  rcases lo k h' with ⟨rfl, y⟩ | ⟨rfl, y⟩ | ⟨rfl, y⟩ | ⟨rfl, y⟩ | ⟨rfl, y⟩ <;>
  first | rfl | (exact absurd y (two x).1) | (exact absurd y (two x).2.1) | (exact absurd y (two x).2.2.1) | (exact absurd y (two x).2.2.2) | (exact absurd x (two y).1) | (exact absurd x (two y).2.1) | (exact absurd x (two y).2.2.1) | (exact absurd x (two y).2.2.2) | (rw [x] at y; simp at y)

theorem kd_one {a b : Node α} (ha : wfN W c wta a) (hb : wfN W c wta b) {r t : List UInt8} (h : shN s num a ++ r = shN s num b ++ t) : kd num a = kd num b := by
  obtain ⟨x, u, e, hc⟩ := sh_head s num W c wta ha
  obtain ⟨y, v, e', hd⟩ := sh_head s num W c wta hb
  rw [e, e'] at h
  simp only [List.cons_append, List.cons.injEq] at h
  rw [h.1] at hc
  exact first_one hc hd

theorem quote_cancel : ∀ (u v r s : List UInt8), (∀ c ∈ u, okText c = true) → (∀ c ∈ v, okText c = true) → u ++ 34 :: r = v ++ 34 :: s → u = v ∧ r = s
  | [], [], r, s, _, _, e => ⟨rfl, by simpa using e⟩
  | [], d :: v, r, s, _, hv, e => by
    simp only [List.nil_append, List.cons_append, List.cons.injEq] at e
    have := hv d (by simp); rw [← e.1] at this; exact absurd this (by decide)
  | c :: u, [], r, s, hu, _, e => by
    simp only [List.nil_append, List.cons_append, List.cons.injEq] at e
    have := hu c (by simp); rw [e.1] at this; exact absurd this (by decide)
  | c :: u, d :: v, r, s, hu, hv, e => by
    simp only [List.cons_append, List.cons.injEq] at e
    obtain ⟨h1, h2⟩ := quote_cancel u v r s (fun x hx => hu x (by simp [hx])) (fun x hx => hv x (by simp [hx])) e.2
    exact ⟨by rw [e.1, h1], h2⟩

/-- what is told of the parts: they can be cancelled, and open with a first byte -/
structure Part (s : α → List UInt8) (W : α → Prop) : Prop where
  can : ∀ a b r t, W a → W b → Delim r → Delim t → s a ++ r = s b ++ t → a = b ∧ r = t
  head : ∀ a, W a → ∃ d r k, s a = d :: r ∧ first k d = true

theorem no_head {s : α → List UInt8} {W : α → Prop} (H : Part s W) {a : α} (ha : W a) {c : UInt8} {r t : List UInt8} (hc : ∀ k, first k c = false) : s a ++ r ≠ c :: t := by
  obtain ⟨d, u, k, e, hd⟩ := H.head a ha
  rw [e]; intro h
  simp only [List.cons_append, List.cons.injEq] at h
  rw [h.1, hc] at hd; simp at hd

/-- a closing sign: it is no value's first byte, and no comma -/
structure Clo (cl : List UInt8) : Prop where
  ex : ∃ c r, cl = c :: r ∧ (∀ k, first k c = false) ∧ c ≠ 44
theorem Clo.delim {cl : List UInt8} (h : Clo cl) (r : List UInt8) : Delim (cl ++ r) := by
  obtain ⟨c, u, rfl, h1, _⟩ := h.ex
  exact delim_cons (h1 0)
theorem not_first {c : UInt8} (h : isW c = false ∧ c ≠ 34 ∧ c ≠ 123 ∧ c ≠ 60 ∧ c ≠ 91) (k : Nat) : first k c = false := by
  unfold first; repeat' split
  all_goals simp [h]
theorem clo_brace : Clo [125] := ⟨125, [], rfl, not_first (by decide), by decide⟩
theorem clo_angle : Clo [62, 62] := ⟨62, [62], rfl, not_first (by decide), by decide⟩

theorem delim_jT {cl : List UInt8} (h : Clo cl) (l : List (List UInt8)) (r : List UInt8) : Delim (jT cl l ++ r) := by
  cases l with
  | nil => exact h.delim r
  | cons a l => exact delim_cons (by decide)

theorem jT_can {s : α → List UInt8} {W : α → Prop} (H : Part s W) {cl : List UInt8} (hcl : Clo cl) : ∀ (l m : List α) (r t : List UInt8), (∀ x ∈ l, W x) → (∀ x ∈ m, W x) → Delim r → Delim t → jT cl (l.map s) ++ r = jT cl (m.map s) ++ t → l = m ∧ r = t
  | [], [], r, s, _, _, _, _, e => ⟨rfl, by simpa [jT] using e⟩
  | [], b :: m, r, s, _, _, _, _, e => by
    obtain ⟨c, u, rfl, _, h2⟩ := hcl.ex
    simp only [List.map, jT, List.cons_append, List.cons.injEq] at e
    exact absurd e.1 h2
  | a :: l, [], r, s, _, _, _, _, e => by
    obtain ⟨c, u, rfl, _, h2⟩ := hcl.ex
    simp only [List.map, jT, List.cons_append, List.cons.injEq] at e
    exact absurd e.1.symm h2
  | a :: l, b :: m, r, t, hl, hm, hr, hs, e => by
    simp only [List.map, jT, List.cons_append, List.cons.injEq, true_and, List.append_assoc] at e
    obtain ⟨h1, h2⟩ := H.can a b _ _ (hl a (by simp)) (hm b (by simp)) (delim_jT hcl _ r) (delim_jT hcl _ t) e
    obtain ⟨h3, h4⟩ := jT_can H hcl l m r t (fun x hx => hl x (by simp [hx])) (fun x hx => hm x (by simp [hx])) hr hs h2
    exact ⟨by rw [h1, h3], h4⟩

theorem jL_can {s : α → List UInt8} {W : α → Prop} (H : Part s W) {cl : List UInt8} (hcl : Clo cl) (l m : List α) (r t : List UInt8) (hl : ∀ x ∈ l, W x) (hm : ∀ x ∈ m, W x) (hr : Delim r) (hs : Delim t) (e : jL cl (l.map s) ++ r = jL cl (m.map s) ++ t) : l = m ∧ r = t := by
  obtain ⟨c, u, hc, h1, _⟩ := hcl.ex
  cases l with
  | nil =>
    cases m with
    | nil => exact ⟨rfl, by simpa [jL] using e⟩
    | cons b m =>
      simp only [List.map, jL, hc, List.cons_append, List.append_assoc] at e
      exact absurd e.symm (no_head H (hm b (by simp)) h1)
  | cons a l =>
    cases m with
    | nil =>
      simp only [List.map, jL, hc, List.cons_append, List.append_assoc] at e
      exact absurd e (no_head H (hl a (by simp)) h1)
    | cons b m =>
      simp only [List.map, jL, List.append_assoc] at e
      obtain ⟨h1, h2⟩ := H.can a b _ _ (hl a (by simp)) (hm b (by simp)) (delim_jT hcl _ r) (delim_jT hcl _ t) e
      obtain ⟨h3, h4⟩ := jT_can H hcl l m r t (fun x hx => hl x (by simp [hx])) (fun x hx => hm x (by simp [hx])) hr hs h2
      exact ⟨by rw [h1, h3], h4⟩

theorem jQ_nil (v : List (List UInt8)) : jQ [] v = [93] := by cases v <;> rfl
theorem jQ_nil' (k : List (List UInt8)) : jQ k [] = [93] := by cases k <;> rfl
theorem delim_jQ (k v : List (List UInt8)) (r : List UInt8) : Delim (jQ k v ++ r) := by
  cases k with
  | nil => rw [jQ_nil]; exact delim_cons (by decide)
  | cons a k =>
    cases v with
    | nil => rw [jQ_nil']; exact delim_cons (by decide)
    | cons b v => exact delim_cons (by decide)

theorem jQ_can {s : α → List UInt8} {W : α → Prop} (H : Part s W) : ∀ (k v k' v' : List α) (r t : List UInt8), (∀ x ∈ k, W x) → (∀ x ∈ v, W x) → (∀ x ∈ k', W x) → (∀ x ∈ v', W x) → k.length = v.length → k'.length = v'.length → Delim r → Delim t →
    jQ (k.map s) (v.map s) ++ r = jQ (k'.map s) (v'.map s) ++ t → k = k' ∧ v = v' ∧ r = t
  | [], v, k', v', r, s, _, _, _, _, hl, hl', _, _, e => by
    have hv : v = [] := List.length_eq_zero_iff.1 (by simpa using hl.symm)
    subst hv
    cases k' with
    | nil =>
      have hv' : v' = [] := List.length_eq_zero_iff.1 (by simpa using hl'.symm)
      subst hv'
      exact ⟨rfl, rfl, by simpa [jQ] using e⟩
    | cons a k' =>
      cases v' with
      | nil => simp at hl'
      | cons b v' => simp [jQ] at e
  | a :: k, [], k', v', r, s, _, _, _, _, hl, _, _, _, e => by simp at hl
  | a :: k, b :: v, [], v', r, s, _, _, _, _, _, hl', _, _, e => by simp [jQ] at e
  | a :: k, b :: v, c :: k', [], r, s, _, _, _, _, _, hl', _, _, e => by simp at hl'
  | a :: k, b :: v, c :: k', d :: v', r, t, hk, hv, wk, wv, hl, hl', hr, hs, e => by
    simp only [List.map, jQ, List.cons_append, List.cons.injEq, true_and, List.append_assoc] at e
    obtain ⟨h1, h2⟩ := H.can a c _ _ (hk a (by simp)) (wk c (by simp)) (delim_cons (by decide)) (delim_cons (by decide)) e
    simp only [List.cons.injEq, true_and] at h2
    obtain ⟨h3, h4⟩ := H.can b d _ _ (hv b (by simp)) (wv d (by simp)) (delim_jQ _ _ r) (delim_jQ _ _ t) h2
    obtain ⟨h5, h6, h7⟩ := jQ_can H k v k' v' r t (fun x hx => hk x (by simp [hx])) (fun x hx => hv x (by simp [hx])) (fun x hx => wk x (by simp [hx])) (fun x hx => wv x (by simp [hx])) (by simpa using hl) (by simpa using hl') hr hs h4
    exact ⟨by rw [h1, h5], by rw [h3, h6], h7⟩

theorem counts_of {num : α → Option Int} {W : α → Prop} (hn : ∀ a b n, W a → W b → num a = some n → num b = some n → a = b) : ∀ (i : Nat) (k l : List α), (∀ x ∈ k, W x) → (∀ x ∈ l, W x) → countsFrom num i k = true → countsFrom num i l = true → k.length = l.length → k = l
  | _, [], [], _, _, _, _, _ => rfl
  | _, [], _ :: _, _, _, _, _, h => by simp at h
  | _, _ :: _, [], _, _, _, _, h => by simp at h
  | i, a :: k, b :: l, wk, wl, ha, hb, h => by
    simp only [countsFrom, Bool.and_eq_true, beq_iff_eq] at ha hb
    rw [hn a b i (wk a (by simp)) (wl b (by simp)) ha.1 hb.1, counts_of hn (i + 1) k l (fun x hx => wk x (by simp [hx])) (fun x hx => wl x (by simp [hx])) ha.2 hb.2 (by simpa using h)]

theorem part_node {s : α → List UInt8} {num : α → Option Int} {W : α → Prop} (H : Part s W) (hn : ∀ a b n, W a → W b → num a = some n → num b = some n → a = b) (c : α → α → Int) (wta : α → Nat) : Part (shN s num) (wfN W c wta) := by
  constructor
  · intro a b r t ha hb hr ht e
    have hk := kd_one s num W c wta ha hb e
    by_cases k0 : kd num a = 0
    · have k0' : kd num b = 0 := by omega
      obtain ⟨h1, h2⟩ := run_cancel _ _ r t (word_bytes s num W c wta ha k0) (word_bytes s num W c wta hb k0') hr ht e
      exact ⟨word_inj s num W c wta ha hb k0 k0' h1, h2⟩
    · have k0' : ¬ kd num b = 0 := by omega
      have no : ∀ x : Node α, x.kind ≠ 3 → x.kind ≠ 5 → x.kind ≠ 6 → kd num x = 0 := by
        intro x h3 h5 h6; simp [kd, h3, h5, h6]
      rcases ha with rfl | ⟨b1, rfl⟩ | ⟨n1, rfl, _⟩ | ⟨l1, rfl, hl1⟩ | ⟨l1, rfl, _⟩ | ⟨es, rfl, we, _⟩ | ⟨ks, vs, rfl, wk, wv, _, len, _⟩
      all_goals first | (exfalso; refine k0 (no _ ?_ ?_ ?_) <;> (simp [mkNil, mkBool, mkInt, mkAtom]; done)) | skip
      all_goals rcases hb with rfl | ⟨b2, rfl⟩ | ⟨n2, rfl, _⟩ | ⟨l2, rfl, hl2⟩ | ⟨l2, rfl, _⟩ | ⟨es', rfl, we', _⟩ | ⟨ks', vs', rfl, wk', wv', _, len', _⟩
      all_goals first | (exfalso; refine k0' (no _ ?_ ?_ ?_) <;> (simp [mkNil, mkBool, mkInt, mkAtom]; done)) | skip
      · simp only [sh_text, List.cons_append, List.cons.injEq, true_and, List.append_assoc, List.nil_append] at e
        obtain ⟨h1, h2⟩ := quote_cancel l1 l2 r t hl1 hl2 e
        exact ⟨by rw [h1], h2⟩
      · exact absurd hk (by simp [kd, mkText, mkSet])
      · exact absurd hk (by by_cases q : counts num ks' = true
                            · rw [kd_seq num ks' vs' q]; simp [kd, mkText]
                            · rw [kd_fn num ks' vs' q]; simp [kd, mkText])
      · exact absurd hk (by simp [kd, mkText, mkSet])
      · simp only [sh_set, List.cons_append, List.cons.injEq, true_and] at e
        obtain ⟨h1, h2⟩ := jL_can H clo_brace es es' r t we we' hr ht e
        exact ⟨by rw [h1], h2⟩
      · exact absurd hk (by by_cases q : counts num ks' = true
                            · rw [kd_seq num ks' vs' q]; simp [kd, mkSet]
                            · rw [kd_fn num ks' vs' q]; simp [kd, mkSet])
      · exact absurd hk (by by_cases q : counts num ks = true
                            · rw [kd_seq num ks vs q]; simp [kd, mkText]
                            · rw [kd_fn num ks vs q]; simp [kd, mkText])
      · exact absurd hk (by by_cases q : counts num ks = true
                            · rw [kd_seq num ks vs q]; simp [kd, mkSet]
                            · rw [kd_fn num ks vs q]; simp [kd, mkSet])
      · by_cases q : counts num ks = true
        · by_cases q' : counts num ks' = true
          · simp only [sh_seq _ _ _ _ q, sh_seq _ _ _ _ q', List.cons_append, List.cons.injEq, true_and] at e
            obtain ⟨h1, h2⟩ := jL_can H clo_angle vs vs' r t wv wv' hr ht e
            have hl : ks.length = ks'.length := by rw [len, len', h1]
            rw [counts_of hn 1 ks ks' wk wk' q q' hl, h1]
            exact ⟨rfl, h2⟩
          · rw [kd_seq num ks vs q, kd_fn num ks' vs' q'] at hk; simp at hk
        · by_cases q' : counts num ks' = true
          · rw [kd_fn num ks vs q, kd_seq num ks' vs' q'] at hk; simp at hk
          · simp only [sh_fn _ _ _ _ q, sh_fn _ _ _ _ q', List.cons_append, List.cons.injEq, true_and] at e
            cases ks with
            | nil => exact absurd rfl q
            | cons k ks =>
              cases ks' with
              | nil => exact absurd rfl q'
              | cons k' ks' =>
                cases vs with
                | nil => simp at len
                | cons v vs =>
                  cases vs' with
                  | nil => simp at len'
                  | cons v' vs' =>
                    simp only [List.map, jP, List.append_assoc, List.cons_append] at e
                    obtain ⟨h1, h2⟩ := H.can k k' _ _ (wk k (by simp)) (wk' k' (by simp)) (delim_cons (by decide)) (delim_cons (by decide)) e
                    simp only [List.cons.injEq, true_and] at h2
                    obtain ⟨h3, h4⟩ := H.can v v' _ _ (wv v (by simp)) (wv' v' (by simp)) (delim_jQ _ _ r) (delim_jQ _ _ t) h2
                    obtain ⟨h5, h6, h7⟩ := jQ_can H ks vs ks' vs' r t (fun x hx => wk x (by simp [hx])) (fun x hx => wv x (by simp [hx])) (fun x hx => wk' x (by simp [hx])) (fun x hx => wv' x (by simp [hx])) (by simpa using len) (by simpa using len') hr ht h4
                    exact ⟨by rw [h1, h3, h5, h6], h7⟩
  · intro a ha
    obtain ⟨d, r, e, h⟩ := sh_head s num W c wta ha
    exact ⟨d, r, _, e, h⟩
end

theorem num_inj : ∀ (n : Nat) (a b : AV n) (i : Int), WF n a → WF n b → numOf n a = some i → numOf n b = some i → a = b
  | 0, a, _, _, _, _, _, _ => Empty.elim a
  | n + 1, a, b, i, ha, hb, ea, eb => by
    have one : ∀ x : AV (n + 1), WF (n + 1) x → numOf (n + 1) x = some i → x = (mkInt i : Node (AV n)) := by
      intro x hx ex
      simp only [numOf] at ex
      split at ex
      · rename_i hk
        rcases hx with rfl | ⟨b, rfl⟩ | ⟨m, rfl, _⟩ | ⟨l, rfl, _⟩ | ⟨l, rfl, _⟩ | ⟨es, rfl, _⟩ | ⟨ks, vs, rfl, _⟩
        · exact absurd hk (by simp [mkNil])
        · exact absurd hk (by simp [mkBool])
        · simp only [mkInt, Option.some.injEq] at ex; rw [ex]
        · exact absurd hk (by simp [mkText])
        · exact absurd hk (by simp [mkAtom])
        · exact absurd hk (by simp [mkSet])
        · exact absurd hk (by simp [mkFn])
      · simp at ex
    rw [one a ha ea, one b hb eb]

theorem part : ∀ n, Part (sh n) (WF n)
  | 0 => ⟨fun a => Empty.elim a, fun a => Empty.elim a⟩
  | n + 1 => part_node (part n) (num_inj n) (cmpV n) (wt n)

theorem sh_inj {n : Nat} {a b : AV n} (ha : WF n a) (hb : WF n b) (h : sh n a = sh n b) : a = b :=
  ((part n).can a b [] [] ha hb delim_nil delim_nil (by rw [h])).1

theorem sh_iff {n : Nat} {a b : AV n} (ha : WF n a) (hb : WF n b) : cmpV n a b = 0 ↔ sh n a = sh n b :=
  ⟨fun h => by rw [(cmpV_eq n a b).1 h], fun h => (cmpV_eq n a b).2 (sh_inj ha hb h)⟩

end Go.Proofs.YtbogejmmkohbkaaGreatDoor.Sx
