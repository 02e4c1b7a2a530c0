/- Plain mathematics: values as trees (by levels), their order. Nothing of the program. -/
import Derived.Lib.Bytealg
import Derived.Lib.Small
import Derived.Lib.ItoaNum
import Derived.Lib.ParseIntB
namespace Go.Proofs.YtjbekejcghjhbaaGreatDoor.Sx

structure Node (α : Type) where
  kind : Nat
  int : Int
  text : List UInt8
  keys : List α
  vals : List α

/-- a value of fewer than n levels -/
def AV : Nat → Type
  | 0 => Empty
  | n + 1 => Node (AV n)

def mkNil {α : Type} : Node α := ⟨0, 0, [], [], []⟩
def mkBool {α : Type} (b : Bool) : Node α := ⟨1, if b then 1 else 0, [], [], []⟩
def mkInt {α : Type} (n : Int) : Node α := ⟨2, n, [], [], []⟩
def mkText {α : Type} (l : List UInt8) : Node α := ⟨3, 0, l, [], []⟩
def mkAtom {α : Type} (l : List UInt8) : Node α := ⟨4, 0, l, [], []⟩
def mkSet {α : Type} (es : List α) : Node α := ⟨5, 0, [], es, []⟩
def mkFn {α : Type} (ks vs : List α) : Node α := ⟨6, 0, [], ks, vs⟩

def then2 (x y : Int) : Int := if x = 0 then y else x

/-- lists, one by one -/
def cmpL {α : Type} (c : α → α → Int) : List α → List α → Int
  | [], [] => 0
  | [], _ :: _ => -1
  | _ :: _, [] => 1
  | a :: as, b :: bs => then2 (c a b) (cmpL c as bs)

/-- the shorter one first -/
def cmpS {α : Type} (c : α → α → Int) (a b : List α) : Int := then2 (Lib.compareInt a.length b.length) (cmpL c a b)

def cmpN {α : Type} (c : α → α → Int) (a b : Node α) : Int :=
  then2 (Lib.compareInt a.kind b.kind) (then2 (Lib.compareInt a.int b.int) (then2 (Lib.compareBytes a.text b.text) (then2 (cmpS c a.keys b.keys) (cmpS c a.vals b.vals))))

def cmpV : (n : Nat) → AV n → AV n → Int
  | 0, _, _ => 0
  | n + 1, a, b => cmpN (cmpV n) a b

/-- a comparison in three that is an order -/
structure Ord3 {α : Type} (c : α → α → Int) : Prop where
  rng : ∀ a b, c a b = -1 ∨ c a b = 0 ∨ c a b = 1
  anti : ∀ a b, c b a = - c a b
  trans : ∀ a b d, c a b ≤ 0 → c b d ≤ 0 → c a d ≤ 0

theorem Ord3.sub {α : Type} {c : α → α → Int} (h : Ord3 c) {a b : α} (e : c a b = 0) (d : α) : c a d = c b d := by
  have e' : c b a = 0 := by rw [h.anti a b, e]; rfl
  have h1 := h.trans a b d (by omega)
  have h2 := h.trans b a d (by omega)
  have h3 := fun q => h.trans d a b q (by omega)
  have h4 := fun q => h.trans d b a q (by omega)
  have r1 := h.rng a d
  have r2 := h.rng b d
  rw [h.anti a d, h.anti b d] at h3
  rw [h.anti a d, h.anti b d] at h4
  omega
theorem Ord3.self {α : Type} {c : α → α → Int} (h : Ord3 c) (a : α) : c a a = 0 := by
  have := h.anti a a; omega

theorem Ord3.pull {α β : Type} {c : α → α → Int} (h : Ord3 c) (f : β → α) : Ord3 (fun a b => c (f a) (f b)) :=
  ⟨fun _ _ => h.rng _ _, fun _ _ => h.anti _ _, fun _ _ _ => h.trans _ _ _⟩

theorem Ord3.lex {α : Type} {c d : α → α → Int} (h : Ord3 c) (k : Ord3 d) : Ord3 (fun a b => then2 (c a b) (d a b)) := by
  constructor
  · intro a b
    have := h.rng a b; have := k.rng a b
    simp only [then2]; split <;> assumption
  · intro a b
    have h1 := h.anti a b; have h2 := k.anti a b
    simp only [then2, h1, h2]
    by_cases e : c a b = 0
    · simp [e]
    · rw [if_neg (by omega), if_neg e]
  · intro a b x h1 h2
    simp only [then2] at h1 h2 ⊢
    by_cases e : c a b = 0
    · rw [if_pos e] at h1
      rw [h.sub e x]
      by_cases e2 : c b x = 0
      · rw [if_pos e2] at h2 ⊢; exact k.trans a b x h1 h2
      · rw [if_neg e2] at h2 ⊢; exact h2
    · rw [if_neg e] at h1
      have a1 := h.anti a b
      by_cases e2 : c b x = 0
      · have := h.trans a b x h1 (by omega)
        have n : c a x ≠ 0 := by
          intro q
          have s := h.sub q b
          have a2 := h.anti b x
          omega
        rw [if_neg n]; exact this
      · rw [if_neg e2] at h2
        have := h.trans a b x h1 h2
        have n : c a x ≠ 0 := by
          intro q
          have s := h.sub q b
          have a2 := h.anti b x
          omega
        rw [if_neg n]; exact this

theorem ord_int : Ord3 Lib.compareInt := by
  constructor
  · intro a b; unfold Lib.compareInt; split; · simp
    split <;> simp
  · intro a b; unfold Lib.compareInt; repeat' split
    all_goals omega
  · intro a b d; unfold Lib.compareInt; repeat' split
    all_goals omega
theorem cint_eq (a b : Int) : Lib.compareInt a b = 0 ↔ a = b := by
  unfold Lib.compareInt; repeat' split
  all_goals omega
theorem cint_le (a b : Int) : Lib.compareInt a b ≤ 0 ↔ a ≤ b := by
  unfold Lib.compareInt; repeat' split
  all_goals omega

theorem ord_bytes : Ord3 Lib.compareBytes := by
  constructor
  · intro a
    induction a with
    | nil => intro b; cases b <;> simp [Lib.compareBytes]
    | cons x a ih =>
      intro b
      cases b with
      | nil => simp [Lib.compareBytes]
      | cons y b =>
        simp only [Lib.compareBytes]; repeat' split
        all_goals first | exact ih b | simp
  · intro a
    induction a with
    | nil => intro b; cases b <;> simp [Lib.compareBytes]
    | cons x a ih =>
      intro b
      cases b with
      | nil => simp [Lib.compareBytes]
      | cons y b =>
        simp only [Lib.compareBytes, UInt8.lt_iff_toNat_lt]
        repeat' split
        all_goals first | omega | exact ih b
  · intro a
    induction a with
    | nil => intro b d; cases d <;> simp [Lib.compareBytes]
    | cons x a ih =>
      intro b d
      cases b with
      | nil => simp [Lib.compareBytes]
      | cons y b =>
        cases d with
        | nil => simp [Lib.compareBytes]
        | cons z d =>
          simp only [Lib.compareBytes, UInt8.lt_iff_toNat_lt]
          repeat' split
          all_goals first | omega | exact ih b d | skip
          all_goals (intro h1 h2; first | omega | (exact ih b d h1 h2))
theorem cby_eq (a b : List UInt8) : Lib.compareBytes a b = 0 ↔ a = b := by
  induction a generalizing b with
  | nil => cases b <;> simp [Lib.compareBytes]
  | cons x a ih =>
    cases b with
    | nil => simp [Lib.compareBytes]
    | cons y b =>
      simp only [Lib.compareBytes, UInt8.lt_iff_toNat_lt, List.cons.injEq]
      have hxy : x = y ↔ x.toNat = y.toNat := UInt8.toNat_inj.symm
      repeat' split
      · simp; intro h; rw [hxy] at h; omega
      · simp; intro h; rw [hxy] at h; omega
      · rw [ih b, hxy]; constructor
        · intro h; exact ⟨by omega, h⟩
        · intro h; exact h.2

theorem ord_list {α : Type} {c : α → α → Int} (h : Ord3 c) : Ord3 (cmpL c) := by
  constructor
  · intro a
    induction a with
    | nil => intro b; cases b <;> simp [cmpL]
    | cons x a ih =>
      intro b
      cases b with
      | nil => simp [cmpL]
      | cons y b =>
        have := h.rng x y; have := ih b
        simp only [cmpL, then2]; split <;> assumption
  · intro a
    induction a with
    | nil => intro b; cases b <;> simp [cmpL]
    | cons x a ih =>
      intro b
      cases b with
      | nil => simp [cmpL]
      | cons y b =>
        have h1 := h.anti x y; have h2 := ih b
        simp only [cmpL, then2, h1, h2]
        by_cases e : c x y = 0
        · simp [e]
        · rw [if_neg (by omega), if_neg e]
  · intro a
    induction a with
    | nil => intro b d; cases d <;> simp [cmpL]
    | cons x a ih =>
      intro b d
      cases b with
      | nil => simp [cmpL]
      | cons y b =>
        cases d with
        | nil => simp [cmpL]
        | cons z d =>
          intro h1 h2
          simp only [cmpL, then2] at h1 h2 ⊢
          by_cases e : c x y = 0
          · rw [if_pos e] at h1
            rw [h.sub e z]
            by_cases e2 : c y z = 0
            · rw [if_pos e2] at h2 ⊢; exact ih b d h1 h2
            · rw [if_neg e2] at h2 ⊢; exact h2
          · rw [if_neg e] at h1
            have a1 := h.anti x y
            by_cases e2 : c y z = 0
            · have := h.trans x y z h1 (by omega)
              have n : c x z ≠ 0 := by
                intro q
                have s := h.sub q y
                have a2 := h.anti y z
                omega
              rw [if_neg n]; exact this
            · rw [if_neg e2] at h2
              have := h.trans x y z h1 h2
              have n : c x z ≠ 0 := by
                intro q
                have s := h.sub q y
                have a2 := h.anti y z
                omega
              rw [if_neg n]; exact this

theorem ord_rows {α : Type} {c : α → α → Int} (h : Ord3 c) : Ord3 (cmpS c) :=
  (ord_int.pull (fun a : List α => (a.length : Int))).lex (ord_list h)

theorem ord_node {α : Type} {c : α → α → Int} (h : Ord3 c) : Ord3 (cmpN c) :=
  (ord_int.pull (fun a : Node α => (a.kind : Int))).lex ((ord_int.pull (fun a : Node α => a.int)).lex ((ord_bytes.pull (fun a : Node α => a.text)).lex (((ord_rows h).pull (fun a : Node α => a.keys)).lex ((ord_rows h).pull (fun a : Node α => a.vals)))))

theorem ord (n : Nat) : Ord3 (cmpV n) := by
  induction n with
  | zero => exact ⟨fun a => Empty.elim a, fun a => Empty.elim a, fun a => Empty.elim a⟩
  | succ n ih => exact ord_node ih

theorem cmpL_eq {α : Type} {c : α → α → Int} (h : ∀ a b, c a b = 0 ↔ a = b) : ∀ a b : List α, cmpL c a b = 0 ↔ a = b
  | [], [] => by simp [cmpL]
  | [], _ :: _ => by simp [cmpL]
  | _ :: _, [] => by simp [cmpL]
  | x :: a, y :: b => by
    have h1 := h x y; have h2 := cmpL_eq h a b
    simp only [cmpL, then2, List.cons.injEq]
    by_cases e : c x y = 0
    · rw [if_pos e, h2]; exact ⟨fun q => ⟨h1.1 e, q⟩, fun q => q.2⟩
    · rw [if_neg e]; exact ⟨fun q => absurd q e, fun q => absurd (h1.2 q.1) e⟩
theorem cmpS_eq {α : Type} {c : α → α → Int} (h : ∀ a b, c a b = 0 ↔ a = b) (a b : List α) : cmpS c a b = 0 ↔ a = b := by
  simp only [cmpS, then2]
  by_cases e : Lib.compareInt a.length b.length = 0
  · rw [if_pos e]; exact cmpL_eq h a b
  · rw [if_neg e]
    refine ⟨fun q => absurd q e, fun q => ?_⟩
    subst q; exact (cint_eq _ _).2 rfl
theorem then2_eq (x y : Int) : then2 x y = 0 ↔ x = 0 ∧ y = 0 := by
  unfold then2; split <;> simp_all
theorem cmpN_eq {α : Type} {c : α → α → Int} (h : ∀ a b, c a b = 0 ↔ a = b) (a b : Node α) : cmpN c a b = 0 ↔ a = b := by
  obtain ⟨k, i, t, ks, vs⟩ := a
  obtain ⟨k', i', t', ks', vs'⟩ := b
  simp only [cmpN, then2_eq, cint_eq, cby_eq, cmpS_eq h, Node.mk.injEq]
  constructor
  · rintro ⟨a, b, c, d, e⟩; exact ⟨by omega, b, c, d, e⟩
  · rintro ⟨a, b, c, d, e⟩; exact ⟨by omega, b, c, d, e⟩
theorem cmpV_eq : ∀ (n : Nat) (a b : AV n), cmpV n a b = 0 ↔ a = b
  | 0, a, _ => Empty.elim a
  | n + 1, a, b => cmpN_eq (cmpV_eq n) a b

end Go.Proofs.YtjbekejcghjhbaaGreatDoor.Sx

namespace Go.Proofs.YtjbekejcghjhbaaGreatDoor.Sx

def isLetter (c : UInt8) : Bool := (97 ≤ c && c ≤ 122) || (65 ≤ c && c ≤ 90)
def isDigit (c : UInt8) : Bool := 48 ≤ c && c ≤ 57
def isPart (c : UInt8) : Bool := isLetter c || isDigit c || c == 95

def str (s : String) : List UInt8 := s.toUTF8.data.toList

def reservedWords : List (List UInt8) := ["module", "constant", "atoms", "symmetric", "variable", "define", "init", "action", "fair", "weak", "strong", "invariant", "property", "and", "or", "not", "implies", "iff", "in", "union", "inter", "minus", "subset", "powerset", "flatten", "domain", "unchanged", "enabled", "always", "eventually", "until", "leadsto", "choose", "all", "some", "each", "those", "fun", "if", "then", "else", "let", "nil", "true", "false", "size", "len", "head", "tail", "append", "values", "seqs"].map str

def isReserved (l : List UInt8) : Bool := reservedWords.contains l

def nilT : List UInt8 := [110, 105, 108]
def trueT : List UInt8 := [116, 114, 117, 101]
def falseT : List UInt8 := [102, 97, 108, 115, 101]

structure IsName (l : List UInt8) : Prop where
  len : l.length ≤ 16
  head : ∃ c r, l = c :: r ∧ isLetter c = true
  all : ∀ c ∈ l, isPart c = true
  free : isReserved l = false

def okText (c : UInt8) : Bool := 32 ≤ c && c ≤ 126 && c != 34 && c != 92

def numOf : (n : Nat) → AV n → Option Int
  | 0, _ => none
  | _ + 1, a => if Node.kind a = 2 then some (Node.int a) else none

def countsFrom {α : Type} (num : α → Option Int) : Nat → List α → Bool
  | _, [] => true
  | i, a :: l => num a == some (i : Int) && countsFrom num (i + 1) l
def counts {α : Type} (num : α → Option Int) (l : List α) : Bool := countsFrom num 1 l

def wtL {α : Type} (wt : α → Nat) (l : List α) : Nat := (l.map wt).sum
def wtN {α : Type} (wt : α → Nat) (a : Node α) : Nat := if a.kind = 5 then 1 + wtL wt a.keys else if a.kind = 6 then 1 + wtL wt a.keys + wtL wt a.vals else 1
def wt : (n : Nat) → AV n → Nat
  | 0, _ => 0
  | n + 1, a => wtN (wt n) a

def jT (cl : List UInt8) : List (List UInt8) → List UInt8
  | [] => cl
  | a :: l => 44 :: 32 :: (a ++ jT cl l)
def jL (cl : List UInt8) : List (List UInt8) → List UInt8
  | [] => cl
  | a :: l => a ++ jT cl l
def jQ : List (List UInt8) → List (List UInt8) → List UInt8
  | k :: ks, v :: vs => 44 :: 32 :: (k ++ 58 :: 32 :: (v ++ jQ ks vs))
  | _, _ => [93]
def jP : List (List UInt8) → List (List UInt8) → List UInt8
  | k :: ks, v :: vs => k ++ 58 :: 32 :: (v ++ jQ ks vs)
  | _, _ => [93]

def shN {α : Type} (s : α → List UInt8) (num : α → Option Int) (a : Node α) : List UInt8 :=
  if a.kind = 0 then nilT
  else if a.kind = 1 then (if a.int = 1 then trueT else falseT)
  else if a.kind = 2 then Lib.itoa a.int
  else if a.kind = 3 then 34 :: (a.text ++ [34])
  else if a.kind = 4 then a.text
  else if a.kind = 5 then 123 :: jL [125] (a.keys.map s)
  else if counts num a.keys then 60 :: 60 :: jL [62, 62] (a.vals.map s)
  else 91 :: jP (a.keys.map s) (a.vals.map s)
def sh : (n : Nat) → AV n → List UInt8
  | 0, _ => []
  | n + 1, a => shN (sh n) (numOf n) a

def Asc {α : Type} (c : α → α → Int) (l : List α) : Prop := l.Pairwise fun a b => c a b < 0

def wfN {α : Type} (W : α → Prop) (c : α → α → Int) (wt : α → Nat) (a : Node α) : Prop :=
  a = mkNil ∨ (∃ b, a = mkBool b) ∨ (∃ n, a = mkInt n ∧ -9223372036854775808 ≤ n ∧ n ≤ 9223372036854775807) ∨
  (∃ l, a = mkText l ∧ ∀ c ∈ l, okText c = true) ∨ (∃ l, a = mkAtom l ∧ IsName l) ∨
  (∃ es, a = mkSet es ∧ (∀ x ∈ es, W x) ∧ Asc c es ∧ 1 + wtL wt es ≤ 1024) ∨
  (∃ ks vs, a = mkFn ks vs ∧ (∀ x ∈ ks, W x) ∧ (∀ x ∈ vs, W x) ∧ Asc c ks ∧ ks.length = vs.length ∧ 1 + wtL wt ks + wtL wt vs ≤ 1024)
def WF : (n : Nat) → AV n → Prop
  | 0, _ => True
  | n + 1, a => wfN (WF n) (cmpV n) (wt n) a

/-- bytes of words and of numbers -/
def isW (c : UInt8) : Bool := isPart c || c == 45

def Delim (r : List UInt8) : Prop := ∀ c l, r = c :: l → isW c = false

theorem delim_cons {c : UInt8} {l : List UInt8} (h : isW c = false) : Delim (c :: l) := by
  intro d m e; simp only [List.cons.injEq] at e; rw [← e.1]; exact h
theorem delim_nil : Delim [] := by intro c l e; simp at e

theorem run_cancel : ∀ (u v r s : List UInt8), (∀ c ∈ u, isW c = true) → (∀ c ∈ v, isW c = true) → Delim r → Delim s → u ++ r = v ++ s → u = v ∧ r = s
  | [], [], r, s, _, _, _, _, e => ⟨rfl, by simpa using e⟩
  | [], d :: v, r, s, _, hv, hr, _, e => by
    have := hr d (v ++ s) (by simpa using e)
    rw [hv d (by simp)] at this; simp at this
  | c :: u, [], r, s, hu, _, _, hs, e => by
    have := hs c (u ++ r) (by simpa using e.symm)
    rw [hu c (by simp)] at this; simp at this
  | c :: u, d :: v, r, s, hu, hv, hr, hs, e => by
    simp only [List.cons_append, List.cons.injEq] at e
    obtain ⟨e1, e2⟩ := e
    obtain ⟨h1, h2⟩ := run_cancel u v r s (fun x hx => hu x (by simp [hx])) (fun x hx => hv x (by simp [hx])) hr hs e2
    exact ⟨by rw [e1, h1], h2⟩

theorem isW_digit {c : UInt8} (h : isDigit c = true) : isW c = true := by simp [isW, isPart, h]
theorem isW_part {c : UInt8} (h : isPart c = true) : isW c = true := by simp [isW, h]

theorem digit_of (k : Nat) (h : k < 10) : (UInt8.ofNat (48 + k)).toNat = 48 + k := by
  simp; omega
theorem decDigits_digit (n : Nat) : ∀ c ∈ Lib.decDigits n, isDigit c = true := by
  induction n using Nat.strongRecOn with
  | ind n ih =>
    intro c hc
    rw [Lib.decDigits] at hc
    split at hc
    · rename_i hn
      simp only [List.mem_singleton] at hc
      subst hc
      simp [isDigit, UInt8.le_iff_toNat_le]; omega
    · simp only [List.mem_append, List.mem_singleton] at hc
      rcases hc with hc | hc
      · exact ih (n / 10) (by omega) c hc
      · subst hc
        simp [isDigit, UInt8.le_iff_toNat_le]; omega
theorem decDigits_ne (n : Nat) : Lib.decDigits n ≠ [] := by
  rw [Lib.decDigits]; split <;> simp
theorem decDigits_inj : ∀ (n m : Nat), Lib.decDigits n = Lib.decDigits m → n = m := by
  intro n
  induction n using Nat.strongRecOn with
  | ind n ih =>
    intro m h
    rw [Lib.decDigits.eq_def n, Lib.decDigits.eq_def m] at h
    split at h <;> split at h
    · rename_i h1 h2
      simp only [List.cons.injEq, and_true] at h
      have := congrArg UInt8.toNat h
      rw [digit_of n h1, digit_of m h2] at this; omega
    · have := congrArg List.length h
      simp at this
      exact absurd this (decDigits_ne _)
    · have := congrArg List.length h
      simp at this
      exact absurd this (decDigits_ne _)
    · obtain ⟨e1, e2⟩ := List.append_inj' h (by simp)
      have a := ih (n / 10) (by omega) (m / 10) e1
      simp only [List.cons.injEq, and_true] at e2
      have b := congrArg UInt8.toNat e2
      rw [digit_of _ (by omega), digit_of _ (by omega)] at b; omega
theorem itoa_W (n : Int) : ∀ c ∈ Lib.itoa n, isW c = true := by
  intro c hc
  unfold Lib.itoa at hc
  split at hc
  · rcases List.mem_cons.1 hc with hc | hc
    · subst hc; decide
    · exact isW_digit (decDigits_digit _ c hc)
  · exact isW_digit (decDigits_digit _ c hc)
theorem digit_ne (c : UInt8) (h : isDigit c = true) : c ≠ 45 ∧ isLetter c = false := by
  simp [isDigit, UInt8.le_iff_toNat_le] at h
  refine ⟨fun e => by subst e; simp at h, ?_⟩
  simp [isLetter, UInt8.le_iff_toNat_le]; omega
theorem decDigits_cons (n : Nat) : ∃ c r, Lib.decDigits n = c :: r ∧ isDigit c = true := by
  cases h : Lib.decDigits n with
  | nil => exact absurd h (decDigits_ne n)
  | cons c r => exact ⟨c, r, rfl, decDigits_digit n c (by simp [h])⟩
theorem itoa_inj (n m : Int) (h : Lib.itoa n = Lib.itoa m) : n = m := by
  unfold Lib.itoa at h
  obtain ⟨c, r, e, hc⟩ := decDigits_cons n.toNat
  obtain ⟨c', r', e', hc'⟩ := decDigits_cons m.toNat
  split at h <;> split at h
  · simp only [List.cons.injEq, true_and] at h
    have := decDigits_inj _ _ h; omega
  · rw [e'] at h; simp only [List.cons.injEq] at h
    exact absurd h.1.symm (digit_ne c' hc').1
  · rw [e] at h; simp only [List.cons.injEq] at h
    exact absurd h.1 (digit_ne c hc).1
  · have := decDigits_inj _ _ h; omega
theorem itoa_head (n : Int) : ∃ c r, Lib.itoa n = c :: r ∧ isLetter c = false ∧ (isDigit c = true ∨ c = 45) := by
  unfold Lib.itoa
  obtain ⟨c, r, e, hc⟩ := decDigits_cons n.toNat
  split
  · exact ⟨45, _, rfl, by decide, .inr rfl⟩
  · exact ⟨c, r, e, (digit_ne c hc).2, .inl hc⟩

theorem nil_res : isReserved nilT = true := by decide +kernel
theorem true_res : isReserved trueT = true := by decide +kernel
theorem false_res : isReserved falseT = true := by decide +kernel

section
variable {α : Type} (s : α → List UInt8) (num : α → Option Int)

theorem sh_nil : shN s num mkNil = nilT := rfl
theorem sh_bool (b : Bool) : shN s num (mkBool b) = if b then trueT else falseT := by cases b <;> rfl
theorem sh_int (n : Int) : shN s num (mkInt n) = Lib.itoa n := rfl
theorem sh_text (l : List UInt8) : shN s num (mkText l) = 34 :: (l ++ [34]) := rfl
theorem sh_atom (l : List UInt8) : shN s num (mkAtom l) = l := rfl
theorem sh_set (es : List α) : shN s num (mkSet es) = 123 :: jL [125] (es.map s) := rfl
theorem sh_seq (ks vs : List α) (h : counts num ks = true) : shN s num (mkFn ks vs) = 60 :: 60 :: jL [62, 62] (vs.map s) := by
  show (if counts num ks = true then _ else _) = _; rw [if_pos h]; rfl
theorem sh_fn (ks vs : List α) (h : ¬ counts num ks = true) : shN s num (mkFn ks vs) = 91 :: jP (ks.map s) (vs.map s) := by
  show (if counts num ks = true then _ else _) = _; rw [if_neg h]; rfl

/-- what a value's text opens with: 0 a word or a number, 1 a quote, 2 a brace, 3 an angle, 4 a square bracket -/
def kd (a : Node α) : Nat :=
  if a.kind = 3 then 1 else if a.kind = 5 then 2 else if a.kind = 6 then (if counts num a.keys then 3 else 4) else 0
theorem kd_seq (ks vs : List α) (h : counts num ks = true) : kd num (mkFn ks vs) = 3 := by
  show (if counts num ks = true then 3 else 4) = 3; rw [if_pos h]
theorem kd_fn (ks vs : List α) (h : ¬ counts num ks = true) : kd num (mkFn ks vs) = 4 := by
  show (if counts num ks = true then 3 else 4) = 4; rw [if_neg h]

def first (k : Nat) (c : UInt8) : Bool :=
  if k = 0 then isW c else if k = 1 then c == 34 else if k = 2 then c == 123 else if k = 3 then c == 60 else if k = 4 then c == 91 else false

variable (W : α → Prop) (c : α → α → Int) (wta : α → Nat)

theorem word_bytes {a : Node α} (hw : wfN W c wta a) (hk : kd num a = 0) : ∀ c ∈ shN s num a, isW c = true := by
  rcases hw with rfl | ⟨b, rfl⟩ | ⟨n, rfl, _⟩ | ⟨l, rfl, _⟩ | ⟨l, rfl, h⟩ | ⟨es, rfl, _⟩ | ⟨ks, vs, rfl, _⟩
  · rw [sh_nil]; decide
  · rw [sh_bool]; cases b <;> decide
  · rw [sh_int]; exact itoa_W n
  · exact absurd hk (by simp [kd, mkText])
  · rw [sh_atom]; exact fun c hc => isW_part (h.all c hc)
  · exact absurd hk (by simp [kd, mkSet])
  · by_cases q : counts num ks = true
    · rw [kd_seq num ks vs q] at hk; simp at hk
    · rw [kd_fn num ks vs q] at hk; simp at hk

theorem word_inj {a b : Node α} (ha : wfN W c wta a) (hb : wfN W c wta b) (ka : kd num a = 0) (kb : kd num b = 0) (h : shN s num a = shN s num b) : a = b := by
  have lt : ∀ {l : List UInt8} {n : Int}, IsName l → l = Lib.itoa n → False := by
    intro l n hl e
    obtain ⟨c, r, e1, hc⟩ := hl.head
    obtain ⟨c', r', e2, hc', _⟩ := itoa_head n
    rw [e1, e2] at e; simp only [List.cons.injEq] at e
    rw [e.1, hc'] at hc; simp at hc
  have ni : ∀ {l : List UInt8} {n : Int}, isLetter (l.headD 0) = true → l = Lib.itoa n → False := by
    intro l n hl e
    obtain ⟨c', r', e2, hc', _⟩ := itoa_head n
    rw [e, e2] at hl; simp [hc'] at hl
  have nr : ∀ {l r : List UInt8}, IsName l → isReserved r = true → l = r → False := by
    intro l r hl hr e
    rw [← e, hl.free] at hr; simp at hr
  have nf : ∀ ks vs, kd num (mkFn ks vs) = 0 → False := by
    intro ks vs hk
    by_cases q : counts num ks = true
    · rw [kd_seq num ks vs q] at hk; simp at hk
    · rw [kd_fn num ks vs q] at hk; simp at hk
  have nl : isLetter (nilT.headD 0) = true := by decide
  have tr : ∀ b : Bool, isLetter ((if b then trueT else falseT).headD 0) = true ∧ isReserved (if b then trueT else falseT) = true := by
    intro b; cases b
    · exact ⟨by decide, false_res⟩
    · exact ⟨by decide, true_res⟩
  rcases ha with rfl | ⟨b1, rfl⟩ | ⟨n1, rfl, _⟩ | ⟨l1, rfl, _⟩ | ⟨l1, rfl, h1⟩ | ⟨es, rfl, _⟩ | ⟨ks, vs, rfl, _⟩
  all_goals first | (exact absurd ka (nf _ _)) | (exfalso; simp [kd, mkText, mkSet] at ka; done) | skip
  all_goals rcases hb with rfl | ⟨b2, rfl⟩ | ⟨n2, rfl, _⟩ | ⟨l2, rfl, _⟩ | ⟨l2, rfl, h2⟩ | ⟨es, rfl, _⟩ | ⟨ks, vs, rfl, _⟩
  all_goals first | (exact absurd kb (nf _ _)) | (exfalso; simp [kd, mkText, mkSet] at kb; done) | skip
  all_goals simp only [sh_nil, sh_bool, sh_int, sh_atom] at h
  all_goals first
    | rfl
    | (cases b2 <;> simp [nilT, trueT, falseT] at h; done)
    | (cases b1 <;> simp [nilT, trueT, falseT] at h; done)
    | (cases b1 <;> cases b2 <;> first | rfl | (simp [trueT, falseT] at h; done))
    | (exact absurd h (fun e => ni (tr _).1 e))
    | (exact absurd h.symm (fun e => ni (tr _).1 e))
    | (exact absurd h (fun e => ni nl e))
    | (exact absurd h.symm (fun e => ni nl e))
    | (exact absurd h.symm (fun e => nr h2 nil_res e))
    | (exact absurd h (fun e => nr h1 nil_res e))
    | (exact absurd h.symm (fun e => nr h2 (tr _).2 e))
    | (exact absurd h (fun e => nr h1 (tr _).2 e))
    | (exact absurd h (fun e => lt h1 e))
    | (exact absurd h.symm (fun e => lt h2 e))
    | (rw [itoa_inj _ _ h])
    | (rw [h])

theorem sh_head {a : Node α} (hw : wfN W c wta a) : ∃ d r, shN s num a = d :: r ∧ first (kd num a) d = true := by
  rcases hw with rfl | ⟨b, rfl⟩ | ⟨n, rfl, _⟩ | ⟨l, rfl, _⟩ | ⟨l, rfl, h⟩ | ⟨es, rfl, _⟩ | ⟨ks, vs, rfl, _⟩
  · exact ⟨110, _, rfl, (by decide : isW 110 = true)⟩
  · rw [sh_bool]; cases b
    · exact ⟨102, _, rfl, (by decide : isW 102 = true)⟩
    · exact ⟨116, _, rfl, (by decide : isW 116 = true)⟩
  · obtain ⟨d, r, e, _, h⟩ := itoa_head n
    refine ⟨d, r, e, ?_⟩
    rcases h with h | h
    · exact isW_digit h
    · subst h; exact (by decide : isW 45 = true)
  · exact ⟨34, l ++ [34], rfl, rfl⟩
  · obtain ⟨d, r, e, h'⟩ := h.head
    exact ⟨d, r, e, isW_part (h.all d (by simp [e]))⟩
  · exact ⟨123, _, sh_set s num es, rfl⟩
  · by_cases q : counts num ks = true
    · exact ⟨60, _, sh_seq s num ks vs q, by rw [kd_seq num ks vs q]; rfl⟩
    · exact ⟨91, _, sh_fn s num ks vs q, by rw [kd_fn num ks vs q]; rfl⟩

theorem first_one {j k : Nat} {c : UInt8} (h : first j c = true) (h' : first k c = true) : j = k := by
  have two : isW c = true → c ≠ 34 ∧ c ≠ 123 ∧ c ≠ 60 ∧ c ≠ 91 := by
    intro hd
    refine ⟨?_, ?_, ?_, ?_⟩ <;> (intro e; subst e; exact absurd hd (by decide))
  have lo : ∀ i, first i c = true → i = 0 ∧ isW c = true ∨ i = 1 ∧ c = 34 ∨ i = 2 ∧ c = 123 ∨ i = 3 ∧ c = 60 ∨ i = 4 ∧ c = 91 := by
    intro i hi
    unfold first at hi
    repeat' split at hi
    all_goals first | (simp at hi; done) | simp_all
  rcases lo j h with ⟨rfl, x⟩ | ⟨rfl, x⟩ | ⟨rfl, x⟩ | ⟨rfl, x⟩ | ⟨rfl, x⟩ <;>
  rcases lo k h' with ⟨rfl, y⟩ | ⟨rfl, y⟩ | ⟨rfl, y⟩ | ⟨rfl, y⟩ | ⟨rfl, y⟩ <;>
  first | rfl | (exact absurd y (two x).1) | (exact absurd y (two x).2.1) | (exact absurd y (two x).2.2.1) | (exact absurd y (two x).2.2.2) | (exact absurd x (two y).1) | (exact absurd x (two y).2.1) | (exact absurd x (two y).2.2.1) | (exact absurd x (two y).2.2.2) | (rw [x] at y; simp at y)

theorem kd_one {a b : Node α} (ha : wfN W c wta a) (hb : wfN W c wta b) {r t : List UInt8} (h : shN s num a ++ r = shN s num b ++ t) : kd num a = kd num b := by
  obtain ⟨x, u, e, hc⟩ := sh_head s num W c wta ha
  obtain ⟨y, v, e', hd⟩ := sh_head s num W c wta hb
  rw [e, e'] at h
  simp only [List.cons_append, List.cons.injEq] at h
  rw [h.1] at hc
  exact first_one hc hd

theorem quote_cancel : ∀ (u v r s : List UInt8), (∀ c ∈ u, okText c = true) → (∀ c ∈ v, okText c = true) → u ++ 34 :: r = v ++ 34 :: s → u = v ∧ r = s
  | [], [], r, s, _, _, e => ⟨rfl, by simpa using e⟩
  | [], d :: v, r, s, _, hv, e => by
    simp only [List.nil_append, List.cons_append, List.cons.injEq] at e
    have := hv d (by simp); rw [← e.1] at this; exact absurd this (by decide)
  | c :: u, [], r, s, hu, _, e => by
    simp only [List.nil_append, List.cons_append, List.cons.injEq] at e
    have := hu c (by simp); rw [e.1] at this; exact absurd this (by decide)
  | c :: u, d :: v, r, s, hu, hv, e => by
    simp only [List.cons_append, List.cons.injEq] at e
    obtain ⟨h1, h2⟩ := quote_cancel u v r s (fun x hx => hu x (by simp [hx])) (fun x hx => hv x (by simp [hx])) e.2
    exact ⟨by rw [e.1, h1], h2⟩

/-- what is told of the parts: they can be cancelled, and open with a first byte -/
structure Part (s : α → List UInt8) (W : α → Prop) : Prop where
  can : ∀ a b r t, W a → W b → Delim r → Delim t → s a ++ r = s b ++ t → a = b ∧ r = t
  head : ∀ a, W a → ∃ d r k, s a = d :: r ∧ first k d = true

theorem no_head {s : α → List UInt8} {W : α → Prop} (H : Part s W) {a : α} (ha : W a) {c : UInt8} {r t : List UInt8} (hc : ∀ k, first k c = false) : s a ++ r ≠ c :: t := by
  obtain ⟨d, u, k, e, hd⟩ := H.head a ha
  rw [e]; intro h
  simp only [List.cons_append, List.cons.injEq] at h
  rw [h.1, hc] at hd; simp at hd

/-- a closing sign: it is no value's first byte, and no comma -/
structure Clo (cl : List UInt8) : Prop where
  ex : ∃ c r, cl = c :: r ∧ (∀ k, first k c = false) ∧ c ≠ 44
theorem Clo.delim {cl : List UInt8} (h : Clo cl) (r : List UInt8) : Delim (cl ++ r) := by
  obtain ⟨c, u, rfl, h1, _⟩ := h.ex
  exact delim_cons (h1 0)
theorem not_first {c : UInt8} (h : isW c = false ∧ c ≠ 34 ∧ c ≠ 123 ∧ c ≠ 60 ∧ c ≠ 91) (k : Nat) : first k c = false := by
  unfold first; repeat' split
  all_goals simp [h]
theorem clo_brace : Clo [125] := ⟨125, [], rfl, not_first (by decide), by decide⟩
theorem clo_angle : Clo [62, 62] := ⟨62, [62], rfl, not_first (by decide), by decide⟩

theorem delim_jT {cl : List UInt8} (h : Clo cl) (l : List (List UInt8)) (r : List UInt8) : Delim (jT cl l ++ r) := by
  cases l with
  | nil => exact h.delim r
  | cons a l => exact delim_cons (by decide)

theorem jT_can {s : α → List UInt8} {W : α → Prop} (H : Part s W) {cl : List UInt8} (hcl : Clo cl) : ∀ (l m : List α) (r t : List UInt8), (∀ x ∈ l, W x) → (∀ x ∈ m, W x) → Delim r → Delim t → jT cl (l.map s) ++ r = jT cl (m.map s) ++ t → l = m ∧ r = t
  | [], [], r, s, _, _, _, _, e => ⟨rfl, by simpa [jT] using e⟩
  | [], b :: m, r, s, _, _, _, _, e => by
    obtain ⟨c, u, rfl, _, h2⟩ := hcl.ex
    simp only [List.map, jT, List.cons_append, List.cons.injEq] at e
    exact absurd e.1 h2
  | a :: l, [], r, s, _, _, _, _, e => by
    obtain ⟨c, u, rfl, _, h2⟩ := hcl.ex
    simp only [List.map, jT, List.cons_append, List.cons.injEq] at e
    exact absurd e.1.symm h2
  | a :: l, b :: m, r, t, hl, hm, hr, hs, e => by
    simp only [List.map, jT, List.cons_append, List.cons.injEq, true_and, List.append_assoc] at e
    obtain ⟨h1, h2⟩ := H.can a b _ _ (hl a (by simp)) (hm b (by simp)) (delim_jT hcl _ r) (delim_jT hcl _ t) e
    obtain ⟨h3, h4⟩ := jT_can H hcl l m r t (fun x hx => hl x (by simp [hx])) (fun x hx => hm x (by simp [hx])) hr hs h2
    exact ⟨by rw [h1, h3], h4⟩

theorem jL_can {s : α → List UInt8} {W : α → Prop} (H : Part s W) {cl : List UInt8} (hcl : Clo cl) (l m : List α) (r t : List UInt8) (hl : ∀ x ∈ l, W x) (hm : ∀ x ∈ m, W x) (hr : Delim r) (hs : Delim t) (e : jL cl (l.map s) ++ r = jL cl (m.map s) ++ t) : l = m ∧ r = t := by
  obtain ⟨c, u, hc, h1, _⟩ := hcl.ex
  cases l with
  | nil =>
    cases m with
    | nil => exact ⟨rfl, by simpa [jL] using e⟩
    | cons b m =>
      simp only [List.map, jL, hc, List.cons_append, List.append_assoc] at e
      exact absurd e.symm (no_head H (hm b (by simp)) h1)
  | cons a l =>
    cases m with
    | nil =>
      simp only [List.map, jL, hc, List.cons_append, List.append_assoc] at e
      exact absurd e (no_head H (hl a (by simp)) h1)
    | cons b m =>
      simp only [List.map, jL, List.append_assoc] at e
      obtain ⟨h1, h2⟩ := H.can a b _ _ (hl a (by simp)) (hm b (by simp)) (delim_jT hcl _ r) (delim_jT hcl _ t) e
      obtain ⟨h3, h4⟩ := jT_can H hcl l m r t (fun x hx => hl x (by simp [hx])) (fun x hx => hm x (by simp [hx])) hr hs h2
      exact ⟨by rw [h1, h3], h4⟩

theorem jQ_nil (v : List (List UInt8)) : jQ [] v = [93] := by cases v <;> rfl
theorem jQ_nil' (k : List (List UInt8)) : jQ k [] = [93] := by cases k <;> rfl
theorem delim_jQ (k v : List (List UInt8)) (r : List UInt8) : Delim (jQ k v ++ r) := by
  cases k with
  | nil => rw [jQ_nil]; exact delim_cons (by decide)
  | cons a k =>
    cases v with
    | nil => rw [jQ_nil']; exact delim_cons (by decide)
    | cons b v => exact delim_cons (by decide)

theorem jQ_can {s : α → List UInt8} {W : α → Prop} (H : Part s W) : ∀ (k v k' v' : List α) (r t : List UInt8), (∀ x ∈ k, W x) → (∀ x ∈ v, W x) → (∀ x ∈ k', W x) → (∀ x ∈ v', W x) → k.length = v.length → k'.length = v'.length → Delim r → Delim t →
    jQ (k.map s) (v.map s) ++ r = jQ (k'.map s) (v'.map s) ++ t → k = k' ∧ v = v' ∧ r = t
  | [], v, k', v', r, s, _, _, _, _, hl, hl', _, _, e => by
    have hv : v = [] := List.length_eq_zero_iff.1 (by simpa using hl.symm)
    subst hv
    cases k' with
    | nil =>
      have hv' : v' = [] := List.length_eq_zero_iff.1 (by simpa using hl'.symm)
      subst hv'
      exact ⟨rfl, rfl, by simpa [jQ] using e⟩
    | cons a k' =>
      cases v' with
      | nil => simp at hl'
      | cons b v' => simp [jQ] at e
  | a :: k, [], k', v', r, s, _, _, _, _, hl, _, _, _, e => by simp at hl
  | a :: k, b :: v, [], v', r, s, _, _, _, _, _, hl', _, _, e => by simp [jQ] at e
  | a :: k, b :: v, c :: k', [], r, s, _, _, _, _, _, hl', _, _, e => by simp at hl'
  | a :: k, b :: v, c :: k', d :: v', r, t, hk, hv, wk, wv, hl, hl', hr, hs, e => by
    simp only [List.map, jQ, List.cons_append, List.cons.injEq, true_and, List.append_assoc] at e
    obtain ⟨h1, h2⟩ := H.can a c _ _ (hk a (by simp)) (wk c (by simp)) (delim_cons (by decide)) (delim_cons (by decide)) e
    simp only [List.cons.injEq, true_and] at h2
    obtain ⟨h3, h4⟩ := H.can b d _ _ (hv b (by simp)) (wv d (by simp)) (delim_jQ _ _ r) (delim_jQ _ _ t) h2
    obtain ⟨h5, h6, h7⟩ := jQ_can H k v k' v' r t (fun x hx => hk x (by simp [hx])) (fun x hx => hv x (by simp [hx])) (fun x hx => wk x (by simp [hx])) (fun x hx => wv x (by simp [hx])) (by simpa using hl) (by simpa using hl') hr hs h4
    exact ⟨by rw [h1, h5], by rw [h3, h6], h7⟩

theorem counts_of {num : α → Option Int} {W : α → Prop} (hn : ∀ a b n, W a → W b → num a = some n → num b = some n → a = b) : ∀ (i : Nat) (k l : List α), (∀ x ∈ k, W x) → (∀ x ∈ l, W x) → countsFrom num i k = true → countsFrom num i l = true → k.length = l.length → k = l
  | _, [], [], _, _, _, _, _ => rfl
  | _, [], _ :: _, _, _, _, _, h => by simp at h
  | _, _ :: _, [], _, _, _, _, h => by simp at h
  | i, a :: k, b :: l, wk, wl, ha, hb, h => by
    simp only [countsFrom, Bool.and_eq_true, beq_iff_eq] at ha hb
    rw [hn a b i (wk a (by simp)) (wl b (by simp)) ha.1 hb.1, counts_of hn (i + 1) k l (fun x hx => wk x (by simp [hx])) (fun x hx => wl x (by simp [hx])) ha.2 hb.2 (by simpa using h)]

theorem part_node {s : α → List UInt8} {num : α → Option Int} {W : α → Prop} (H : Part s W) (hn : ∀ a b n, W a → W b → num a = some n → num b = some n → a = b) (c : α → α → Int) (wta : α → Nat) : Part (shN s num) (wfN W c wta) := by
  constructor
  · intro a b r t ha hb hr ht e
    have hk := kd_one s num W c wta ha hb e
    by_cases k0 : kd num a = 0
    · have k0' : kd num b = 0 := by omega
      obtain ⟨h1, h2⟩ := run_cancel _ _ r t (word_bytes s num W c wta ha k0) (word_bytes s num W c wta hb k0') hr ht e
      exact ⟨word_inj s num W c wta ha hb k0 k0' h1, h2⟩
    · have k0' : ¬ kd num b = 0 := by omega
      have no : ∀ x : Node α, x.kind ≠ 3 → x.kind ≠ 5 → x.kind ≠ 6 → kd num x = 0 := by
        intro x h3 h5 h6; simp [kd, h3, h5, h6]
      rcases ha with rfl | ⟨b1, rfl⟩ | ⟨n1, rfl, _⟩ | ⟨l1, rfl, hl1⟩ | ⟨l1, rfl, _⟩ | ⟨es, rfl, we, _⟩ | ⟨ks, vs, rfl, wk, wv, _, len, _⟩
      all_goals first | (exfalso; refine k0 (no _ ?_ ?_ ?_) <;> (simp [mkNil, mkBool, mkInt, mkAtom]; done)) | skip
      all_goals rcases hb with rfl | ⟨b2, rfl⟩ | ⟨n2, rfl, _⟩ | ⟨l2, rfl, hl2⟩ | ⟨l2, rfl, _⟩ | ⟨es', rfl, we', _⟩ | ⟨ks', vs', rfl, wk', wv', _, len', _⟩
      all_goals first | (exfalso; refine k0' (no _ ?_ ?_ ?_) <;> (simp [mkNil, mkBool, mkInt, mkAtom]; done)) | skip
      · simp only [sh_text, List.cons_append, List.cons.injEq, true_and, List.append_assoc, List.nil_append] at e
        obtain ⟨h1, h2⟩ := quote_cancel l1 l2 r t hl1 hl2 e
        exact ⟨by rw [h1], h2⟩
      · exact absurd hk (by simp [kd, mkText, mkSet])
      · exact absurd hk (by by_cases q : counts num ks' = true
                            · rw [kd_seq num ks' vs' q]; simp [kd, mkText]
                            · rw [kd_fn num ks' vs' q]; simp [kd, mkText])
      · exact absurd hk (by simp [kd, mkText, mkSet])
      · simp only [sh_set, List.cons_append, List.cons.injEq, true_and] at e
        obtain ⟨h1, h2⟩ := jL_can H clo_brace es es' r t we we' hr ht e
        exact ⟨by rw [h1], h2⟩
      · exact absurd hk (by by_cases q : counts num ks' = true
                            · rw [kd_seq num ks' vs' q]; simp [kd, mkSet]
                            · rw [kd_fn num ks' vs' q]; simp [kd, mkSet])
      · exact absurd hk (by by_cases q : counts num ks = true
                            · rw [kd_seq num ks vs q]; simp [kd, mkText]
                            · rw [kd_fn num ks vs q]; simp [kd, mkText])
      · exact absurd hk (by by_cases q : counts num ks = true
                            · rw [kd_seq num ks vs q]; simp [kd, mkSet]
                            · rw [kd_fn num ks vs q]; simp [kd, mkSet])
      · by_cases q : counts num ks = true
        · by_cases q' : counts num ks' = true
          · simp only [sh_seq _ _ _ _ q, sh_seq _ _ _ _ q', List.cons_append, List.cons.injEq, true_and] at e
            obtain ⟨h1, h2⟩ := jL_can H clo_angle vs vs' r t wv wv' hr ht e
            have hl : ks.length = ks'.length := by rw [len, len', h1]
            rw [counts_of hn 1 ks ks' wk wk' q q' hl, h1]
            exact ⟨rfl, h2⟩
          · rw [kd_seq num ks vs q, kd_fn num ks' vs' q'] at hk; simp at hk
        · by_cases q' : counts num ks' = true
          · rw [kd_fn num ks vs q, kd_seq num ks' vs' q'] at hk; simp at hk
          · simp only [sh_fn _ _ _ _ q, sh_fn _ _ _ _ q', List.cons_append, List.cons.injEq, true_and] at e
            cases ks with
            | nil => exact absurd rfl q
            | cons k ks =>
              cases ks' with
              | nil => exact absurd rfl q'
              | cons k' ks' =>
                cases vs with
                | nil => simp at len
                | cons v vs =>
                  cases vs' with
                  | nil => simp at len'
                  | cons v' vs' =>
                    simp only [List.map, jP, List.append_assoc, List.cons_append] at e
                    obtain ⟨h1, h2⟩ := H.can k k' _ _ (wk k (by simp)) (wk' k' (by simp)) (delim_cons (by decide)) (delim_cons (by decide)) e
                    simp only [List.cons.injEq, true_and] at h2
                    obtain ⟨h3, h4⟩ := H.can v v' _ _ (wv v (by simp)) (wv' v' (by simp)) (delim_jQ _ _ r) (delim_jQ _ _ t) h2
                    obtain ⟨h5, h6, h7⟩ := jQ_can H ks vs ks' vs' r t (fun x hx => wk x (by simp [hx])) (fun x hx => wv x (by simp [hx])) (fun x hx => wk' x (by simp [hx])) (fun x hx => wv' x (by simp [hx])) (by simpa using len) (by simpa using len') hr ht h4
                    exact ⟨by rw [h1, h3, h5, h6], h7⟩
  · intro a ha
    obtain ⟨d, r, e, h⟩ := sh_head s num W c wta ha
    exact ⟨d, r, _, e, h⟩
end

theorem num_inj : ∀ (n : Nat) (a b : AV n) (i : Int), WF n a → WF n b → numOf n a = some i → numOf n b = some i → a = b
  | 0, a, _, _, _, _, _, _ => Empty.elim a
  | n + 1, a, b, i, ha, hb, ea, eb => by
    have one : ∀ x : AV (n + 1), WF (n + 1) x → numOf (n + 1) x = some i → x = (mkInt i : Node (AV n)) := by
      intro x hx ex
      simp only [numOf] at ex
      split at ex
      · rename_i hk
        rcases hx with rfl | ⟨b, rfl⟩ | ⟨m, rfl, _⟩ | ⟨l, rfl, _⟩ | ⟨l, rfl, _⟩ | ⟨es, rfl, _⟩ | ⟨ks, vs, rfl, _⟩
        · exact absurd hk (by simp [mkNil])
        · exact absurd hk (by simp [mkBool])
        · simp only [mkInt, Option.some.injEq] at ex; rw [ex]
        · exact absurd hk (by simp [mkText])
        · exact absurd hk (by simp [mkAtom])
        · exact absurd hk (by simp [mkSet])
        · exact absurd hk (by simp [mkFn])
      · simp at ex
    rw [one a ha ea, one b hb eb]

theorem part : ∀ n, Part (sh n) (WF n)
  | 0 => ⟨fun a => Empty.elim a, fun a => Empty.elim a⟩
  | n + 1 => part_node (part n) (num_inj n) (cmpV n) (wt n)

theorem sh_inj {n : Nat} {a b : AV n} (ha : WF n a) (hb : WF n b) (h : sh n a = sh n b) : a = b :=
  ((part n).can a b [] [] ha hb delim_nil delim_nil (by rw [h])).1

theorem sh_iff {n : Nat} {a b : AV n} (ha : WF n a) (hb : WF n b) : cmpV n a b = 0 ↔ sh n a = sh n b :=
  ⟨fun h => by rw [(cmpV_eq n a b).1 h], fun h => (cmpV_eq n a b).2 (sh_inj ha hb h)⟩

end Go.Proofs.YtjbekejcghjhbaaGreatDoor.Sx

namespace Go.Proofs.YtjbekejcghjhbaaGreatDoor.Sx

/-- a token: its class (0 the end, 1 a word, 2 a number, 3 a text, 4 a sign, 5 none), its bytes, where it begins -/
structure Tk where
  cl : Nat
  tx : List UInt8
  at' : Nat

/-- an expression as it is written once more: how tightly it holds, its bytes, the name that it is as a key -/
structure PX where
  rk : Nat
  tx : List UInt8
  key : Option (List UInt8)

def wIf : List UInt8 := [105, 102]
def wLet : List UInt8 := [108, 101, 116]
def wNeg : List UInt8 := [45]
def wEnabled : List UInt8 := [101, 110, 97, 98, 108, 101, 100]
def wUnchanged : List UInt8 := [117, 110, 99, 104, 97, 110, 103, 101, 100]
def opens0 : List (List UInt8) := [[105, 102], [108, 101, 116], [97, 108, 108], [115, 111, 109, 101], [99, 104, 111, 111, 115, 101], [102, 117, 110]]
def opens6 : List (List UInt8) := [[110, 111, 116], [97, 108, 119, 97, 121, 115], [101, 118, 101, 110, 116, 117, 97, 108, 108, 121], [101, 110, 97, 98, 108, 101, 100]]
def opens12 : List (List UInt8) := [[45], [100, 111, 109, 97, 105, 110], [112, 111, 119, 101, 114, 115, 101, 116], [102, 108, 97, 116, 116, 101, 110], [117, 110, 99, 104, 97, 110, 103, 101, 100]]
def fixed3 : List (List UInt8) := [[110, 105, 108], [116, 114, 117, 101], [102, 97, 108, 115, 101]]
def called7 : List (List UInt8) := [[115, 105, 122, 101], [108, 101, 110], [104, 101, 97, 100], [116, 97, 105, 108], [97, 112, 112, 101, 110, 100], [118, 97, 108, 117, 101, 115], [115, 101, 113, 115]]
def binds2 : List (List UInt8) := [[101, 97, 99, 104], [116, 104, 111, 115, 101]]

/-- how tightly that holds which a token begins -/
def openF (p : List UInt8) : Nat := if opens0.contains p then 0 else if opens6.contains p then 6 else if opens12.contains p then 12 else 14

def joins : List (List UInt8 × Nat) := [([108, 101, 97, 100, 115, 116, 111], 1), ([117, 110, 116, 105, 108], 1), ([105, 102, 102], 2), ([105, 109, 112, 108, 105, 101, 115], 3), ([111, 114], 4), ([97, 110, 100], 5),
  ([61], 7), ([47, 61], 7), ([60], 7), ([60, 61], 7), ([62], 7), ([62, 61], 7), ([105, 110], 7), ([115, 117, 98, 115, 101, 116], 7), ([45, 62], 8), ([46, 46], 9),
  ([43], 10), ([45], 10), ([117, 110, 105, 111, 110], 10), ([109, 105, 110, 117, 115], 10), ([43, 43], 10), ([42], 11), ([47], 11), ([37], 11), ([105, 110, 116, 101, 114], 11)]
/-- the level of a sign between two parts; 0: it is none -/
def levelF (p : List UInt8) : Nat := (joins.lookup p).getD 0
def fromL (n : Nat) : Bool := n == 2 || n == 4 || n == 5 || n == 10 || n == 11
def leftF (n : Nat) : Nat := if fromL n then n else n + 1
def rightF (n : Nat) : Nat := if n = 3 then 3 else n + 1

/-- where one is asked for that holds at least so tightly -/
def partX (x : PX) (least : Nat) : List UInt8 := if x.rk < least then 40 :: (x.tx ++ [41]) else x.tx
def sepFrom (sep : Nat → List UInt8) : Nat → List (List UInt8) → List UInt8
  | _, [] => []
  | i, a :: l => sep i ++ a ++ sepFrom sep (i + 1) l
def commaS (i : Nat) : List UInt8 := if i = 0 then [] else [44, 32]
def pairS (i : Nat) : List UInt8 := if i % 2 = 1 then [58, 32] else if i = 0 then [] else [44, 32]
def commasX (l : List PX) : List UInt8 := sepFrom commaS 0 (l.map PX.tx)
def isNameB (l : List UInt8) : Bool := (match l with | [] => false | c :: _ => isLetter c) && decide (l.length ≤ 16) && l.all isPart && !isReserved l

def dLeaf (t : List UInt8) : PX := ⟨14, t, none⟩
def dTxt (n : List UInt8) : PX := ⟨14, 34 :: (n ++ [34]), if isNameB n then some n else none⟩
def dCall (n : List UInt8) (l : List PX) : PX := ⟨14, n ++ 40 :: (commasX l ++ [41]), none⟩
def dSet (l : List PX) : PX := ⟨14, 123 :: (commasX l ++ [125]), none⟩
def dSeq (l : List PX) : PX := ⟨14, 60 :: 60 :: (commasX l ++ [62, 62]), none⟩
def dFun (l : List PX) : PX := ⟨14, 91 :: (sepFrom pairS 0 (l.map PX.tx) ++ [93]), none⟩
def dOfName (r : Nat) (op n : List UInt8) : PX := ⟨r, op ++ 32 :: n, none⟩
def dAhead (r : Nat) (op : List UInt8) (x : PX) : PX := ⟨r, if op = wNeg then 45 :: partX x r else op ++ 32 :: partX x r, none⟩
def dIf (a b c : PX) : PX := ⟨0, [105, 102, 32] ++ a.tx ++ [32, 116, 104, 101, 110, 32] ++ b.tx ++ [32, 101, 108, 115, 101, 32] ++ c.tx, none⟩
def dLet (n : List UInt8) (a b : PX) : PX := ⟨0, [108, 101, 116, 32] ++ n ++ [32, 61, 32] ++ a.tx ++ [32, 58, 32] ++ b.tx, none⟩
def boundT (op n : List UInt8) (a b : PX) : List UInt8 := op ++ [32] ++ n ++ [32, 105, 110, 32] ++ partX a 8 ++ [32, 58, 32] ++ b.tx
def dBind (op n : List UInt8) (a b : PX) : PX := if binds2.contains op then ⟨14, 123 :: (boundT op n a b ++ [125]), none⟩ else ⟨0, boundT op n a b, none⟩
def dBin (op : List UInt8) (a b : PX) : PX := ⟨levelF op, partX a (leftF (levelF op)) ++ [32] ++ op ++ [32] ++ partX b (rightF (levelF op)), none⟩
def dAt (f k : PX) : PX := ⟨13, partX f 13 ++ (match k.key with | some n => 46 :: n | none => 91 :: (k.tx ++ [93])), none⟩
def dPut (f k v : PX) : PX := ⟨13, partX f 13 ++ 91 :: (k.tx ++ [32, 58, 61, 32] ++ v.tx ++ [93]), none⟩

/-- what is read, and where it goes on; or a fault and its place; or the number of steps does not do -/
abbrev RX (β : Type) := Option (Except (Nat × Nat) (β × Nat))
def bX {β γ : Type} (r : RX β) (k : β → Nat → RX γ) : RX γ :=
  match r with
  | none => none
  | some (.error e) => some (.error e)
  | some (.ok (x, i)) => k x i
def okX {β : Type} (x : β) (i : Nat) : RX β := some (.ok (x, i))
def errX {β : Type} (c p : Nat) : RX β := some (.error (c, p))

section
variable (K : Nat → Tk)
def needX {γ : Type} (m : List UInt8) (i : Nat) (k : Nat → RX γ) : RX γ := if (K i).tx == m then k (i + 1) else errX 1 (K i).at'
def enterX {γ : Type} (d i : Nat) (k : Nat → RX γ) : RX γ := if d = 24 then errX 6 (K i).at' else k (i + 1)
def nameX (i : Nat) : RX (List UInt8) :=
  if (K i).cl ≠ 1 ∨ isReserved (K i).tx = true then errX 1 (K i).at' else if 16 < (K i).tx.length then errX 5 (K i).at' else okX (K i).tx (i + 1)
def listX {β : Type} (closing : List UInt8) (item : Nat → RX β) : Nat → List β → Nat → RX (List β)
  | 0, _, _ => none
  | m + 1, acc, i => bX (item i) fun x j => if (K j).tx == closing then okX (acc ++ [x]) (j + 1) else needX K [44] j fun j => listX closing item m (acc ++ [x]) j
def anyX {β : Type} (closing : List UInt8) (item : Nat → RX β) (m i : Nat) : RX (List β) :=
  if (K i).tx == closing then okX [] (i + 1) else listX K closing item m [] i

variable (self : Nat → Nat → Nat → RX PX)
def pairX (d i : Nat) : RX (PX × PX) := bX (self 0 d i) fun a j => needX K [58] j fun j => bX (self 0 d j) fun b j => okX (a, b) j
def boundX (op : List UInt8) (d i : Nat) : RX PX :=
  bX (nameX K i) fun n j => needX K [105, 110] j fun j => bX (self 8 d j) fun a j => needX K [58] j fun j => bX (self 0 d j) fun b j => okX (dBind op n a b) j
def choiceX (d i : Nat) : RX PX :=
  bX (self 0 d i) fun a j => needX K [116, 104, 101, 110] j fun j => bX (self 0 d j) fun b j => needX K [101, 108, 115, 101] j fun j => bX (self 0 d j) fun c j => okX (dIf a b c) j
def namingX (d i : Nat) : RX PX :=
  bX (nameX K i) fun n j => needX K [61] j fun j => bX (self 0 d j) fun a j => needX K [58] j fun j => bX (self 0 d j) fun b j => okX (dLet n a b) j
/-- what a word begins that goes as far as it can -/
def bindingX (d i : Nat) : RX PX :=
  enterX K d i fun j => if (K i).tx == wIf then choiceX K self (d + 1) j else if (K i).tx == wLet then namingX K self (d + 1) j else boundX K self (K i).tx (d + 1) j
/-- a word or a sign ahead of one part -/
def aheadX (r d i : Nat) : RX PX :=
  if (K i).tx == wEnabled || (K i).tx == wUnchanged then bX (nameX K (i + 1)) fun n j => okX (dOfName r (K i).tx n) j
  else enterX K d i fun j => bX (self r (d + 1) j) fun x j => okX (dAhead r (K i).tx x) j
def callX (m : Nat) (n : List UInt8) (d i : Nat) : RX PX :=
  enterX K d i fun j => bX (listX K [41] (self 0 (d + 1)) m [] j) fun l j => okX (dCall n l) j
def namedX (m d i : Nat) : RX PX :=
  bX (nameX K i) fun n j => if (K j).tx == [39] then okX (dLeaf (n ++ [39])) (j + 1) else if (K j).tx == [40] then callX K self m n d j else okX (dLeaf n) j
def wordX (m d i : Nat) : RX PX :=
  if fixed3.contains (K i).tx then okX (dLeaf (K i).tx) (i + 1)
  else if called7.contains (K i).tx then (if (K (i + 1)).tx == [40] then callX K self m (K i).tx d (i + 1) else errX 1 (K (i + 1)).at')
  else namedX K self m d i
def setX (m d i : Nat) : RX PX :=
  if binds2.contains (K i).tx then bX (boundX K self (K i).tx d (i + 1)) fun x j => needX K [125] j fun j => okX x j
  else bX (anyX K [125] (self 0 d) m i) fun l j => okX (dSet l) j
def bracketX (m d i : Nat) : RX PX :=
  if (K i).tx == [40] then enterX K d i fun j => bX (self 0 (d + 1) j) fun x j => needX K [41] j fun j => okX x j
  else if (K i).tx == [123] then enterX K d i fun j => setX K self m (d + 1) j
  else if (K i).tx == [60, 60] then enterX K d i fun j => bX (anyX K [62, 62] (self 0 (d + 1)) m j) fun l j => okX (dSeq l) j
  else if (K i).tx == [91] then enterX K d i fun j => bX (listX K [93] (pairX K self (d + 1)) m [] j) fun l j => okX (dFun (l.flatMap fun p => [p.1, p.2])) j
  else errX 1 (K i).at'
def firstX (m d i : Nat) : RX PX :=
  if (K i).cl = 2 then (match Lib.parseIntB 64 (K i).tx with | .ok v => okX (dLeaf (Lib.itoa v)) (i + 1) | _ => errX 5 (K i).at')
  else if (K i).cl = 3 then okX (dTxt (((K i).tx.take ((K i).tx.length - 1)).drop 1)) (i + 1)
  else if (K i).cl = 1 then wordX K self m d i
  else bracketX K self m d i
/-- what stands behind -/
def behindX (M d : Nat) : Nat → PX → Nat → RX PX
  | 0, _, _ => none
  | m + 1, x, i =>
    if (K i).tx == [91] then enterX K d i fun j => bX (self 0 (d + 1) j) fun k j =>
      if (K j).tx == [58, 61] then bX (self 0 (d + 1) (j + 1)) fun v j => needX K [93] j fun j => behindX M d m (dPut x k v) j
      else needX K [93] j fun j => behindX M d m (dAt x k) j
    else if (K i).tx == [46] then bX (nameX K (i + 1)) fun n j => behindX M d m (dAt x (dTxt n)) j
    else okX x i
def tightX (m d i : Nat) : RX PX := bX (firstX K self m d i) fun x j => behindX K self m d m x j

/-- signs between two parts, one behind the other, as long as they hold at least so tightly -/
def climbX (rank d : Nat) : Nat → Nat → PX → Nat → RX (PX × Nat)
  | 0, _, _, _ => none
  | m + 1, held, x, i =>
    if levelF (K i).tx = 0 ∨ levelF (K i).tx < rank ∨ held < leftF (levelF (K i).tx) then okX (x, held) i
    else bX (self (rightF (levelF (K i).tx)) d (i + 1)) fun y j => climbX rank d m (levelF (K i).tx) (dBin (K i).tx x y) j
def openedX (m held d i : Nat) : RX PX := if held = 0 then bindingX K self d i else if held = 6 ∨ held = 12 then aheadX K self held d i else tightX K self m d i
def holdX (m rank d i : Nat) : RX (PX × Nat) :=
  if openF (K i).tx < rank then errX 1 (K i).at'
  else bX (openedX K self m (openF (K i).tx) d i) fun x j => climbX K self rank d m (openF (K i).tx) x j

/-- the signs of one level -/
def lvlX (n d : Nat) : Nat → PX → Nat → RX PX
  | 0, _, _ => none
  | m + 1, x, i =>
    if levelF (K i).tx = n then bX (self (rightF n) d (i + 1)) fun y j => if fromL n then lvlX n d m (dBin (K i).tx x y) j else okX (dBin (K i).tx x y) j
    else okX x i
/-- level by level; k: how many are below -/
def descX (m d : Nat) : Nat → Nat → RX PX
  | 0, i => if opens12.contains (K i).tx then aheadX K self 12 d i else tightX K self m d i
  | k + 1, i =>
    if k = 5 then (if opens6.contains (K i).tx then aheadX K self 6 d i else descX m d k i)
    else bX (descX m d k i) fun x j => lvlX K self (11 - k) d m x j
def fallX (m n d i : Nat) : RX PX :=
  if n = 0 then (if opens0.contains (K i).tx then bindingX K self d i else descX K self m d 11 i) else descX K self m d (12 - n) i
end

/-- the one way: by how tightly signs hold -/
def progX (K : Nat → Tk) : Nat → Nat → Nat → Nat → RX PX
  | 0, _, _, _ => none
  | f + 1, n, d, i => bX (holdX K (progX K f) f (min n 12) d i) fun x j => okX x.1 j
/-- the other way: level by level -/
def refX (K : Nat → Tk) : Nat → Nat → Nat → Nat → RX PX
  | 0, _, _, _ => none
  | f + 1, n, d, i => fallX K (refX K f) f n d i
end Go.Proofs.YtjbekejcghjhbaaGreatDoor.Sx

namespace Go.Proofs.YtjbekejcghjhbaaGreatDoor.Sx

def leX {β : Type} (a b : RX β) : Prop := a = none ∨ a = b
theorem leX.refl {β : Type} (a : RX β) : leX a a := .inr rfl
theorem leX.none {β : Type} (a : RX β) : leX Option.none a := .inl rfl
theorem leX.trans {β : Type} {a b c : RX β} (h : leX a b) (k : leX b c) : leX a c := by
  rcases h with h | h
  · exact .inl h
  · subst h; exact k
theorem leX.some {β : Type} {a b : RX β} (h : leX a b) {r : Except (Nat × Nat) (β × Nat)} (e : a = Option.some r) : b = Option.some r := by
  rcases h with h | h
  · rw [h] at e; simp at e
  · rw [← h, e]
theorem bX_mono {β γ : Type} {r r' : RX β} {k k' : β → Nat → RX γ} (h : leX r r') (hk : ∀ x i, leX (k x i) (k' x i)) : leX (bX r k) (bX r' k') := by
  rcases h with h | h
  · rw [h]; exact .inl rfl
  · subst h
    rcases r with _ | (e | ⟨x, i⟩)
    · exact .inl rfl
    · exact .inr rfl
    · exact hk x i
theorem ite_mono {β : Type} {c : Prop} [Decidable c] {a a' b b' : RX β} (h : leX a a') (k : leX b b') : leX (if c then a else b) (if c then a' else b') := by
  split
  · exact h
  · exact k
theorem needX_mono {γ : Type} {K : Nat → Tk} {m : List UInt8} {i : Nat} {k k' : Nat → RX γ} (h : ∀ j, leX (k j) (k' j)) : leX (needX K m i k) (needX K m i k') := ite_mono (h _) (leX.refl _)
theorem enterX_mono {γ : Type} {K : Nat → Tk} {d i : Nat} {k k' : Nat → RX γ} (h : ∀ j, leX (k j) (k' j)) : leX (enterX K d i k) (enterX K d i k') := ite_mono (leX.refl _) (h _)
theorem listX_mono {β : Type} {K : Nat → Tk} {cl : List UInt8} {item item' : Nat → RX β} (h : ∀ i, leX (item i) (item' i)) : ∀ m m', m ≤ m' → ∀ acc i, leX (listX K cl item m acc i) (listX K cl item' m' acc i)
  | 0, _, _, _, _ => leX.none _
  | m + 1, 0, hm, _, _ => absurd hm (by omega)
  | m + 1, m' + 1, hm, acc, i => bX_mono (h i) fun x j => ite_mono (leX.refl _) (needX_mono fun j => listX_mono h m m' (by omega) _ _)
theorem anyX_mono {β : Type} {K : Nat → Tk} {cl : List UInt8} {item item' : Nat → RX β} (h : ∀ i, leX (item i) (item' i)) {m m' : Nat} (hm : m ≤ m') (i : Nat) : leX (anyX K cl item m i) (anyX K cl item' m' i) :=
  ite_mono (leX.refl _) (listX_mono h m m' hm _ _)

abbrev LeS (self self' : Nat → Nat → Nat → RX PX) : Prop := ∀ n d i, leX (self n d i) (self' n d i)
section
variable {K : Nat → Tk} {self self' : Nat → Nat → Nat → RX PX}
theorem pairX_mono (hs : LeS self self') (d i : Nat) : leX (pairX K self d i) (pairX K self' d i) :=
  bX_mono (hs _ _ _) fun _ _ => needX_mono fun _ => bX_mono (hs _ _ _) fun _ _ => leX.refl _
theorem boundX_mono (hs : LeS self self') (op : List UInt8) (d i : Nat) : leX (boundX K self op d i) (boundX K self' op d i) :=
  bX_mono (leX.refl _) fun _ _ => needX_mono fun _ => bX_mono (hs _ _ _) fun _ _ => needX_mono fun _ => bX_mono (hs _ _ _) fun _ _ => leX.refl _
theorem choiceX_mono (hs : LeS self self') (d i : Nat) : leX (choiceX K self d i) (choiceX K self' d i) :=
  bX_mono (hs _ _ _) fun _ _ => needX_mono fun _ => bX_mono (hs _ _ _) fun _ _ => needX_mono fun _ => bX_mono (hs _ _ _) fun _ _ => leX.refl _
theorem namingX_mono (hs : LeS self self') (d i : Nat) : leX (namingX K self d i) (namingX K self' d i) :=
  bX_mono (leX.refl _) fun _ _ => needX_mono fun _ => bX_mono (hs _ _ _) fun _ _ => needX_mono fun _ => bX_mono (hs _ _ _) fun _ _ => leX.refl _
theorem bindingX_mono (hs : LeS self self') (d i : Nat) : leX (bindingX K self d i) (bindingX K self' d i) :=
  enterX_mono fun _ => ite_mono (choiceX_mono hs _ _) (ite_mono (namingX_mono hs _ _) (boundX_mono hs _ _ _))
theorem aheadX_mono (hs : LeS self self') (r d i : Nat) : leX (aheadX K self r d i) (aheadX K self' r d i) :=
  ite_mono (leX.refl _) (enterX_mono fun _ => bX_mono (hs _ _ _) fun _ _ => leX.refl _)
theorem callX_mono (hs : LeS self self') {m m' : Nat} (hm : m ≤ m') (n : List UInt8) (d i : Nat) : leX (callX K self m n d i) (callX K self' m' n d i) :=
  enterX_mono fun _ => bX_mono (listX_mono (fun i => hs _ _ i) m m' hm _ _) fun _ _ => leX.refl _
theorem namedX_mono (hs : LeS self self') {m m' : Nat} (hm : m ≤ m') (d i : Nat) : leX (namedX K self m d i) (namedX K self' m' d i) :=
  bX_mono (leX.refl _) fun _ _ => ite_mono (leX.refl _) (ite_mono (callX_mono hs hm _ _ _) (leX.refl _))
theorem wordX_mono (hs : LeS self self') {m m' : Nat} (hm : m ≤ m') (d i : Nat) : leX (wordX K self m d i) (wordX K self' m' d i) :=
  ite_mono (leX.refl _) (ite_mono (ite_mono (callX_mono hs hm _ _ _) (leX.refl _)) (namedX_mono hs hm _ _))
theorem setX_mono (hs : LeS self self') {m m' : Nat} (hm : m ≤ m') (d i : Nat) : leX (setX K self m d i) (setX K self' m' d i) :=
  ite_mono (bX_mono (boundX_mono hs _ _ _) fun _ _ => leX.refl _) (bX_mono (anyX_mono (fun i => hs _ _ i) hm _) fun _ _ => leX.refl _)
theorem bracketX_mono (hs : LeS self self') {m m' : Nat} (hm : m ≤ m') (d i : Nat) : leX (bracketX K self m d i) (bracketX K self' m' d i) :=
  ite_mono (enterX_mono fun _ => bX_mono (hs _ _ _) fun _ _ => leX.refl _) (ite_mono (enterX_mono fun _ => setX_mono hs hm _ _)
    (ite_mono (enterX_mono fun _ => bX_mono (anyX_mono (fun i => hs _ _ i) hm _) fun _ _ => leX.refl _)
      (ite_mono (enterX_mono fun _ => bX_mono (listX_mono (fun i => pairX_mono hs _ i) m m' hm _ _) fun _ _ => leX.refl _) (leX.refl _))))
theorem firstX_mono (hs : LeS self self') {m m' : Nat} (hm : m ≤ m') (d i : Nat) : leX (firstX K self m d i) (firstX K self' m' d i) :=
  ite_mono (leX.refl _) (ite_mono (leX.refl _) (ite_mono (wordX_mono hs hm _ _) (bracketX_mono hs hm _ _)))
theorem behindX_mono (hs : LeS self self') (M M' d : Nat) : ∀ m m', m ≤ m' → ∀ x i, leX (behindX K self M d m x i) (behindX K self' M' d m' x i)
  | 0, _, _, _, _ => leX.none _
  | m + 1, 0, hm, _, _ => absurd hm (by omega)
  | m + 1, m' + 1, hm, x, i =>
    ite_mono (enterX_mono fun _ => bX_mono (hs _ _ _) fun _ _ => ite_mono (bX_mono (hs _ _ _) fun _ _ => needX_mono fun _ => behindX_mono hs M M' d m m' (by omega) _ _) (needX_mono fun _ => behindX_mono hs M M' d m m' (by omega) _ _))
      (ite_mono (bX_mono (leX.refl _) fun _ _ => behindX_mono hs M M' d m m' (by omega) _ _) (leX.refl _))
theorem tightX_mono (hs : LeS self self') {m m' : Nat} (hm : m ≤ m') (d i : Nat) : leX (tightX K self m d i) (tightX K self' m' d i) :=
  bX_mono (firstX_mono hs hm _ _) fun _ _ => behindX_mono hs _ _ _ m m' hm _ _
theorem climbX_mono (hs : LeS self self') (rank d : Nat) : ∀ m m', m ≤ m' → ∀ h x i, leX (climbX K self rank d m h x i) (climbX K self' rank d m' h x i)
  | 0, _, _, _, _, _ => leX.none _
  | m + 1, 0, hm, _, _, _ => absurd hm (by omega)
  | m + 1, m' + 1, hm, h, x, i => ite_mono (leX.refl _) (bX_mono (hs _ _ _) fun _ _ => climbX_mono hs rank d m m' (by omega) _ _ _)
theorem openedX_mono (hs : LeS self self') {m m' : Nat} (hm : m ≤ m') (held d i : Nat) : leX (openedX K self m held d i) (openedX K self' m' held d i) :=
  ite_mono (bindingX_mono hs _ _) (ite_mono (aheadX_mono hs _ _ _) (tightX_mono hs hm _ _))
theorem holdX_mono (hs : LeS self self') {m m' : Nat} (hm : m ≤ m') (rank d i : Nat) : leX (holdX K self m rank d i) (holdX K self' m' rank d i) :=
  ite_mono (leX.refl _) (bX_mono (openedX_mono hs hm _ _ _) fun _ _ => climbX_mono hs _ _ m m' hm _ _ _)
theorem lvlX_mono (hs : LeS self self') (n d : Nat) : ∀ m m', m ≤ m' → ∀ x i, leX (lvlX K self n d m x i) (lvlX K self' n d m' x i)
  | 0, _, _, _, _ => leX.none _
  | m + 1, 0, hm, _, _ => absurd hm (by omega)
  | m + 1, m' + 1, hm, x, i => ite_mono (bX_mono (hs _ _ _) fun _ _ => ite_mono (lvlX_mono hs n d m m' (by omega) _ _) (leX.refl _)) (leX.refl _)
theorem descX_mono (hs : LeS self self') {m m' : Nat} (hm : m ≤ m') (d : Nat) : ∀ k i, leX (descX K self m d k i) (descX K self' m' d k i)
  | 0, _ => ite_mono (aheadX_mono hs _ _ _) (tightX_mono hs hm _ _)
  | k + 1, i => ite_mono (ite_mono (aheadX_mono hs _ _ _) (descX_mono hs hm d k i)) (bX_mono (descX_mono hs hm d k i) fun _ _ => lvlX_mono hs _ _ m m' hm _ _)
theorem fallX_mono (hs : LeS self self') {m m' : Nat} (hm : m ≤ m') (n d i : Nat) : leX (fallX K self m n d i) (fallX K self' m' n d i) :=
  ite_mono (ite_mono (bindingX_mono hs _ _) (descX_mono hs hm _ _ _)) (descX_mono hs hm _ _ _)
end

theorem progX_mono (K : Nat → Tk) : ∀ f f', f ≤ f' → ∀ n d i, leX (progX K f n d i) (progX K f' n d i)
  | 0, _, _, _, _, _ => leX.none _
  | f + 1, 0, h, _, _, _ => absurd h (by omega)
  | f + 1, f' + 1, h, n, d, i => bX_mono (holdX_mono (progX_mono K f f' (by omega)) (by omega) _ _ _) fun _ _ => leX.refl _
theorem refX_mono (K : Nat → Tk) : ∀ f f', f ≤ f' → ∀ n d i, leX (refX K f n d i) (refX K f' n d i)
  | 0, _, _, _, _, _ => leX.none _
  | f + 1, 0, h, _, _, _ => absurd h (by omega)
  | f + 1, f' + 1, h, n, d, i => fallX_mono (refX_mono K f f' (by omega)) (by omega) _ _ _
end Go.Proofs.YtjbekejcghjhbaaGreatDoor.Sx

namespace Go.Proofs.YtjbekejcghjhbaaGreatDoor.Sx

/-- what the class of a token says of its bytes -/
structure TkOK (t : Tk) : Prop where
  word : ∀ c r, t.tx = c :: r → isLetter c = true → t.cl = 1
  sort : t.cl = 0 ∨ t.cl = 1 ∨ t.cl = 2 ∨ t.cl = 3 ∨ t.cl = 4 ∨ t.cl = 5
  none : t.cl = 0 → t.tx = []
  odd : t.cl = 2 ∨ t.cl = 3 ∨ t.cl = 5 → ∀ c r, t.tx = c :: r → isDigit c = true ∨ c = 95 ∨ c = 34
  two : t.cl = 3 → 2 ≤ t.tx.length

theorem lookup_mem {p : List UInt8} {v : Nat} : ∀ (l : List (List UInt8 × Nat)), l.lookup p = some v → v ∈ l.map Prod.snd
  | [], h => by simp at h
  | (a, b) :: l, h => by
    rw [List.lookup_cons] at h
    split at h
    · simp only [Option.some.injEq] at h; simp [h]
    · have := lookup_mem l h; simp only [List.map_cons, List.mem_cons]; exact .inr this
theorem levelF_in (p : List UInt8) : levelF p = 0 ∨ levelF p = 1 ∨ levelF p = 2 ∨ levelF p = 3 ∨ levelF p = 4 ∨ levelF p = 5 ∨ levelF p = 7 ∨ levelF p = 8 ∨ levelF p = 9 ∨ levelF p = 10 ∨ levelF p = 11 := by
  unfold levelF
  cases h : joins.lookup p with
  | none => exact .inl rfl
  | some v =>
    have := lookup_mem _ h
    simp only [joins, List.map_cons, List.map_nil, List.mem_cons, List.not_mem_nil, or_false] at this
    simp only [Option.getD_some]
    omega
theorem leftF_le (n : Nat) : n ≤ leftF n ∧ leftF n ≤ n + 1 := by unfold leftF; split <;> omega

theorem openF_0 {p : List UInt8} (h : opens0.contains p = true) : openF p = 0 := by unfold openF; rw [if_pos h]
theorem openF_6 {p : List UInt8} (h : opens6.contains p = true) : openF p = 6 := by
  have : opens0.contains p = false := by
    simp only [opens6, List.contains_cons, List.contains_nil, Bool.or_false, Bool.or_eq_true, beq_iff_eq] at h
    rcases h with rfl | rfl | rfl | rfl <;> rfl
  unfold openF; rw [this, h]; rfl
theorem openF_12 {p : List UInt8} (h : opens12.contains p = true) : openF p = 12 := by
  have h0 : opens0.contains p = false ∧ opens6.contains p = false := by
    simp only [opens12, List.contains_cons, List.contains_nil, Bool.or_false, Bool.or_eq_true, beq_iff_eq] at h
    rcases h with rfl | rfl | rfl | rfl | rfl <;> exact ⟨rfl, rfl⟩
  unfold openF; rw [h0.1, h0.2, h]; rfl
theorem openF_in (p : List UInt8) : (openF p = 0 ∧ opens0.contains p = true) ∨ (openF p = 6 ∧ opens6.contains p = true) ∨ (openF p = 12 ∧ opens12.contains p = true) ∨ (openF p = 14 ∧ opens0.contains p = false ∧ opens6.contains p = false ∧ opens12.contains p = false) := by
  cases h0 : opens0.contains p with
  | true => exact .inl ⟨openF_0 h0, rfl⟩
  | false =>
    cases h6 : opens6.contains p with
    | true => exact .inr (.inl ⟨openF_6 h6, rfl⟩)
    | false =>
      cases h12 : opens12.contains p with
      | true => exact .inr (.inr (.inl ⟨openF_12 h12, rfl⟩))
      | false => exact .inr (.inr (.inr ⟨by unfold openF; rw [h0, h6, h12]; rfl, rfl, rfl, rfl⟩))

/-- a word that something begins is none that stands first -/
theorem first_none {K : Nat → Tk} {self : Nat → Nat → Nat → RX PX} {m d i : Nat} (hK : TkOK (K i)) (h : opens0.contains (K i).tx = true ∨ opens6.contains (K i).tx = true) : tightX K self m d i = errX 1 (K i).at' := by
  have h1 : (K i).cl = 1 ∧ fixed3.contains (K i).tx = false ∧ called7.contains (K i).tx = false ∧ isReserved (K i).tx = true := by
    simp only [opens0, opens6, List.contains_cons, List.contains_nil, Bool.or_false, Bool.or_eq_true, beq_iff_eq] at h
    rcases h with (h | h | h | h | h | h) | (h | h | h | h)
    all_goals
      refine ⟨hK.word _ _ h rfl, ?_⟩
      rw [h]
      exact ⟨rfl, rfl, by decide⟩
  have hn : nameX K i = errX 1 (K i).at' := by unfold nameX; rw [if_pos (.inr h1.2.2.2)]
  unfold tightX firstX wordX namedX
  rw [if_neg (by omega), if_neg (by omega), if_pos h1.1, if_neg (by rw [h1.2.1]; simp), if_neg (by rw [h1.2.2.1]; simp), hn]
  rfl

theorem bX_assoc {β γ δ : Type} (r : RX β) (k : β → Nat → RX γ) (l : γ → Nat → RX δ) : bX (bX r k) l = bX r fun x i => bX (k x i) l := by
  rcases r with _ | (e | ⟨x, i⟩) <;> rfl
theorem bX_ok {β γ : Type} (x : β) (i : Nat) (k : β → Nat → RX γ) : bX (okX x i) k = k x i := rfl

section
variable {K : Nat → Tk} {self : Nat → Nat → Nat → RX PX}
theorem climb_split (n d m2 : Nat) : ∀ m held x i, leX (bX (climbX K self (n + 1) d m held x i) fun y j => climbX K self n d m2 y.2 y.1 j) (climbX K self n d (m + m2) held x i)
  | 0, _, _, _ => leX.none _
  | m + 1, held, x, i => by
    rw [climbX]
    by_cases h : levelF (K i).tx = 0 ∨ levelF (K i).tx < n + 1 ∨ held < leftF (levelF (K i).tx)
    · rw [if_pos h, bX_ok]
      exact climbX_mono (fun _ _ _ => leX.refl _) n d m2 (m + 1 + m2) (by omega) _ _ _
    · rw [if_neg h, show m + 1 + m2 = (m + m2) + 1 from by omega, climbX, if_neg (by omega), bX_assoc]
      exact bX_mono (leX.refl _) fun y j => climb_split n d m2 m _ _ _
theorem climb_stop (n d : Nat) : ∀ m held x i y h' j, climbX K self n d m held x i = some (.ok ((y, h'), j)) → n ≤ held → n ≤ h' ∧ (levelF (K j).tx = 0 ∨ levelF (K j).tx < n ∨ h' < leftF (levelF (K j).tx))
  | 0, _, _, _, _, _, _, e, _ => by simp [climbX] at e
  | m + 1, held, x, i, y, h', j, e, hn => by
    rw [climbX] at e
    by_cases h : levelF (K i).tx = 0 ∨ levelF (K i).tx < n ∨ held < leftF (levelF (K i).tx)
    · rw [if_pos h] at e
      simp only [okX, Option.some.injEq, Except.ok.injEq, Prod.mk.injEq] at e
      obtain ⟨⟨-, rfl⟩, rfl⟩ := e
      exact ⟨hn, h⟩
    · rw [if_neg h] at e
      cases q : self (rightF (levelF (K i).tx)) d (i + 1) with
      | none => rw [q] at e; simp [bX] at e
      | some r =>
        rw [q] at e
        rcases r with e' | ⟨z, k⟩
        · simp [bX] at e
        · exact climb_stop n d m _ _ _ y h' j e (by omega)
theorem climb_none {n d m held : Nat} {x : PX} {i : Nat} (h : levelF (K i).tx = 0 ∨ levelF (K i).tx < n ∨ held < leftF (levelF (K i).tx)) : climbX K self n d (m + 1) held x i = okX (x, held) i := by rw [climbX, if_pos h]
theorem lvl_same (n d : Nat) (hn : 1 ≤ n) (hl : fromL n = true) : ∀ m y j, leX (lvlX K self n d m y j) (bX (climbX K self n d m n y j) fun z j => okX z.1 j)
  | 0, _, _ => leX.none _
  | m + 1, y, j => by
    rw [lvlX, climbX]
    have hlf : leftF n = n := by unfold leftF; rw [hl]; rfl
    by_cases h : levelF (K j).tx = n
    · rw [if_pos h, if_neg (by rw [h, hlf]; omega), bX_assoc, h]
      exact bX_mono (leX.refl _) fun z k => by rw [hl]; exact lvl_same n d hn hl m _ _
    · have := (leftF_le (levelF (K j).tx)).1
      rw [if_neg h, if_pos (by omega)]
      exact leX.refl _
theorem lvl_climb (n d : Nat) (hn : 1 ≤ n) (m : Nat) (y : PX) (h' j : Nat) (hh : n + 1 ≤ h') (hs : levelF (K j).tx = 0 ∨ levelF (K j).tx < n + 1 ∨ h' < leftF (levelF (K j).tx)) :
    leX (lvlX K self n d m y j) (bX (climbX K self n d (m + 1) h' y j) fun z j => okX z.1 j) := by
  cases m with
  | zero => exact leX.none _
  | succ m =>
    rw [lvlX, climbX]
    have hlf := leftF_le n
    by_cases h : levelF (K j).tx = n
    · rw [if_pos h, if_neg (by rw [h]; omega), bX_assoc, h]
      refine bX_mono (leX.refl _) fun z k => ?_
      cases hl : fromL n with
      | true => exact (lvl_same n d hn hl m _ _).trans (bX_mono (climbX_mono (fun _ _ _ => leX.refl _) n d m (m + 1) (by omega) _ _ _) fun _ _ => leX.refl _)
      | false =>
        have h1 : leftF n = n + 1 := by unfold leftF; rw [hl]; rfl
        have h2 := leftF_le (levelF (K k).tx)
        rw [if_neg (by simp), climb_none (by
          by_cases q : levelF (K k).tx = n
          · rw [q, h1]; omega
          · omega)]
        exact leX.refl _
    · rw [if_neg h, if_pos (by omega)]
      exact leX.refl _

theorem climb_eq {a b : Nat} (h : ∀ p, (levelF p = 0 ∨ levelF p < a) ↔ (levelF p = 0 ∨ levelF p < b)) (d : Nat) : ∀ m held x i, climbX K self a d m held x i = climbX K self b d m held x i
  | 0, _, _, _ => rfl
  | m + 1, held, x, i => by
    rw [climbX, climbX]
    have := h (K i).tx
    by_cases q : levelF (K i).tx = 0 ∨ levelF (K i).tx < a ∨ held < leftF (levelF (K i).tx)
    · rw [if_pos q, if_pos (by omega)]
    · rw [if_neg q, if_neg (by omega)]
      congr 1; funext y j; exact climb_eq h d m _ _ _


theorem desc_hold (hK : ∀ i, TkOK (K i)) (m d : Nat) : ∀ k, k ≤ 11 → ∀ i, leX (descX K self m d k i) (bX (holdX K self ((k + 1) * (m + 1)) (12 - k) d i) fun x j => okX x.1 j)
  | 0, _, i => by
    rw [descX]
    unfold holdX
    rcases openF_in (K i).tx with ⟨e, h⟩ | ⟨e, h⟩ | ⟨e, h⟩ | ⟨e, h0, h6, h⟩
    · rw [e, if_pos (show 0 < 12 - 0 by omega)]
      have : opens12.contains (K i).tx = false := by
        cases q : opens12.contains (K i).tx with
        | false => rfl
        | true => have := openF_12 q; omega
      rw [this, first_none (hK i) (.inl h)]; exact leX.refl _
    · rw [e, if_pos (show 6 < 12 - 0 by omega)]
      have : opens12.contains (K i).tx = false := by
        cases q : opens12.contains (K i).tx with
        | false => rfl
        | true => have := openF_12 q; omega
      rw [this, first_none (hK i) (.inr h)]; exact leX.refl _
    · rw [h, e, if_neg (show ¬ 12 < 12 - 0 by omega), if_pos rfl, bX_assoc]
      have e1 : openedX K self ((0 + 1) * (m + 1)) 12 d i = aheadX K self 12 d i := rfl
      rw [e1]
      rcases hq : aheadX K self 12 d i with _ | (q | ⟨x, j⟩)
      · exact leX.none _
      · exact leX.refl _
      · show leX _ (bX (climbX _ _ _ _ _ _ _ _) _)
        rw [show (0 + 1) * (m + 1) = m + 1 from by omega, climb_none (by have := levelF_in (K j).tx; omega)]; exact leX.refl _
    · rw [h, e, if_neg (show ¬ 14 < 12 - 0 by omega), bX_assoc]
      have e1 : openedX K self ((0 + 1) * (m + 1)) 14 d i = tightX K self (m + 1) d i := by rw [show (0 + 1) * (m + 1) = m + 1 from by omega]; rfl
      rw [e1]
      refine leX.trans (tightX_mono (fun _ _ _ => leX.refl _) (Nat.le_succ m) _ _) ?_
      rcases hq : tightX K self (m + 1) d i with _ | (q | ⟨x, j⟩)
      · exact leX.none _
      · exact leX.refl _
      · show leX _ (bX (climbX _ _ _ _ _ _ _ _) _)
        rw [show (0 + 1) * (m + 1) = m + 1 from by omega, climb_none (by have := levelF_in (K j).tx; omega)]; exact leX.refl _
  | k + 1, hk, i => by
    have ih := desc_hold hK m d k (by omega) i
    have hM : (k + 1 + 1) * (m + 1) = (k + 1) * (m + 1) + (m + 1) := by rw [Nat.add_mul (k + 1) 1 (m + 1), Nat.one_mul]
    rw [descX]
    by_cases h5 : k = 5
    · subst h5
      rw [if_pos rfl]
      unfold holdX
      unfold holdX at ih
      cases h6 : opens6.contains (K i).tx with
      | true =>
        have e := openF_6 h6
        rw [e, if_pos rfl, if_neg (show ¬ 6 < 12 - (5 + 1) by omega), bX_assoc]
        have e1 : ∀ M, openedX K self M 6 d i = aheadX K self 6 d i := fun _ => rfl
        rw [e1]
        rcases hq : aheadX K self 6 d i with _ | (q | ⟨x, j⟩)
        · exact leX.none _
        · exact leX.refl _
        · show leX _ (bX (climbX _ _ _ _ _ _ _ _) _)
          rw [show (5 + 1 + 1) * (m + 1) = (6 * (m + 1) + m) + 1 from by omega, climb_none (by have := levelF_in (K j).tx; have := leftF_le (levelF (K j).tx); omega)]; exact leX.refl _
      | false =>
        have e := openF_in (K i).tx
        rw [h6] at e
        refine leX.trans ih ?_
        by_cases q : openF (K i).tx < 12 - 5
        · rw [if_pos q, if_pos (by simp at e; omega)]; exact leX.refl _
        · rw [if_neg q, if_neg (by omega), bX_assoc, bX_assoc]
          refine bX_mono (openedX_mono (fun _ _ _ => leX.refl _) (by omega) _ _ _) fun x j => ?_
          rw [climb_eq (a := 12 - (5 + 1)) (b := 12 - 5) (fun p => by have := levelF_in p; omega)]
          exact bX_mono (climbX_mono (fun _ _ _ => leX.refl _) _ _ _ _ (by omega) _ _ _) fun _ _ => leX.refl _
    · rw [if_neg h5]
      refine leX.trans (bX_mono ih fun _ _ => leX.refl _) ?_
      unfold holdX
      have e := openF_in (K i).tx
      by_cases q : openF (K i).tx < 12 - k
      · rw [if_pos q, if_pos (by omega)]; exact leX.refl _
      · rw [if_neg q, if_neg (by omega), bX_assoc, bX_assoc, bX_assoc]
        refine bX_mono (openedX_mono (fun _ _ _ => leX.refl _) (by omega) _ _ _) fun x j => ?_
        rw [hM, show 12 - k = (12 - (k + 1)) + 1 from by omega]
        have hst := climb_stop (K := K) (self := self) (12 - (k + 1) + 1) d ((k + 1) * (m + 1)) (openF (K i).tx) x j
        refine leX.trans ?_ (bX_mono (climb_split (12 - (k + 1)) d (m + 1) ((k + 1) * (m + 1)) _ _ _) fun _ _ => leX.refl _)
        rw [bX_assoc]
        rcases hq : climbX K self (12 - (k + 1) + 1) d ((k + 1) * (m + 1)) (openF (K i).tx) x j with _ | (q' | ⟨⟨y, h'⟩, l⟩)
        · exact leX.none _
        · exact leX.refl _
        · obtain ⟨s1, s2⟩ := hst y h' l hq (by omega)
          show leX (lvlX _ _ _ _ _ _ _) (bX (climbX _ _ _ _ _ _ _ _) _)
          rw [show 11 - k = 12 - (k + 1) from by omega]
          exact lvl_climb _ d (by omega) m y h' l s1 s2

theorem fall_hold (hK : ∀ i, TkOK (K i)) (m n d i : Nat) (hn : n ≤ 12) : leX (fallX K self m n d i) (bX (holdX K self (12 * (m + 1)) n d i) fun x j => okX x.1 j) := by
  unfold fallX
  by_cases h : n = 0
  · subst h
    rw [if_pos rfl]
    cases h0 : opens0.contains (K i).tx with
    | true =>
      unfold holdX
      rw [openF_0 h0, if_pos rfl, if_neg (show ¬ 0 < 0 by omega), bX_assoc]
      have e1 : ∀ M, openedX K self M 0 d i = bindingX K self d i := fun _ => rfl
      rw [e1]
      rcases hq : bindingX K self d i with _ | (q | ⟨x, j⟩)
      · exact leX.none _
      · exact leX.refl _
      · show leX _ (bX (climbX _ _ _ _ _ _ _ _) _)
        rw [show 12 * (m + 1) = (12 * m + 11) + 1 from by omega, climb_none (by have := levelF_in (K j).tx; have := leftF_le (levelF (K j).tx); omega)]; exact leX.refl _
    | false =>
      refine leX.trans (desc_hold hK m d 11 (by omega) i) ?_
      have e := openF_in (K i).tx
      rw [h0] at e
      unfold holdX
      rw [if_neg (by simp at e; omega), if_neg (by omega), bX_assoc, bX_assoc]
      refine bX_mono (openedX_mono (fun _ _ _ => leX.refl _) (by omega) _ _ _) fun x j => ?_
      rw [climb_eq (a := 0) (b := 12 - 11) (fun p => by have := levelF_in p; omega)]
      exact leX.refl _
  · rw [if_neg h]
    refine leX.trans (desc_hold hK m d (12 - n) (by omega) i) ?_
    rw [show 12 - (12 - n) = n from by omega]
    exact bX_mono (holdX_mono (fun _ _ _ => leX.refl _) (Nat.mul_le_mul_right _ (by omega)) _ _ _) fun _ _ => leX.refl _
end
end Go.Proofs.YtjbekejcghjhbaaGreatDoor.Sx

namespace Go.Proofs.YtjbekejcghjhbaaGreatDoor.Sx

theorem ref_prog {K : Nat → Tk} (hK : ∀ i, TkOK (K i)) : ∀ f n d i, leX (refX K f n d i) (progX K (13 * f + 20) n d i)
  | 0, _, _, _ => leX.none _
  | f + 1, n, d, i => by
    have ih := ref_prog hK f
    have e : fallX K (progX K (13 * f + 20)) f n d i = fallX K (progX K (13 * f + 20)) f (min n 12) d i := by
      by_cases h : n ≤ 12
      · rw [Nat.min_eq_left h]
      · unfold fallX; rw [if_neg (by omega), if_neg (by omega), show 12 - n = 12 - min n 12 from by omega]
    refine leX.trans (fallX_mono ih (Nat.le_refl f) n d i) ?_
    rw [e]
    refine leX.trans (fall_hold hK f (min n 12) d i (by omega)) ?_
    rw [show 13 * (f + 1) + 20 = (13 * f + 32) + 1 from by omega, progX]
    exact bX_mono (holdX_mono (progX_mono K _ _ (by omega)) (by omega) _ _ _) fun _ _ => leX.refl _

/-- it comes to an end, behind a place -/
def Adv {β : Type} (lo N : Nat) (r : RX β) : Prop := ∃ e, r = some e ∧ ∀ x j, e = .ok (x, j) → lo ≤ j ∧ j ≤ N
theorem Adv.err {β : Type} {lo N c p : Nat} : Adv lo N (errX c p : RX β) := ⟨_, rfl, fun _ _ h => by simp at h⟩
theorem Adv.ok {β : Type} {lo N : Nat} {x : β} {j : Nat} (h : lo ≤ j) (k : j ≤ N) : Adv lo N (okX x j) := ⟨_, rfl, fun _ _ e => by simp at e; omega⟩
theorem Adv.bind {β γ : Type} {a lo N : Nat} {r : RX β} {k : β → Nat → RX γ} (h : Adv a N r) (hk : ∀ x j, a ≤ j → j ≤ N → Adv lo N (k x j)) : Adv lo N (bX r k) := by
  obtain ⟨e, rfl, h⟩ := h
  rcases e with e | ⟨x, j⟩
  · exact ⟨_, rfl, fun _ _ h => by simp at h⟩
  · obtain ⟨h1, h2⟩ := h x j rfl
    exact hk x j h1 h2
theorem Adv.mono {β : Type} {a b N : Nat} {r : RX β} (h : Adv a N r) (hb : b ≤ a) : Adv b N r := by
  obtain ⟨e, he, h⟩ := h
  exact ⟨e, he, fun x j q => ⟨Nat.le_trans hb (h x j q).1, (h x j q).2⟩⟩
theorem Adv.ite {β : Type} {lo N : Nat} {c : Prop} [Decidable c] {a b : RX β} (h : c → Adv lo N a) (k : ¬ c → Adv lo N b) : Adv lo N (if c then a else b) := by
  split
  · exact h ‹_›
  · exact k ‹_›

def marks : List (List UInt8) := [[58], [105, 110], [116, 104, 101, 110], [101, 108, 115, 101], [61], [44], [41], [93], [125], [62, 62], [39], [40], [123], [60, 60], [91], [46], [58, 61]] ++ opens0 ++ opens6 ++ opens12 ++ fixed3 ++ called7 ++ binds2 ++ joins.map Prod.fst
/-- the last token is none that is passed -/
structure Last (K : Nat → Tk) (N : Nat) : Prop where
  cl : (K N).cl = 0 ∨ (K N).cl = 5
  tx : ∀ m ∈ marks, (K N).tx ≠ m

section
variable {K : Nat → Tk} {N : Nat}
theorem Last.lt (h : Last K N) {i : Nat} (hi : i ≤ N) {m : List UInt8} (e : ((K i).tx == m) = true) (hm : m ∈ marks) : i < N := by
  rcases Nat.lt_or_eq_of_le hi with q | q
  · exact q
  · subst q; exact absurd (eq_of_beq e) (h.tx m hm)
theorem Last.lt_in (h : Last K N) {i : Nat} (hi : i ≤ N) {l : List (List UInt8)} (e : l.contains (K i).tx = true) (hm : ∀ m ∈ l, m ∈ marks) : i < N := by
  rcases Nat.lt_or_eq_of_le hi with q | q
  · exact q
  · subst q
    exact absurd rfl (h.tx _ (hm _ (List.contains_iff_mem.1 e)))
theorem Last.lt_cl (h : Last K N) {i : Nat} (hi : i ≤ N) (e : (K i).cl = 1 ∨ (K i).cl = 2 ∨ (K i).cl = 3) : i < N := by
  rcases Nat.lt_or_eq_of_le hi with q | q
  · exact q
  · subst q; have := h.cl; omega
theorem needX_adv {γ : Type} (h : Last K N) {m : List UInt8} (hm : m ∈ marks) {lo i : Nat} (hi : i ≤ N) {k : Nat → RX γ} (hk : i + 1 ≤ N → Adv lo N (k (i + 1))) : Adv lo N (needX K m i k) :=
  Adv.ite (fun e => hk (h.lt hi e hm)) fun _ => Adv.err
theorem enterX_adv {γ : Type} {d lo i : Nat} {k : Nat → RX γ} (hk : Adv lo N (k (i + 1))) : Adv lo N (enterX K d i k) := Adv.ite (fun _ => Adv.err) fun _ => hk
theorem nameX_adv (h : Last K N) {i : Nat} (hi : i ≤ N) : Adv (i + 1) N (nameX K i) :=
  Adv.ite (fun _ => Adv.err) fun q => Adv.ite (fun _ => Adv.err) fun _ => Adv.ok (Nat.le_refl _) (h.lt_cl hi (by have : (K i).cl = 1 := Classical.byContradiction fun e => q (.inl e); omega))
theorem listX_adv {β : Type} (h : Last K N) {cl : List UInt8} (hc : cl ∈ marks) {item : Nat → RX β} {lo : Nat} (hi : ∀ i, lo ≤ i → i ≤ N → Adv (i + 1) N (item i)) : ∀ m acc i, lo ≤ i → i ≤ N → N - i < m → Adv (i + 1) N (listX K cl item m acc i)
  | 0, _, _, _, _, q => absurd q (by omega)
  | m + 1, acc, i, h1, h2, q => (hi i h1 h2).bind fun x j a b => Adv.ite (fun e => Adv.ok (by omega) (h.lt b e hc)) fun _ =>
      needX_adv h (by decide) b fun c => (listX_adv h hc hi m _ _ (by omega) c (by omega)).mono (by omega)
theorem anyX_adv {β : Type} (h : Last K N) {cl : List UInt8} (hc : cl ∈ marks) {item : Nat → RX β} {i m : Nat} (hi : ∀ j, i ≤ j → j ≤ N → Adv (j + 1) N (item j)) (h2 : i ≤ N) (q : N - i < m) : Adv (i + 1) N (anyX K cl item m i) :=
  Adv.ite (fun e => Adv.ok (by omega) (h.lt h2 e hc)) fun _ => listX_adv h hc hi m _ _ (Nat.le_refl _) h2 q

variable {self : Nat → Nat → Nat → RX PX}
/-- parts that begin behind a place are read to their ends -/
abbrev SelfAdv (N lo : Nat) (self : Nat → Nat → Nat → RX PX) : Prop := ∀ n d j, lo ≤ j → j ≤ N → Adv (j + 1) N (self n d j)
theorem pairX_adv (h : Last K N) {lo : Nat} (hs : SelfAdv N lo self) (d : Nat) {i : Nat} (h1 : lo ≤ i) (h2 : i ≤ N) : Adv (i + 1) N (pairX K self d i) :=
  (hs 0 d i h1 h2).bind fun _ j a b => needX_adv h (by decide) b fun c => (hs 0 d _ (by omega) c).bind fun _ _ a b => Adv.ok (by omega) b
theorem boundX_adv (h : Last K N) {lo : Nat} (hs : SelfAdv N lo self) (op : List UInt8) (d : Nat) {i : Nat} (h1 : lo ≤ i) (h2 : i ≤ N) : Adv (i + 1) N (boundX K self op d i) :=
  (nameX_adv h h2).bind fun _ j a b => needX_adv h (by decide) b fun c => (hs 8 d _ (by omega) c).bind fun _ j a b => needX_adv h (by decide) b fun c => (hs 0 d _ (by omega) c).bind fun _ _ a b => Adv.ok (by omega) b
theorem choiceX_adv (h : Last K N) {lo : Nat} (hs : SelfAdv N lo self) (d : Nat) {i : Nat} (h1 : lo ≤ i) (h2 : i ≤ N) : Adv (i + 1) N (choiceX K self d i) :=
  (hs 0 d i h1 h2).bind fun _ j a b => needX_adv h (by decide) b fun c => (hs 0 d _ (by omega) c).bind fun _ j a b => needX_adv h (by decide) b fun c => (hs 0 d _ (by omega) c).bind fun _ _ a b => Adv.ok (by omega) b
theorem namingX_adv (h : Last K N) {lo : Nat} (hs : SelfAdv N lo self) (d : Nat) {i : Nat} (h1 : lo ≤ i) (h2 : i ≤ N) : Adv (i + 1) N (namingX K self d i) :=
  (nameX_adv h h2).bind fun _ j a b => needX_adv h (by decide) b fun c => (hs 0 d _ (by omega) c).bind fun _ j a b => needX_adv h (by decide) b fun c => (hs 0 d _ (by omega) c).bind fun _ _ a b => Adv.ok (by omega) b
theorem bindingX_adv (h : Last K N) {i : Nat} (hs : SelfAdv N (i + 1) self) (d : Nat) (h2 : i < N) : Adv (i + 1) N (bindingX K self d i) :=
  enterX_adv (Adv.ite (fun _ => (choiceX_adv h hs _ (Nat.le_refl _) h2).mono (by omega)) fun _ => Adv.ite (fun _ => (namingX_adv h hs _ (Nat.le_refl _) h2).mono (by omega)) fun _ => (boundX_adv h hs _ _ (Nat.le_refl _) h2).mono (by omega))
theorem aheadX_adv (h : Last K N) {i : Nat} (hs : SelfAdv N (i + 1) self) (r d : Nat) (h2 : i < N) : Adv (i + 1) N (aheadX K self r d i) :=
  Adv.ite (fun _ => (nameX_adv h h2).bind fun _ _ a b => Adv.ok (by omega) b) fun _ => enterX_adv ((hs _ _ _ (Nat.le_refl _) h2).bind fun _ _ a b => Adv.ok (by omega) b)
theorem callX_adv (h : Last K N) {lo : Nat} (hs : SelfAdv N lo self) (n : List UInt8) (d : Nat) {m i : Nat} (h1 : lo ≤ i + 1) (h2 : i < N) (q : N - i < m + 1) : Adv (i + 1) N (callX K self m n d i) :=
  enterX_adv ((listX_adv h (by decide) (fun j a b => hs 0 (d + 1) j a b) m _ _ h1 h2 (by omega)).bind fun _ _ a b => Adv.ok (by omega) b)
theorem namedX_adv (h : Last K N) {i m : Nat} (hs : SelfAdv N (i + 1) self) (d : Nat) (h2 : i ≤ N) (q : N - i < m + 1) : Adv (i + 1) N (namedX K self m d i) :=
  (nameX_adv h h2).bind fun _ j a b => Adv.ite (fun e => Adv.ok (by omega) (h.lt b e (by decide))) fun _ => Adv.ite (fun e => (callX_adv h hs _ d (by omega) (h.lt b e (by decide)) (by omega)).mono (by omega)) fun _ => Adv.ok a b
theorem wordX_adv (h : Last K N) {i m : Nat} (hs : SelfAdv N (i + 1) self) (d : Nat) (h2 : i < N) (q : N - i < m + 1) : Adv (i + 1) N (wordX K self m d i) :=
  Adv.ite (fun _ => Adv.ok (by omega) h2) fun _ => Adv.ite (fun _ => Adv.ite (fun e => (callX_adv h hs _ d (by omega) (h.lt h2 e (by decide)) (by omega)).mono (by omega)) fun _ => Adv.err) fun _ => namedX_adv h hs d (by omega) q
theorem setX_adv (h : Last K N) {i m : Nat} (hs : SelfAdv N i self) (d : Nat) (h2 : i ≤ N) (q : N - i < m) : Adv (i + 1) N (setX K self m d i) :=
  Adv.ite (fun e => (boundX_adv h hs _ d (by omega) (h.lt_in h2 e (by decide))).bind fun _ j a b => needX_adv h (by decide) b fun c => Adv.ok (by omega) c) fun _ => (anyX_adv h (by decide) (fun j a b => hs 0 d j a b) h2 q).bind fun _ _ a b => Adv.ok a b
theorem bracketX_adv (h : Last K N) {i m : Nat} (hs : SelfAdv N (i + 1) self) (d : Nat) (h2 : i ≤ N) (q : N - i < m + 1) : Adv (i + 1) N (bracketX K self m d i) :=
  Adv.ite (fun e => enterX_adv ((hs _ _ _ (Nat.le_refl _) (h.lt h2 e (by decide))).bind fun _ j a b => needX_adv h (by decide) b fun c => Adv.ok (by omega) c)) fun _ =>
  Adv.ite (fun e => have := h.lt h2 e (by decide); enterX_adv ((setX_adv h hs _ this (by omega)).mono (by omega))) fun _ =>
  Adv.ite (fun e => have := h.lt h2 e (by decide); enterX_adv ((anyX_adv h (by decide) (fun j a b => hs 0 (d + 1) j a b) this (by omega)).bind fun _ _ a b => Adv.ok (by omega) b)) fun _ =>
  Adv.ite (fun e => have := h.lt h2 e (by decide); enterX_adv ((listX_adv h (by decide) (fun j a b => pairX_adv h hs (d + 1) a b) m _ _ (Nat.le_refl _) this (by omega)).bind fun _ _ a b => Adv.ok (by omega) b)) fun _ => Adv.err
theorem firstX_adv (h : Last K N) {i m : Nat} (hs : SelfAdv N (i + 1) self) (d : Nat) (h2 : i ≤ N) (q : N - i < m + 1) : Adv (i + 1) N (firstX K self m d i) :=
  Adv.ite (fun e => by
    have := h.lt_cl h2 (.inr (.inl e))
    split
    · exact Adv.ok (Nat.le_refl _) this
    · exact Adv.err) fun _ =>
  Adv.ite (fun e => Adv.ok (Nat.le_refl _) (h.lt_cl h2 (.inr (.inr e)))) fun _ => Adv.ite (fun e => wordX_adv h hs d (h.lt_cl h2 (.inl e)) q) fun _ => bracketX_adv h hs d h2 q
theorem behindX_adv (h : Last K N) {lo : Nat} (hs : SelfAdv N lo self) (M d : Nat) : ∀ m x i, lo ≤ i → i ≤ N → N - i < m → Adv i N (behindX K self M d m x i)
  | 0, _, _, _, _, q => absurd q (by omega)
  | m + 1, x, i, h1, h2, q =>
    Adv.ite (fun e => enterX_adv ((hs _ _ _ (by omega) (h.lt h2 e (by decide))).bind fun _ j a b =>
      Adv.ite (fun e => (hs _ _ _ (by omega) (h.lt b e (by decide))).bind fun _ j a b => needX_adv h (by decide) b fun c => (behindX_adv h hs M d m _ _ (by omega) c (by omega)).mono (by omega))
        fun _ => needX_adv h (by decide) b fun c => (behindX_adv h hs M d m _ _ (by omega) c (by omega)).mono (by omega))) fun _ =>
    Adv.ite (fun e => (nameX_adv h (h.lt h2 e (by decide))).bind fun _ j a b => (behindX_adv h hs M d m _ _ (by omega) b (by omega)).mono (by omega)) fun _ => Adv.ok (Nat.le_refl _) h2
theorem tightX_adv (h : Last K N) {i m : Nat} (hs : SelfAdv N (i + 1) self) (d : Nat) (h2 : i ≤ N) (q : N - i < m + 1) : Adv (i + 1) N (tightX K self m d i) :=
  (firstX_adv h hs d h2 q).bind fun x j a b => (behindX_adv h hs m d m x j a b (by omega)).mono a
theorem lvlX_adv (h : Last K N) {lo : Nat} (hs : SelfAdv N lo self) (n d : Nat) (hn : 1 ≤ n) : ∀ m x i, lo ≤ i → i ≤ N → N - i < m → Adv i N (lvlX K self n d m x i)
  | 0, _, _, _, _, q => absurd q (by omega)
  | m + 1, x, i, h1, h2, q => by
    rw [lvlX]
    refine Adv.ite (fun e => ?_) fun _ => Adv.ok (Nat.le_refl _) h2
    have hlt : i < N := by
      rcases Nat.lt_or_eq_of_le h2 with q | q
      · exact q
      · subst q
        unfold levelF at e
        cases w : joins.lookup (K i).tx with
        | none => rw [w] at e; simp at e; omega
        | some v =>
          have : (K i).tx ∈ joins.map Prod.fst := by
            have : ∀ l : List (List UInt8 × Nat), l.lookup (K i).tx = some v → (K i).tx ∈ l.map Prod.fst := by
              intro l
              induction l with
              | nil => intro w; simp at w
              | cons a l ih =>
                intro w
                rw [List.lookup_cons] at w
                split at w
                · rename_i q; rw [eq_of_beq q]; simp
                · simp only [List.map_cons, List.mem_cons]; exact .inr (ih w)
            exact this _ w
          exact absurd rfl (h.tx _ (by unfold marks; exact List.mem_append_right _ this))
    exact (hs _ _ _ (by omega) hlt).bind fun _ j a b => Adv.ite (fun _ => (lvlX_adv h hs n d hn m _ _ (by omega) b (by omega)).mono (by omega)) fun _ => Adv.ok (by omega) b
theorem descX_adv (h : Last K N) {i m : Nat} (hs : SelfAdv N (i + 1) self) (d : Nat) (h2 : i ≤ N) (q : N - i < m + 1) : ∀ k, k ≤ 11 → Adv (i + 1) N (descX K self m d k i)
  | 0, _ => Adv.ite (fun e => aheadX_adv h hs 12 d (h.lt_in h2 e (by decide))) fun _ => tightX_adv h hs d h2 q
  | k + 1, hk => Adv.ite (fun _ => Adv.ite (fun e => aheadX_adv h hs 6 d (h.lt_in h2 e (by decide))) fun _ => descX_adv h hs d h2 q k (by omega)) fun _ =>
      (descX_adv h hs d h2 q k (by omega)).bind fun x j a b => (lvlX_adv h hs _ d (by omega) m x j a b (by omega)).mono a
theorem fallX_adv (h : Last K N) {i m : Nat} (hs : SelfAdv N (i + 1) self) (n d : Nat) (h2 : i ≤ N) (q : N - i < m + 1) : Adv (i + 1) N (fallX K self m n d i) :=
  Adv.ite (fun _ => Adv.ite (fun e => bindingX_adv h hs d (h.lt_in h2 e (by decide))) fun _ => descX_adv h hs d h2 q 11 (by omega)) fun _ => descX_adv h hs d h2 q _ (by omega)
end
theorem refX_adv {K : Nat → Tk} {N : Nat} (h : Last K N) : ∀ f n d i, i ≤ N → N - i < f → Adv (i + 1) N (refX K f n d i)
  | 0, _, _, _, _, q => absurd q (by omega)
  | f + 1, n, d, i, h2, q => fallX_adv h (self := refX K f) (fun n d j a b => refX_adv h f n d j b (by omega)) n d h2 q
end Go.Proofs.YtjbekejcghjhbaaGreatDoor.Sx
