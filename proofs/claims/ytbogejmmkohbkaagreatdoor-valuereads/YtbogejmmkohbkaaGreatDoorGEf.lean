/- The reference: values as text. -/
import Derived.Test.YtbogejmmkohbkaaGreatDoorGEe
namespace Go.Proofs.YtbogejmmkohbkaaGreatDoor.Sx
open Go.RowKit Go.Sort

theorem rseq_d (n : Nat) (P : Nat → Prop) (w : World) (a : Node (AV n)) (v : Value) (ha : Ref P w (n + 1) a v) :
    Calls Tryz.prog 35 #[v] w fun e w' => e = .returned (.bool (counts (numOf n) a.keys && decide (a.kind = 6))) ∧ Grew w w' := by
  cases n with
  | succ m => exact rseq_any m P w a v ha
  | zero =>
    obtain ⟨kd, i, tx, ks, vs⟩ := a
    have hk : ks = [] := by
      cases ks with
      | nil => rfl
      | cons x _ => exact (show Empty from x).elim
    have hv : vs = [] := by
      cases vs with
      | nil => rfl
      | cons x _ => exact (show Empty from x).elim
    subst hk hv
    obtain ⟨s1, ka, kl, kc, ua, ul, uc, rfl, t1, r1, q1⟩ := ha
    have e1 : kl = 0 := r1.1
    have e2 : ul = 0 := q1.1
    subst e1 e2
    exact rseq_any 0 P w (⟨kd, i, tx, [], []⟩ : Node (AV 1)) _ ⟨s1, ka, 0, kc, ua, 0, uc, rfl, t1, row5_none _ _ _ _, row5_none _ _ _ _⟩
def two (a b : List UInt8) : List UInt8 := a ++ 58 :: 32 :: b
theorem jQ_two : ∀ ks vs : List (List UInt8), jQ ks vs = jT [93] (List.zipWith two ks vs)
  | [], vs => by cases vs <;> rfl
  | k :: ks, [] => rfl
  | k :: ks, v :: vs => by
    show 44 :: 32 :: (k ++ 58 :: 32 :: (v ++ jQ ks vs)) = 44 :: 32 :: (two k v ++ jT [93] (List.zipWith two ks vs))
    rw [jQ_two ks vs]; simp [two]
theorem jP_two (ks vs : List (List UInt8)) : jP ks vs = jL [93] (List.zipWith two ks vs) := by
  cases ks with
  | nil => cases vs <;> rfl
  | cons k ks =>
    cases vs with
    | nil => rfl
    | cons v vs =>
      show k ++ 58 :: 32 :: (v ++ jQ ks vs) = two k v ++ jT [93] (List.zipWith two ks vs)
      rw [jQ_two]; simp [two]
theorem brace (a b : List UInt8) (l : List UInt8) : ((⟨a.toArray⟩ : ByteArray) ++ ⟨l.toArray⟩) ++ ⟨b.toArray⟩ = ⟨(a ++ (l ++ b)).toArray⟩ := by rw [cat2, cat2, List.append_assoc]
end Go.Proofs.YtbogejmmkohbkaaGreatDoor.Sx
