/- The reference: rows of values as text. -/
import Derived.Test.YtbogejmmkohbkaaGreatDoorGEc
namespace Go.Proofs.YtbogejmmkohbkaaGreatDoor.Sx
open Go.RowKit Go.Sort

theorem jT_cat (cl : List UInt8) : ∀ l m : List (List UInt8), jT cl (l ++ m) = jT [] l ++ jT cl m
  | [], m => rfl
  | a :: l, m => by
    show 44 :: 32 :: (a ++ jT cl (l ++ m)) = (44 :: 32 :: (a ++ jT [] l)) ++ jT cl m
    rw [jT_cat cl l m]; simp
theorem jL_end (cl : List UInt8) (l : List (List UInt8)) : jL cl l = jL [] l ++ cl := by
  cases l with
  | nil => rfl
  | cons a l =>
    show a ++ jT cl l = (a ++ jT [] l) ++ cl
    have h := jT_cat cl l []
    rw [List.append_nil] at h
    rw [h, List.append_assoc]; rfl
theorem jL_snoc (x : List UInt8) (l : List (List UInt8)) : jL [] (l ++ [x]) = if l = [] then x else (jL [] l ++ [44, 32]) ++ x := by
  cases l with
  | nil => show x ++ [] = x; simp
  | cons a l =>
    rw [if_neg (by simp)]
    show a ++ jT [] (l ++ [x]) = ((a ++ jT [] l) ++ [44, 32]) ++ x
    rw [jT_cat]
    show a ++ (jT [] l ++ (44 :: 32 :: (x ++ []))) = _
    simp
theorem jL_more (l m : List (List UInt8)) : (jL [] l).length ≤ (jL [] (l ++ m)).length := by
  cases l with
  | nil => exact Nat.zero_le _
  | cons a l =>
    show (a ++ jT [] l).length ≤ (a ++ jT [] (l ++ m)).length
    rw [jT_cat]; simp
/-- a row, one more of it shown -/
theorem jL_step (L : List (List UInt8)) (k : Nat) (x : List UInt8) (h : L[k]? = some x) : jL [] (L.take (k + 1)) = (if k = 0 then x else (jL [] (L.take k) ++ [44, 32]) ++ x) ∧ (jL [] (L.take k)).length + x.length ≤ (jL [] L).length ∧ x.length ≤ (jL [] L).length := by
  have hk := (List.getElem?_eq_some_iff.1 h).1
  have e : L.take (k + 1) = L.take k ++ [x] := by rw [List.take_add_one, h]; rfl
  have hz : (L.take k = []) ↔ k = 0 := by
    constructor
    · intro q
      have := congrArg List.length q
      rw [List.length_take, List.length_nil] at this
      omega
    · rintro rfl; rfl
  have e2 : jL [] (L.take (k + 1)) = (if k = 0 then x else (jL [] (L.take k) ++ [44, 32]) ++ x) := by
    rw [e, jL_snoc]
    by_cases q : k = 0
    · rw [if_pos (hz.2 q), if_pos q]
    · rw [if_neg (fun r => q (hz.1 r)), if_neg q]
  have hm := jL_more (L.take (k + 1)) (L.drop (k + 1))
  rw [List.take_append_drop, e2] at hm
  refine ⟨e2, ?_, ?_⟩
  · by_cases q : k = 0
    · subst q
      rw [if_pos rfl] at hm
      show 0 + x.length ≤ _
      omega
    · rw [if_neg q] at hm
      simp only [List.length_append, List.length_cons, List.length_nil] at hm
      omega
  · by_cases q : k = 0
    · rw [if_pos q] at hm; exact hm
    · rw [if_neg q] at hm
      simp only [List.length_append, List.length_cons, List.length_nil] at hm
      omega

def ShR (n : Nat) : Prop := ∀ (P : Nat → Prop) (w : World) (a : AV n) (v : Value), Ref P w n a v → WF n a → (sh n a).length ≤ 1099511627776 →
  Calls Tryz.prog 13 #[v] w fun e w' => e = .returned (.string ⟨(sh n a).toArray⟩) ∧ Grew w w'

set_option maxRecDepth 100000 in
set_option maxHeartbeats 4000000 in
theorem shown_any (n : Nat) (hC : ShR n) (P : Nat → Prop) (w : World) (a : Option Addr) (len cap : Nat) (es : List (AV n)) (h : Row5 P w (Ref P w n) a len es) (hW : ∀ x ∈ es, WF n x) (hb : (jL [] (es.map (sh n))).length ≤ 1099511627776) :
    Calls Tryz.prog 34 #[.slice a len cap] w fun e w' => e = .returned (.string ⟨(jL [] (es.map (sh n))).toArray⟩) ∧ Grew w w' := by
  have HC : Hid (ShR n) := hC
  have R1 : Hid (Row5 P w (Ref P w n) a len es) := h
  have HW : Hid (∀ x ∈ es, WF n x) := hW
  have lk : len ≤ 4294967296 := h.2.1
  have HJ : Hid (∀ k x, (es.map (sh n))[k]? = some x → _) := fun k x q => jL_step (es.map (sh n)) k x q
  clear hC h hW
  obtain ⟨T, hT⟩ : ∃ T, jL [] (es.map (sh n)) = T := ⟨_, rfl⟩
  have HT : Hid (jL [] (es.map (sh n)) = T) := hT
  rw [hT] at hb ⊢
  clear hT
  have mo := follows
  go_enter Tryz.func34, Tryz.ntmps34
  go_wp2_with fail
  go_loopw [3, 4] (fun s i wr => ∃ k : Nat, k ≤ len ∧ s = .string ⟨(jL [] ((es.map (sh n)).take k)).toArray⟩ ∧ i = .int .i64 k ∧ Hid (Grew w wr)) (fun _ i _ => len - (intOf i).toNat)
  case atStart => exact ⟨0, Nat.zero_le _, rfl, rfl, Grew.refl w⟩
  case round =>
    obtain ⟨k, hk1, rfl, rfl, HG⟩ := hrel
    by_cases hlt : k < len
    · have hx : k < es.length := by rw [← R1.out.1]; exact hlt
      obtain ⟨p1, o1, rfl, hp1, _, hc1⟩ := R1.out.2.2.resolve_left (by omega)
      obtain ⟨v1, hv1, hr1⟩ := hc1 k es[k] (List.getElem?_eq_getElem hx)
      obtain ⟨x0, x1, x2, x3, x4, rfl, g0, g1, g2, g3, g4⟩ := cell_five HG.out hp1 hv1
      have hs : (es.map (sh n))[k]? = some (sh n es[k]) := by simp [List.getElem?_eq_getElem hx]
      obtain ⟨f1, f2, f3⟩ := HJ.out k _ hs
      rw [HT.out] at f2 f3
      have HCALL : Hid (∀ (W : World) (hW : Grew w W), _) := fun (W : World) (hW : Grew w W) => HC.out P W es[k] _ (hr1.grew hW) (HW.out _ (List.getElem_mem hx)) (by omega)
      have hS0 : k = 0 → jL [] ((es.map (sh n)).take k) = [] := by rintro rfl; rfl
      generalize sh n es[k] = X at HCALL f1 f2 f3
      generalize jL [] ((es.map (sh n)).take k) = S at f1 f2 hS0 ⊢
      have F1 : Hid (_ = _) := f1
      have HS0 : Hid (k = 0 → S = []) := hS0
      clear hc1 hv1 hr1 hs f1 hS0
      by_cases hk0 : k = 0
      · have F2 : Hid (S ++ X = jL [] ((es.map (sh n)).take (k + 1))) := by
          show _ = _
          rw [F1.out, if_pos hk0, HS0.out hk0]; rfl
        have hi0 : ¬ (0 : Int) < (k : Int) := by omega
        have hS : ¬ 9223372036854775807 < S.length + X.length := by omega
        clear F1 HS0 hk0
        go_wp2_with (go_at_call 13; refine (HCALL.out _ HG.out).mono ?_; rintro e w' ⟨rfl, hg⟩; have G1 : Hid (Grew w w') := HG.out.trans hg; clear hg)
        go_roundw
        case rel => exact ⟨k + 1, by omega, by rw [← F2.out]; exact congrArg _ (cat2 S X), by go_num, G1⟩
        case measure => simp [intOf]; omega
      · have F2 : Hid ((S ++ [44, 32]) ++ X = jL [] ((es.map (sh n)).take (k + 1))) := by
          show _ = _
          rw [F1.out, if_neg hk0]
        have hi0 : (0 : Int) < (k : Int) := by omega
        have hS : ¬ 9223372036854775807 < S.length + 2 := by omega
        have hS2 : ¬ 9223372036854775807 < S.length + 2 + X.length := by omega
        clear F1 HS0 hk0
        go_wp2_with (go_at_call 13; refine (HCALL.out _ HG.out).mono ?_; rintro e w' ⟨rfl, hg⟩; have G1 : Hid (Grew w w') := HG.out.trans hg; clear hg)
        go_roundw
        case rel => exact ⟨k + 1, by omega, by rw [← F2.out, ← cat2, ← cat2], by go_num, G1⟩
        case measure => simp [intOf]; omega
    · have hkl : k = len := by omega
      subst k
      have HE : Hid (jL [] ((es.map (sh n)).take len) = T) := by
        show _ = _
        rw [List.take_of_length_le (by rw [List.length_map, R1.out.1]; exact Nat.le_refl _)]; exact HT.out
      rw [HE.out]
      go_wp2_with fail
      go_ret
      exact ⟨rfl, HG.out⟩
end Go.Proofs.YtbogejmmkohbkaaGreatDoor.Sx
