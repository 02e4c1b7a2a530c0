/- A table: variables. -/
import Derived.Test.YtkbomifmijafgaaDoorT6
namespace Go.Proofs.YtkbomifmijafgaaDoor.Sx
open Go.RowKit Go.Sort Go.Maps Go.WideMaps

set_option maxRecDepth 100000 in
set_option maxHeartbeats 1000000 in
theorem var_no (T : TL) (w : World) (R : List Rw) (M Fo : List (Value × Value)) (fr : List Nat) (h : Tab T w R M Fo fr) (i : Int) (hi : (decide (0 ≤ i) && decide (i < T.n)) = false) :
    Calls Tryd.prog 6 #[.pointer (some ⟨T.b, 0, none⟩), .int .i64 i] w fun e w' => e = .returned (.int .i64 0) ∧ w' = w := by
  have HH : Hid (Calls _ _ _ _ _) := has_any T w R M Fo fr h i _ hi
  have mo := follows
  go_enter Tryd.func6, Tryd.ntmps6
  go_wp2_with (go_at_call 15; refine HH.out.mono ?_; rintro e w' ⟨rfl, hw⟩; replace hw := hw.symm; subst hw)
  go_ret
  exact ⟨rfl, rfl⟩

set_option maxRecDepth 100000 in
set_option maxHeartbeats 1000000 in
theorem var_old (T : TL) (w : World) (R : List Rw) (M : List (Value × Value)) (h : Tab T w R M [] []) (i f : Nat) (hi : i < T.n) (r : Rw) (hr : R[f]? = some r) (hm : (askV i 0 1, Value.int .i64 (f : Int)) ∈ M) (hu : ∀ p ∈ M, p.1 = askV i 0 1 → p.2 = .int .i64 (f : Int)) :
    Calls Tryd.prog 6 #[.pointer (some ⟨T.b, 0, none⟩), .int .i64 (i : Int)] w fun e w' => e = .returned (.int .i64 (f : Int)) ∧ Tab T w' (R.set f { r with given := true }) M [] [] ∧ Fr (· < T.lo) w w' := by
  have h24 : T.n ≤ 24 := by obtain ⟨_, _, _, hG⟩ := h; exact hG.ok.n24
  have HH : Hid (Calls _ _ _ _ _) := has_any T w R M [] [] h i true (by simp; omega)
  have HN : Hid (Calls Tryd.prog 17 #[.pointer (some ⟨T.b, 0, none⟩), .int .i64 (i : Int), .int .i64 0, .int .i64 1] w _) := node_hit T w R M [] [] h i 0 1 f ⟨by omega, by omega⟩ (by omega) (by omega) (by omega) hm hu
  have HT : Hid (Tab T w R M [] []) := h
  have mo := follows
  clear h
  go_enter Tryd.func6, Tryd.ntmps6
  go_wp2_with (first | (go_at_call 15; refine HH.out.mono ?_; rintro e w' ⟨rfl, hw⟩; replace hw := hw.symm; subst hw) | (go_at_call 17; refine HN.out.mono ?_; rintro e W1 ⟨rfl, hf1⟩; have F1 : Hid (Fr (fun _ => True) w W1) := hf1; clear hf1))
  have X1 : Tab T W1 R M [] [] := by obtain ⟨_, _, _, hG⟩ := HT.out; exact ⟨_, _, _, hG.grew F1.out⟩
  refine (give_any T W1 R M [] [] X1 f r hr (by simp) (by simp) (by simp)).mono ?_
  rintro e W2 ⟨rfl, hX2, hF2⟩
  have X2 : Hid (Tab _ _ _ _ _ _) := hX2
  have F2 : Hid (Fr (· < T.lo) w W2) := (F1.out.mono fun _ _ => trivial).trans hF2
  clear hX2 hF2 X1
  go_wp2_with fail
  go_ret
  exact ⟨rfl, X2.out, F2.out⟩

set_option maxRecDepth 100000 in
set_option maxHeartbeats 1000000 in
theorem var_new (T : TL) (w : World) (R : List Rw) (M : List (Value × Value)) (h : Tab T w R M [] []) (i : Nat) (hi : i < T.n) (r0 r1 : Rw) (h0 : R[0]? = some r0) (h1 : R[1]? = some r1) (hu0 : r0.users ≤ 1000) (hu1 : r1.users ≤ 1000) (hl : R.length ≤ 1000) (hu : ∀ p ∈ M, p.1 ≠ askV i 0 1) :
    Calls Tryd.prog 6 #[.pointer (some ⟨T.b, 0, none⟩), .int .i64 (i : Int)] w fun e w' => e = .returned (.int .i64 (R.length : Int)) ∧
      Tab T w' ((((R ++ [(⟨i, 0, 1, 0, false⟩ : Rw)]).set 0 { r0 with users := r0.users + 1 }).set 1 { r1 with users := r1.users + 1 }).set R.length ⟨i, 0, 1, 0, true⟩) (M ++ [(askV i 0 1, .int .i64 (R.length : Int))]) [] [] ∧ Fr (· < T.lo) w w' := by
  have h24 : T.n ≤ 24 := by obtain ⟨_, _, _, hG⟩ := h; exact hG.ok.n24
  have hlt : 1 < R.length := (List.getElem?_eq_some_iff.1 h1).1
  have e0 : (R ++ [(⟨i, 0, 1, 0, false⟩ : Rw)])[0]? = some r0 := by rw [List.getElem?_append_left (by omega)]; exact h0
  have e1 : ((R ++ [(⟨i, 0, 1, 0, false⟩ : Rw)]).set 0 { r0 with users := r0.users + 1 })[1]? = some r1 := by rw [List.getElem?_set_ne (by omega), List.getElem?_append_left (by omega)]; exact h1
  have e2 : (((R ++ [(⟨i, 0, 1, 0, false⟩ : Rw)]).set 0 { r0 with users := r0.users + 1 }).set 1 { r1 with users := r1.users + 1 })[R.length]? = some ⟨i, 0, 1, 0, false⟩ := by
    rw [List.getElem?_set_ne (by omega), List.getElem?_set_ne (by omega)]; simp
  have HH : Hid (Calls _ _ _ _ _) := has_any T w R M [] [] h i true (by simp; omega)
  have HN : Hid (Calls Tryd.prog 17 #[.pointer (some ⟨T.b, 0, none⟩), .int .i64 (i : Int), .int .i64 0, .int .i64 1] w _) := node_miss T w R M [] [] h i 0 1 r0 r1 ⟨by omega, by omega⟩ (by omega) (by omega) (by omega) hu hl (by simp) e0 e1 hu0 hu1
  have mo := follows
  clear h
  go_enter Tryd.func6, Tryd.ntmps6
  go_wp2_with (first | (go_at_call 15; refine HH.out.mono ?_; rintro e w' ⟨rfl, hw⟩; replace hw := hw.symm; subst hw) | (go_at_call 17; refine HN.out.mono ?_; rintro e W1 ⟨rfl, hX1, hf1, -⟩; have F1 : Hid (Fr _ w W1) := hf1; have X1 : Hid (Tab _ W1 _ _ _ _) := hX1; clear hX1 hf1))
  refine (give_any T W1 _ _ [] [R.length] X1.out R.length _ e2 (by simp) (by simp) (by simp)).mono ?_
  rintro e W2 ⟨rfl, hX2, hF2⟩
  have X2 : Hid (Tab _ W2 _ _ _ _) := hX2
  have F2 : Hid (Fr (· < T.lo) w W2) := F1.out.trans hF2
  clear hX2 hF2 X1
  go_wp2_with fail
  go_ret
  exact ⟨rfl, X2.out, F2.out⟩

end Go.Proofs.YtkbomifmijafgaaDoor.Sx
