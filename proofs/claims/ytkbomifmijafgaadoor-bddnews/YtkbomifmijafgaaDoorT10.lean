/- Both of two functions. -/
import Derived.Test.YtkbomifmijafgaaDoorT9
namespace Go.Proofs.YtkbomifmijafgaaDoor.Sx
open Go.RowKit Go.Sort Go.Maps Go.WideMaps

set_option maxRecDepth 100000 in
set_option maxHeartbeats 1000000 in
theorem And_any (T : TL) (w : World) (R R' : List Rw) (M M' : List (Value × Value)) (h : Tab T w R M [] []) (f g x : Nat) (rf rg r : Rw) (hf : R[f]? = some rf) (hg : R[g]? = some rg) (nf : rf.about ≠ -1) (ng : rg.about ≠ -1) (fr' : List Nat) (hr : R'[x]? = some r) (hfr : ∀ y ∈ fr', y = x) (hl : fr'.length ≤ 1000)
    (HI : Calls Tryd.prog 30 #[.pointer (some ⟨T.b, 0, none⟩), .int .i64 (f : Int), .int .i64 (g : Int), .int .i64 0] w fun e w' => e = .returned (.int .i64 (x : Int)) ∧ (∃ Fo, Fo.length ≤ 1000 ∧ Tab T w' R' M' Fo fr') ∧ Fr (· < T.lo) w w') :
    Calls Tryd.prog 7 #[.pointer (some ⟨T.b, 0, none⟩), .int .i64 (f : Int), .int .i64 (g : Int)] w fun e w' => e = .returned (.int .i64 (x : Int)) ∧ Tab T w' (R'.set x { r with given := true }) M' [] [] ∧ Fr (· < T.lo) w w' := by
  have HA : Hid (Calls Tryd.prog 18 #[.pointer (some ⟨T.b, 0, none⟩), .int .i64 (f : Int), .int .i64 (g : Int)] w fun e w' => e = .returned (.int .i64 (x : Int)) ∧ (∃ Fo, Fo.length ≤ 1000 ∧ Tab T w' R' M' Fo fr') ∧ Fr (· < T.lo) w w') := by
    have mo := follows
    go_enter Tryd.func18, Tryd.ntmps18
    go_wp2_with (go_at_call 30; refine HI.mono ?_; rintro e w' ⟨rfl, h1, h2⟩)
    go_ret
    exact ⟨rfl, h1, h2⟩
  have HK1 : Hid (Calls Tryd.prog 19 #[.pointer (some ⟨T.b, 0, none⟩), .int .i64 (f : Int)] w _) := known_any T w R M [] [] h f rf hf nf
  have HK2 : Hid (Calls Tryd.prog 19 #[.pointer (some ⟨T.b, 0, none⟩), .int .i64 (g : Int)] w _) := known_any T w R M [] [] h g rg hg ng
  have mo := follows
  clear HI h
  go_enter Tryd.func7, Tryd.ntmps7
  go_wp2_with fail
  refine HK1.out.mono ?_
  rintro e w' ⟨rfl, hw⟩; replace hw := hw.symm; subst hw
  go_wp2_with fail
  refine HK2.out.mono ?_
  rintro e w' ⟨rfl, hw⟩; replace hw := hw.symm; subst hw
  go_wp2_with fail
  refine HA.out.mono ?_
  rintro e W1 ⟨rfl, ⟨Fo, hFo, hX1⟩, hF1⟩
  have HG : Hid (Calls _ _ _ _ _) := give_any T W1 R' M' Fo fr' hX1 x r hr hfr hl hFo
  have F1 : Hid (Fr (· < T.lo) w W1) := hF1
  clear hX1 hF1
  go_wp2_with fail
  refine HG.out.mono ?_
  rintro e W2 ⟨rfl, hX2, hF2⟩
  have X2 : Hid (Tab _ W2 _ _ _ _) := hX2
  have F2 : Hid (Fr (· < T.lo) w W2) := F1.out.trans hF2
  clear hX2 hF2 HG
  go_wp2_with fail
  go_ret
  exact ⟨rfl, X2.out, F2.out⟩

end Go.Proofs.YtkbomifmijafgaaDoor.Sx
