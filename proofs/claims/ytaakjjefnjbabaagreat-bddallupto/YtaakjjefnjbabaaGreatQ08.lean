/- A table: Var, Xor. -/
import Derived.Test.YtaakjjefnjbabaaGreatQ07
set_option maxRecDepth 100000
namespace Go.Proofs.YtaakjjefnjbabaaGreat.Sx
open Go.RowKit Go.Sort Go.Maps Go.WideMaps
section
variable {w : World} {tb : Nat} {L : Ly} {T : Tb} {n : Nat} {lv : Nat → Nat} {M : Nat}
theorem Base.giv0 (h : Base n lv M T) : Giv T 0 := by obtain ⟨u, e⟩ := h.mid.t.inv.e0; exact ⟨_, e, by show (n : Int) ≠ -1; omega, rfl⟩
theorem Out.zero (h : Base n lv M T) : Out n lv M T 0 (fun _ => false) T := ⟨h, fun _ hy => ⟨hy, rfl⟩, h.giv0, funext fun σ => vl_zero σ, fun _ hy => .inl hy, rfl⟩
def varF (n : Nat) (i : Int) (σ : Nat → Bool) : Bool := decide (0 ≤ i) && decide (i < (n : Int)) && σ i.toNat
set_option maxHeartbeats 1000000 in
theorem Var_out (h : TAt w tb L T) (hb : Base n lv M T) (i : Int) (hroom : T.rows.length - T.free.length + 2 ^ n ≤ M) :
 Calls Tryz.prog 27 #[.pointer (some ⟨tb, 0, none⟩), .int .i64 i] w (OutPost w tb L n lv M T (varF n i)) := by
 have hon := hb.mid.t.inv.on
 have hp : 0 < 2 ^ n := Nat.two_pow_pos n
 by_cases hc : 0 ≤ i ∧ i < (n : Int)
 · obtain ⟨a, rfl⟩ : ∃ a : Nat, i = (a : Int) := ⟨i.toNat, by omega⟩
   have ha : a < n := by omega
   have HH : Hid (Calls _ _ _ _ _) := has_any h (a : Int) true (by rw [hon]; simp; omega)
   have HN : Hid (Calls _ _ _ _ _) := node_any (ab := a) (lo := 0) (hh := 1) h hb.mid ha hb.live0 hb.live1 (by rw [hb.mid.t.r0]; exact hb.mid.t.lvo.lt a ha) (by rw [hb.mid.t.r1]; exact hb.mid.t.lvo.lt a ha) (by rw [hb.fresh]; simp; omega)
   have HB : Hid (Base n lv M T) := hb
   have mo := follows
   clear h hb hroom hc hp
   go_enter Tryz.func27, Tryz.ntmps27
   go_wp2_with fail
   refine HH.out.mono ?_
   rintro e w' ⟨rfl, hw⟩; replace hw := hw.symm; subst hw
   go_wp2_with fail
   refine HN.out.mono ?_
   rintro e W1 ⟨x, T1, hI1, rfl, L1, hX1, hF1⟩
   have HG : Hid (Calls _ _ _ _ _) := give_out hX1 hI1.mid hI1.live HB.out hI1.more hI1.gv (F := varF n (a : Int)) (by
    funext σ
    rw [hI1.val σ, vl_one, vl_zero]
    unfold varF
    rw [Int.toNat_natCast]
    simp [ha])
   have F1 : Hid (FrT L L1 w W1) := hF1
   clear hX1 hF1 hI1 HN
   go_wp2_with fail
   refine HG.out.mono ?_
   rintro e W2 ⟨rfl, T2, L2, hX2, hF2, hO⟩
   have X2 : Hid (TAt W2 tb L2 T2) := hX2
   have F2 : Hid (FrT L L2 w W2) := F1.out.trans hF2
   have O2 : Hid (Out n lv M T x (varF n (a : Int)) T2) := hO
   clear hX2 hF2 hO HG
   go_wp2_with fail
   go_ret
   exact ⟨x, T2, L2, rfl, X2.out, F2.out, O2.out⟩
 · have HH : Hid (Calls _ _ _ _ _) := has_any h i false (by
    rw [hon, Bool.and_eq_false_iff]
    by_cases q : 0 ≤ i
    · exact .inr (by simp; omega)
    · exact .inl (by simp; omega))
   have HX : Hid (TAt w tb L T) := h
   have HO : Hid (Out n lv M T 0 (varF n i) T) := by
    have e : varF n i = fun _ => false := funext fun σ => by
     unfold varF
     by_cases q : 0 ≤ i
     · have q2 : ¬ i < (n : Int) := fun q2 => hc ⟨q, q2⟩
       simp [q2]
     · simp [q]
    rw [e]; exact Out.zero hb
   have mo := follows
   clear h hb hroom hc hp
   go_enter Tryz.func27, Tryz.ntmps27
   go_wp2_with fail
   refine HH.out.mono ?_
   rintro e w' ⟨rfl, hw⟩; replace hw := hw.symm; subst hw
   go_wp2_with fail
   go_ret
   exact ⟨0, T, L, rfl, HX.out, FrT.refl _ _, HO.out⟩
def xorF (f g : (Nat → Bool) → Bool) (σ : Nat → Bool) : Bool := f σ != g σ
set_option maxHeartbeats 1000000 in
theorem Xor_out (h : TAt w tb L T) (hb : Base n lv M T) (f g : Nat) (hf : Live T f) (hg : Live T g) (hroom : T.rows.length - T.free.length + 2 ^ (n + 1) ≤ M) :
 Calls Tryz.prog 34 #[.pointer (some ⟨tb, 0, none⟩), .int .i64 (f : Int), .int .i64 (g : Int)] w (OutPost w tb L n lv M T (xorF (vl n T f) (vl n T g))) := by
 obtain ⟨rf, ef, df⟩ := id hf
 obtain ⟨rg, eg, dg⟩ := id hg
 have HKf : Hid (Calls Tryz.prog 58 #[.pointer (some ⟨tb, 0, none⟩), .int .i64 (f : Int)] w _) := known_any h f rf ef df
 have HKg : Hid (Calls Tryz.prog 58 #[.pointer (some ⟨tb, 0, none⟩), .int .i64 (g : Int)] w _) := known_any h g rg eg dg
 have hr2 : T.rows.length - T.free.length + 2 ^ n + 2 ^ n ≤ M := by rw [Nat.pow_succ] at hroom; omega
 have hr3 : T.rows.length - T.free.length + T.fresh.length + 2 ^ n ≤ M := by rw [hb.fresh, List.length_nil]; exact Nat.le_trans (Nat.le_add_right _ _) hr2
 have HN : Hid (Calls _ _ _ _ _) := not_ok h hb.mid g hg hr3
 have HI : Hid (∀ (W : World) (L1 : Ly) (T1 : Tb) (x : Nat), TAt W tb L1 T1 → IteP n lv M (T.rows.length - T.free.length) n T g 0 1 T1 x → Calls _ _ _ _ _) := fun W L1 T1 x hW hI => ite_ok n W tb L1 T1 n lv M _ f x g hW hI.mid (hI.more.live hf) hI.live (hI.more.live hg) (by omega) (by omega) (by omega) (by have := hI.cost; rw [hb.fresh, List.length_nil] at this; omega)
 have HB : Hid (Base n lv M T) := hb
 have HL2 : Hid (Live T f ∧ Live T g) := ⟨hf, hg⟩
 have mo := follows
 clear h hb hroom hf ef df hg eg dg hr2 hr3
 go_enter Tryz.func34, Tryz.ntmps34
 go_wp2_with fail
 refine HKf.out.mono ?_
 rintro e w' ⟨rfl, hw⟩; replace hw := hw.symm; subst hw
 go_wp2_with fail
 refine HKg.out.mono ?_
 rintro e w' ⟨rfl, hw⟩; replace hw := hw.symm; subst hw
 go_wp2_with fail
 refine HN.out.mono ?_
 rintro e W1 ⟨y, T1, hI1, rfl, L1, hX1, hF1⟩
 have HI2 : Hid (Calls _ _ _ _ _) := HI.out W1 L1 T1 y hX1 hI1
 have I1 : Hid (IteP n lv M (T.rows.length - T.free.length) n T g 0 1 T1 y) := hI1
 have F1 : Hid (FrT L L1 w W1) := hF1
 clear hI1 hX1 hF1 HN HI HKf HKg
 go_wp2_with fail
 refine HI2.out.mono ?_
 rintro e W2 ⟨x, T2, hI2, rfl, L2, hX2, hF2⟩
 have HG : Hid (Calls _ _ _ _ _) := give_out hX2 hI2.mid hI2.live HB.out (I1.out.more.trans hI2.more) (fun z hz => I1.out.gv z (hI2.gv z hz)) (F := xorF (vl n T f) (vl n T g)) (by
  rw [hI2.val, I1.out.val, vl_more HB.out.mid.t.inv I1.out.more HL2.out.1, vl_more HB.out.mid.t.inv I1.out.more HL2.out.2]
  funext σ
  unfold iteF xorF
  rw [vl_zero, vl_one]
  cases vl n T f σ <;> cases vl n T g σ <;> rfl)
 have F2 : Hid (FrT L L2 w W2) := F1.out.trans hF2
 clear hI2 hX2 hF2 HI2
 go_wp2_with fail
 refine HG.out.mono ?_
 rintro e W3 ⟨rfl, T3, L3, hX3, hF3, hO⟩
 have X3 : Hid (TAt W3 tb L3 T3) := hX3
 have F3 : Hid (FrT L L3 w W3) := F2.out.trans hF3
 have O3 : Hid (Out n lv M T x (xorF (vl n T f) (vl n T g)) T3) := hO
 clear hX3 hF3 hO HG
 go_wp2_with fail
 go_ret
 exact ⟨x, T3, L3, rfl, X3.out, F3.out, O3.out⟩
end
end Go.Proofs.YtaakjjefnjbabaaGreat.Sx
