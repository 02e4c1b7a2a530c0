/- Let. -/
import Derived.Test.YtaakjjefnjbabaaGreatQ13
import Derived.Laws.BitsLemmas
set_option maxRecDepth 100000
namespace Go.Proofs.YtaakjjefnjbabaaGreat.Sx
open Go.RowKit Go.Sort Go.Maps Go.WideMaps
theorem wv_more {S : Nat} {jn : Bool → Bool → Bool} {n : Nat} {ρ p : Nat → Nat} {T T' : Tb} (h : Inv n ρ p T) (k : More T T') (σ : Nat → Bool) : ∀ (m f : Nat), Live T f → wv S jn m T' f σ = wv S jn m T f σ
 | 0, f, _ => rfl
 | m + 1, f, hf => by
   by_cases e0 : f = 0
   · subst e0; rw [wv_zero, wv_zero]
   by_cases e1 : f = 1
   · subst e1; rw [wv_one, wv_one]
   obtain ⟨r, hr, hd⟩ := hf
   have h2f : 2 ≤ f := by omega
   obtain ⟨r', g1, g2, g3, g4, _⟩ := k.keep f r hr hd
   obtain ⟨_, _, _, a4, a5, _⟩ := h.nd f r h2f hr hd
   rw [wv_step σ h2f hr, wv_step σ h2f g1, g2, g3, g4, wv_more h k σ m _ a4, wv_more h k σ m _ a5]
   congr 1
   split
   · exact wv_more h k σ m _ a5
   · exact wv_more h k σ m _ a4
def letF (n : Nat) (T : Tb) (f : Nat) (i : Int) (g : Nat) (σ : Nat → Bool) : Bool := if vl n T g σ then wv (goneS n [i] 0) jnH (n + 1) T f σ else wv (goneS n [i] 0) jnL (n + 1) T f σ
section
variable {w : World} {tb : Nat} {L : Ly} {T0 T : Tb} {n : Nat} {lv : Nat → Nat} {M A : Nat}
set_option maxHeartbeats 1000000 in
theorem Let_out (h : TAt w tb L T) (hb : Base n lv M T) (f g : Nat) (hf : Live T f) (hg : Live T g) (i : Int) (hroom : T.rows.length - T.free.length + (2 ^ n - 1) * 2 ^ n + (2 ^ n - 1) * 2 ^ n + 2 ^ n ≤ M) :
 Calls Tryz.prog 38 #[.pointer (some ⟨tb, 0, none⟩), .int .i64 (f : Int), .int .i64 i, .int .i64 (g : Int)] w (OutPost w tb L n lv M T (letF n T f i g)) := by
 obtain ⟨rf, ef, df⟩ := id hf
 obtain ⟨rg, eg, dg⟩ := id hg
 have h24 := hb.mid.n24
 have HKf : Hid (Calls Tryz.prog 58 #[.pointer (some ⟨tb, 0, none⟩), .int .i64 (f : Int)] w _) := known_any h f rf ef df
 have HKg : Hid (Calls Tryz.prog 58 #[.pointer (some ⟨tb, 0, none⟩), .int .i64 (g : Int)] w _) := known_any h g rg eg dg
 obtain ⟨KK, hKK⟩ : ∃ KK, (2 ^ n - 1) * 2 ^ n = KK := ⟨_, rfl⟩
 have hp2 : 0 < 2 ^ n := Nat.two_pow_pos n
 have hfr : T.fresh.length = 0 := by rw [hb.fresh]; rfl
 have hS := goneS_lt h24 [i] 0 (by omega)
 have H1 : Hid (∀ (W : World) (p : Addr), Fr (fun _ => True) w W → IntsV W (some p) [i] → Calls Tryz.prog 69 #[.pointer (some ⟨tb, 0, none⟩), .int .i64 (f : Int), .slice (some p) 1 1, .func (.func 71) #[] #[]] W fun e w' => ∃ (v : Nat) (T' : Tb) (L' : Ly), e = .returned (.int .i64 (v : Int)) ∧ TAt w' tb L' T' ∧ FrT L L' W w' ∧ WoutP n lv M (T.rows.length - T.free.length) T (goneS n [i] 0) jnL f T' v) := fun W p hF hV =>
  without_any (h.grew hF) hb.mid f hf (some p) [i] 1 hV (by simp) _ _ _ jnL (fun ca cb cc mm xs hxs => joinL_ok hb.mid.t hS (fun q hq => hxs q hq)) (by omega)
 have H2 : Hid (∀ (W : World) (p : Addr) (L1 : Ly) (T1 : Tb) (v1 : Nat), TAt W tb L1 T1 → WoutP n lv M (T.rows.length - T.free.length) T (goneS n [i] 0) jnL f T1 v1 → IntsV W (some p) [i] → Calls Tryz.prog 69 #[.pointer (some ⟨tb, 0, none⟩), .int .i64 (f : Int), .slice (some p) 1 1, .func (.func 72) #[] #[]] W fun e w' => ∃ (v : Nat) (T' : Tb) (L' : Ly), e = .returned (.int .i64 (v : Int)) ∧ TAt w' tb L' T' ∧ FrT L1 L' W w' ∧ WoutP n lv M (T.rows.length - T.free.length) T1 (goneS n [i] 0) jnH f T' v) := fun W p L1 T1 v1 hW hP hV =>
  without_any hW hP.mid f (hP.more.live hf) (some p) [i] 1 hV (by simp) _ _ _ jnH (fun ca cb cc mm xs hxs => joinH_ok hP.mid.t hS (fun q hq => hxs q hq)) (by have := hP.cost; omega)
 have H3 : Hid (∀ (W : World) (L1 L2 : Ly) (T1 T2 : Tb) (v1 v2 : Nat), TAt W tb L2 T2 → WoutP n lv M (T.rows.length - T.free.length) T (goneS n [i] 0) jnL f T1 v1 → WoutP n lv M (T.rows.length - T.free.length) T1 (goneS n [i] 0) jnH f T2 v2 → Calls Tryz.prog 65 #[.pointer (some ⟨tb, 0, none⟩), .int .i64 (g : Int), .int .i64 (v2 : Int), .int .i64 (v1 : Int)] W fun e w' => ∃ x T', IteP n lv M (T.rows.length - T.free.length) n T2 g v2 v1 T' x ∧ Post W tb L2 x T' e w') := fun W L1 L2 T1 T2 v1 v2 hW hP hQ =>
  ite_ok n W tb L2 T2 n lv M _ g v2 v1 hW hQ.mid ((hP.more.trans hQ.more).live hg) hQ.live (hQ.more.live hP.live) (by omega) (by omega) (by omega) (by have := hP.cost; have := hQ.cost; omega)
 have HEND : Hid (∀ (T1 T2 T3 : Tb) (v1 v2 x : Nat), WoutP n lv M (T.rows.length - T.free.length) T (goneS n [i] 0) jnL f T1 v1 → WoutP n lv M (T.rows.length - T.free.length) T1 (goneS n [i] 0) jnH f T2 v2 → IteP n lv M (T.rows.length - T.free.length) n T2 g v2 v1 T3 x → More T T3 ∧ (∀ y, Giv T3 y → Giv T y) ∧ vl n T3 x = letF n T f i g) := fun T1 T2 T3 v1 v2 x hP hQ hI =>
  ⟨(hP.more.trans hQ.more).trans hI.more, fun y hy => hP.gv y (hQ.gv y (hI.gv y hy)), by
    rw [hI.val]
    funext σ
    unfold iteF letF
    rw [vl_more hb.mid.t.inv (hP.more.trans hQ.more) hg, hQ.val σ, wv_more hb.mid.t.inv hP.more σ _ f hf, vl_more hP.mid.t.inv hQ.more hP.live, hP.val σ]⟩
 have HB : Hid (Base n lv M T) := hb
 have HHI : Hid (L.own w.heap.size = 0) := h.hi _ (Nat.le_refl _)
 have mo := follows
 clear h hb hroom hf ef df hg eg dg hKK hfr hS h24
 go_enter Tryz.func38, Tryz.ntmps38
 go_wp2_with fail
 refine HKf.out.mono ?_
 rintro e w' ⟨rfl, hw⟩; replace hw := hw.symm; subst hw
 go_wp2_with fail
 refine HKg.out.mono ?_
 rintro e w' ⟨rfl, hw⟩; replace hw := hw.symm; subst hw
 go_wp2_with fail
 have fA : Fr (fun _ => True) w (w.alloc (.cells #[.int .i64 i] 3)) := (Fr.refl _ w).alloc _
 have hA : (w.alloc (.cells #[.int .i64 i] 3)).heap[w.heap.size]? = some (.cells #[.int .i64 i] 3 (0, 0)) := heap_new rfl
 have HVV : Hid (∀ W : World, W.heap[w.heap.size]? = some (.cells #[.int .i64 i] 3 (0, 0)) → IntsV W (some ⟨w.heap.size, 0, none⟩) [i]) := fun W hW => ⟨fun j x hx => by
  match j, hx with
  | 0, hx => cases hx; exact ⟨_, rfl, block_cell hW 0⟩
  | j + 1, hx => simp at hx⟩
 have HC1 : Hid (Calls _ _ _ _ _) := H1.out _ ⟨w.heap.size, 0, none⟩ fA (HVV.out _ hA)
 have FA : Hid (FrT L L w (w.alloc (.cells #[.int .i64 i] 3))) := FrT.of fA fun _ _ _ => trivial
 have BA : Hid (_ = _) := hA
 clear fA hA H1 HKf HKg
 refine HC1.out.mono ?_
 rintro e W1 ⟨v1, T1, L1, rfl, hX1, hF1, hP1⟩
 have B1 : Hid (W1.heap[w.heap.size]? = some (.cells #[.int .i64 i] 3 (0, 0))) := (hF1.block _ (block_lt BA.out) HHI.out).trans BA.out
 have HC2 : Hid (Calls _ _ _ _ _) := H2.out W1 ⟨w.heap.size, 0, none⟩ L1 T1 v1 hX1 hP1 (HVV.out _ B1.out)
 have P1 : Hid (WoutP n lv M (T.rows.length - T.free.length) T (goneS n [i] 0) jnL f T1 v1) := hP1
 have F1 : Hid (FrT L L1 w W1) := FA.out.trans hF1
 clear hX1 hF1 hP1 HC1 FA BA H2
 go_wp2_with fail
 refine HC2.out.mono ?_
 rintro e W2 ⟨v2, T2, L2, rfl, hX2, hF2, hP2⟩
 have HC3 : Hid (Calls _ _ _ _ _) := H3.out W2 L1 L2 T1 T2 v1 v2 hX2 P1.out hP2
 have P2 : Hid (WoutP n lv M (T.rows.length - T.free.length) T1 (goneS n [i] 0) jnH f T2 v2) := hP2
 have F2 : Hid (FrT L L2 w W2) := F1.out.trans hF2
 clear hX2 hF2 hP2 HC2 F1 H3 B1 HVV
 go_wp2_with fail
 refine HC3.out.mono ?_
 rintro e W3 ⟨x, T3, hI3, rfl, L3, hX3, hF3⟩
 obtain ⟨q1, q2, q3⟩ := HEND.out T1 T2 T3 v1 v2 x P1.out P2.out hI3
 have HG : Hid (Calls _ _ _ _ _) := give_out hX3 hI3.mid hI3.live HB.out q1 q2 (F := letF n T f i g) q3
 have F3 : Hid (FrT L L3 w W3) := F2.out.trans hF3
 clear hX3 hF3 hI3 HC3 q1 q2 q3 HEND P1 P2 F2
 go_wp2_with fail
 refine HG.out.mono ?_
 rintro e W4 ⟨rfl, T4, L4, hX4, hF4, hO⟩
 have X4 : Hid (TAt W4 tb L4 T4) := hX4
 have F4 : Hid (FrT L L4 w W4) := F3.out.trans hF4
 have O4 : Hid (Out n lv M T x (letF n T f i g) T4) := hO
 clear hX4 hF4 hO HG
 go_wp2_with fail
 go_ret
 exact ⟨x, T4, L4, rfl, X4.out, F4.out, O4.out⟩
end
end Go.Proofs.YtaakjjefnjbabaaGreat.Sx
namespace Go.Proofs.YtaakjjefnjbabaaGreat.Sx
open Go.RowKit Go.Sort Go.Maps Go.WideMaps
def cntR : Nat → ((Nat → Bool) → Bool) → (Nat → Bool) → Nat
 | 0, F, σ => if F σ then 1 else 0
 | n + 1, F, σ => cntR n F (upd σ n false) + cntR n F (upd σ n true)
theorem upd_same (σ : Nat → Bool) (v : Nat) (b c : Bool) : upd (upd σ v b) v c = upd σ v c := funext fun x => by unfold upd; split <;> rfl
theorem upd_comm (σ : Nat → Bool) {v u : Nat} (h : v ≠ u) (b c : Bool) : upd (upd σ v b) u c = upd (upd σ u c) v b := funext fun x => by
 unfold upd
 by_cases e1 : x = v
 · by_cases e2 : x = u
   · omega
   · simp [e1, h]
 · by_cases e2 : x = u
   · simp [e2, Ne.symm h]
   · simp [e1, e2]
theorem cntR_le : ∀ (n : Nat) (F : (Nat → Bool) → Bool) (σ : Nat → Bool), cntR n F σ ≤ 2 ^ n
 | 0, F, σ => by unfold cntR; split <;> simp
 | n + 1, F, σ => by
   have h1 := cntR_le n F (upd σ n false)
   have h2 := cntR_le n F (upd σ n true)
   rw [cntR, Nat.pow_succ]; omega
theorem cntR_false : ∀ (n : Nat) (σ : Nat → Bool), cntR n (fun _ => false) σ = 0
 | 0, σ => rfl
 | n + 1, σ => by rw [cntR, cntR_false n, cntR_false n]
theorem cntR_true : ∀ (n : Nat) (σ : Nat → Bool), cntR n (fun _ => true) σ = 2 ^ n
 | 0, σ => rfl
 | n + 1, σ => by rw [cntR, cntR_true n, cntR_true n, Nat.pow_succ]; omega
theorem cntR_congr {F G : (Nat → Bool) → Bool} : ∀ (n : Nat) (σ : Nat → Bool), (∀ τ, (∀ v, n ≤ v → τ v = σ v) → F τ = G τ) → cntR n F σ = cntR n G σ
 | 0, σ, h => by unfold cntR; rw [h σ fun _ _ => rfl]
 | n + 1, σ, h => by
   rw [cntR, cntR]
   have key : ∀ b, cntR n F (upd σ n b) = cntR n G (upd σ n b) := fun b => cntR_congr n _ fun τ hτ => h τ fun v hv => by
    rw [hτ v (by omega)]; unfold upd; rw [if_neg (by omega)]
   rw [key, key]
theorem cntR_indep {F : (Nat → Bool) → Bool} {v : Nat} (h : ∀ τ b, F (upd τ v b) = F τ) : ∀ (n : Nat) (σ : Nat → Bool) (b : Bool), n ≤ v → cntR n F (upd σ v b) = cntR n F σ
 | 0, σ, b, _ => by unfold cntR; rw [h]
 | n + 1, σ, b, hn => by
   rw [cntR, cntR, upd_comm σ (show v ≠ n by omega) b false, upd_comm σ (show v ≠ n by omega) b true, cntR_indep h n _ b (by omega), cntR_indep h n _ b (by omega)]
theorem cntR_half {F F0 F1 : (Nat → Bool) → Bool} {a : Nat} (h0 : ∀ τ b, F0 (upd τ a b) = F0 τ) (h1 : ∀ τ b, F1 (upd τ a b) = F1 τ) (hF : ∀ τ, F τ = if τ a then F1 τ else F0 τ) : ∀ (n : Nat) (σ : Nat → Bool), a < n → cntR n F0 σ + cntR n F1 σ = 2 * cntR n F σ
 | 0, σ, ha => by omega
 | n + 1, σ, ha => by
   rw [cntR, cntR, cntR]
   by_cases e : a = n
   · subst e
     rw [cntR_indep h0 a σ false (Nat.le_refl _), cntR_indep h0 a σ true (Nat.le_refl _), cntR_indep h1 a σ false (Nat.le_refl _), cntR_indep h1 a σ true (Nat.le_refl _)]
     have e0 : cntR a F (upd σ a false) = cntR a F0 σ := by
      rw [← cntR_indep h0 a σ false (Nat.le_refl _)]
      exact cntR_congr a _ fun τ hτ => by rw [hF, hτ a (Nat.le_refl _)]; unfold upd; simp
     have e1 : cntR a F (upd σ a true) = cntR a F1 σ := by
      rw [← cntR_indep h1 a σ true (Nat.le_refl _)]
      exact cntR_congr a _ fun τ hτ => by rw [hF, hτ a (Nat.le_refl _)]; unfold upd; simp
     rw [e0, e1]; omega
   · have := cntR_half h0 h1 hF n (upd σ n false) (by omega)
     have := cntR_half h0 h1 hF n (upd σ n true) (by omega)
     omega
def zs : Nat → Bool := fun _ => false
structure CV (n : Nat) (lv : Nat → Nat) (T : Tb) (g c : Nat) : Prop where
 l : Live T g
 c : c = cntR n (vl n T g) zs
section
variable {n : Nat} {lv : Nat → Nat} {p : Nat → Nat} {M A : Nat} {T : Tb}
theorem CV.mono : Mono n lv M A (CV n lv) := fun T T' f v hm hM h => ⟨hM.live h.l, by rw [vl_more hm.t.inv hM h.l]; exact h.c⟩
theorem CV.zero (h : Tbl n lv p T) : CV n lv T 0 0 := ⟨h.inv.live0, by rw [show vl n T 0 = fun _ => false from funext fun σ => vl_zero _, cntR_false]⟩
theorem CV.one (h : Tbl n lv p T) : CV n lv T 1 (2 ^ n) := ⟨h.inv.live1, by rw [show vl n T 1 = fun _ => true from funext fun σ => vl_one _, cntR_true]⟩
theorem CV.join (h : Tbl n lv p T) {f : Nat} {r : Rw} {x y : Nat} (h2 : 2 ≤ f) (hr : T.rows[f]? = some r) (hd : r.about ≠ -1) (hx : CV n lv T r.low x) (hy : CV n lv T r.high y) : ∃ c, x + y = 2 * c ∧ c ≤ 2 ^ n ∧ CV n lv T f c := by
 obtain ⟨a1, a2, _, a4, a5, a6, a7⟩ := h.inv.nd f r h2 hr hd
 have hk := rk_at (lv := lv) hr
 have hh := cntR_half (F := vl n T f) (F0 := vl n T r.low) (F1 := vl n T r.high) (a := r.about.toNat) (fun τ b => h.indep b n _ a4 (by omega) (by omega) τ) (fun τ b => h.indep b n _ a5 (by omega) (by omega) τ) (fun τ => by rw [h.node τ h2 hr hd]; split <;> rfl) n zs (by omega)
 exact ⟨cntR n (vl n T f) zs, by rw [hx.c, hy.c]; exact hh, cntR_le _ _ _, ⟨⟨r, hr, hd⟩, rfl⟩⟩
end
set_option maxHeartbeats 1000000 in
theorem count1_any (w : World) (a : Int) (x y c : Nat) (h : x + y = 2 * c) (hc : c ≤ 33554432) :
 Calls Tryz.prog 75 #[.int .i64 a, .int .i64 (x : Int), .int .i64 (y : Int)] w fun e w' => e = .returned (.int .i64 (c : Int)) ∧ w' = w := by
 have mo := follows
 go_enter Tryz.func75, Tryz.ntmps75
 go_wp2_with fail
 go_ret
 exact ⟨by show Ending.returned (Value.int .i64 (((x : Int) + (y : Int)) / 2)) = _; rw [show ((x : Int) + (y : Int)) / 2 = (c : Int) from by omega], rfl⟩
theorem wrap_pow (n : Nat) (h : n ≤ 24) : IntKind.i64.wrap (2 ^ n) = ((2 ^ n : Nat) : Int) := by
 have k : ∀ m : Fin 25, IntKind.i64.wrap (2 ^ m.val) = ((2 ^ m.val : Nat) : Int) := by decide
 exact k ⟨n, by omega⟩
section
variable {w : World} {tb : Nat} {L : Ly} {T : Tb} {n : Nat} {lv : Nat → Nat} {M A : Nat}
theorem joinC_ok {xs : List (Nat × Obj)} {mm : Nat} {T0 : Tb} : JoinOKC n lv M A 0 T0 (CV n lv) xs mm tb := by
 intro W L T f r x y h2 hr hd hT hm hMo hE hx hy hroom
 obtain ⟨q, hq, ea, el, eh, _⟩ := hMo.keep f r hr hd
 rw [← el] at hx
 rw [← eh] at hy
 have h24 := hm.n24
 obtain ⟨c, hc, hcl, hv⟩ := CV.join hm.t h2 hq (by rw [ea]; exact hd) hx hy
 have h25 : 2 ^ n ≤ 2 ^ 24 := Nat.pow_le_pow_right (by omega) h24
 refine (count1_any W r.about x y c hc (by omega)).mono ?_
 rintro e w' ⟨rfl, rfl⟩
 exact ⟨c, T, L, rfl, hT, FrT.refl _ _, ⟨hm, More.refl T, fun _ h => h, by omega, hv⟩, rfl, rfl⟩
set_option maxHeartbeats 1000000 in
theorem Count_any (h : TAt w tb L T) (hm : Mid n lv M A T) (hr0 : A + T.fresh.length ≤ M) (f : Nat) (hf : Live T f) :
 Calls Tryz.prog 42 #[.pointer (some ⟨tb, 0, none⟩), .int .i64 (f : Int)] w fun e w' => e = .returned (.int .i64 (cntR n (vl n T f) zs : Int)) ∧ TAt w' tb L T ∧ FrT L L w w' := by
 obtain ⟨rf, ef, df⟩ := id hf
 have h24 := hm.n24
 have hord : T.ord.length = n := hm.t.inv.on
 have HK : Hid (Calls _ _ _ _ _) := known_any h.drew f rf ef df
 have HC : Hid (Calls Tryz.prog 74 #[.pointer (some ⟨tb, 0, none⟩), .int .i64 (f : Int), .int .i64 0, .int .i64 (IntKind.i64.wrap (2 ^ n)), .func (.func 75) #[] #[]] w.drew fun e w' => e = .returned (.int .i64 (cntR n (vl n T f) zs : Int)) ∧ TAt w' tb L T ∧ FrT L L w.drew w') := by
  rw [wrap_pow n h24]
  refine (fold_anyC (ex := []) (K := 0) h.drew hm CV.mono (by simp) (fun bm bt bj bo mm => joinC_ok) f 0 (2 ^ n) hf (CV.zero hm.t) (CV.one hm.t) (by omega)).mono ?_
  rintro e w' ⟨v, T', L', ml', rfl, hX, hF, hO, rfl, rfl⟩
  exact ⟨by rw [hO.val.c], hX, hF⟩
 have HX : Hid (TAt w tb L T) := h
 obtain ⟨a, cap, b0⟩ := h.b0
 have HB0 : Hid (∀ W, TAt W tb L T → W.cell? ⟨tb, 0, none⟩ = some (.slice a n cap)) := fun W hW => by
  have e1 : W.cell? ⟨tb, 0, none⟩ = some (L.val 2) := hW.cell 0
  have e2 : w.cell? ⟨tb, 0, none⟩ = some (L.val 2) := h.cell 0
  rw [e1, ← e2, b0, hord]
 have b0d := HB0.out w.drew h.drew
 rw [hord] at b0
 have mo := follows
 clear h hm hf ef df hord
 go_enter Tryz.func42, Tryz.ntmps42
 go_wp2_with fail
 go_region_held3 (fun w' => w'.cell? ⟨tb, 0, none⟩ = some (.slice a n cap)) (first | assumption | go_keep)
  ((first | (go_at_call 58; refine HK.out.mono ?_; rintro e w' ⟨rfl, hw⟩; replace hw := hw.symm; subst hw) | (go_at_call 74; refine HC.out.mono ?_; rintro e W5 ⟨rfl, hX5, hF5⟩; have X5 : Hid (TAt W5 tb L T) := hX5; have F5 : Hid (FrT L L w W5) := (fr_drew L w).trans hF5; have z0 := HB0.out W5 hX5; clear hX5 hF5)))
 clear z0 HK HC b0d b0 HB0
 go_wp2_with fail
 go_ret
 exact ⟨rfl, X5.out, F5.out⟩
end
end Go.Proofs.YtaakjjefnjbabaaGreat.Sx
namespace Go.Proofs.YtaakjjefnjbabaaGreat.Sx
open Go.RowKit Go.Sort Go.Maps Go.WideMaps
def lsR (n : Nat) : Nat → ((Nat → Bool) → Bool) → (Nat → Bool) → Nat
 | 0, F, σ => if F σ then 0 else 2 ^ n
 | m + 1, F, σ => min (lsR n m F (upd σ (n - (m + 1)) false)) (2 ^ m + lsR n m F (upd σ (n - (m + 1)) true))
section
variable {n : Nat}
theorem lsR_or (F : (Nat → Bool) → Bool) : ∀ (m : Nat) (σ : Nat → Bool), m ≤ n → lsR n m F σ < 2 ^ m ∨ lsR n m F σ = 2 ^ n
 | 0, σ, _ => by unfold lsR; split <;> simp
 | m + 1, σ, h => by
   have h1 := lsR_or F m (upd σ (n - (m + 1)) false) (by omega)
   have h2 := lsR_or F m (upd σ (n - (m + 1)) true) (by omega)
   have h3 : 2 ^ (m + 1) ≤ 2 ^ n := Nat.pow_le_pow_right (by omega) h
   have h4 : 2 ^ (m + 1) = 2 ^ m * 2 := Nat.pow_succ 2 m
   rw [lsR]
   omega
theorem lsR_false : ∀ (m : Nat) (σ : Nat → Bool), lsR n m (fun _ => false) σ = 2 ^ n
 | 0, σ => rfl
 | m + 1, σ => by have := Nat.two_pow_pos m; rw [lsR, lsR_false m, lsR_false m]; omega
theorem lsR_true : ∀ (m : Nat) (σ : Nat → Bool), lsR n m (fun _ => true) σ = 0
 | 0, σ => rfl
 | m + 1, σ => by have := Nat.two_pow_pos m; rw [lsR, lsR_true m, lsR_true m]; omega
theorem lsR_congr {F G : (Nat → Bool) → Bool} : ∀ (m : Nat) (σ : Nat → Bool), m ≤ n → (∀ τ, (∀ v, v < n - m → τ v = σ v) → F τ = G τ) → lsR n m F σ = lsR n m G σ
 | 0, σ, _, h => by unfold lsR; rw [h σ fun _ _ => rfl]
 | m + 1, σ, hm, h => by
   rw [lsR, lsR]
   have key : ∀ b, lsR n m F (upd σ (n - (m + 1)) b) = lsR n m G (upd σ (n - (m + 1)) b) := fun b => lsR_congr m _ (by omega) fun τ hτ => h τ fun v hv => by
    rw [hτ v (by omega)]; unfold upd; rw [if_neg (by omega)]
   rw [key, key]
theorem lsR_indep {F : (Nat → Bool) → Bool} {a : Nat} (h : ∀ τ b, F (upd τ a b) = F τ) : ∀ (m : Nat) (σ : Nat → Bool) (b : Bool), m ≤ n → a < n - m → lsR n m F (upd σ a b) = lsR n m F σ
 | 0, σ, b, _, _ => by unfold lsR; rw [h]
 | m + 1, σ, b, hm, ha => by
   rw [lsR, lsR, upd_comm σ (show a ≠ n - (m + 1) by omega) b false, upd_comm σ (show a ≠ n - (m + 1) by omega) b true, lsR_indep h m _ b (by omega) (by omega), lsR_indep h m _ b (by omega) (by omega)]
theorem lsR_join {F F0 F1 : (Nat → Bool) → Bool} {a : Nat} (h0 : ∀ τ b, F0 (upd τ a b) = F0 τ) (h1 : ∀ τ b, F1 (upd τ a b) = F1 τ) (hF : ∀ τ, F τ = if τ a then F1 τ else F0 τ) : ∀ (m : Nat) (σ : Nat → Bool), m ≤ n → n - m ≤ a → a < n → lsR n m F σ = min (lsR n m F0 σ) (lsR n m F1 σ + 2 ^ (n - 1 - a))
 | 0, σ, _, h2, h3 => by omega
 | m + 1, σ, hm, h2, h3 => by
   have hp := Nat.two_pow_pos m
   rw [lsR, lsR, lsR]
   by_cases e : a = n - (m + 1)
   · subst e
     have e1 : n - 1 - (n - (m + 1)) = m := by omega
     rw [e1]
     have i0 := fun b => lsR_indep (n := n) h0 m σ b (by omega) (by omega)
     have i1 := fun b => lsR_indep (n := n) h1 m σ b (by omega) (by omega)
     rw [i0 false, i0 true, i1 false, i1 true]
     have e0 : lsR n m F (upd σ (n - (m + 1)) false) = lsR n m F0 σ := by
      rw [← i0 false]
      exact lsR_congr m _ (by omega) fun τ hτ => by rw [hF, hτ (n - (m + 1)) (by omega)]; unfold upd; simp
     have e2 : lsR n m F (upd σ (n - (m + 1)) true) = lsR n m F1 σ := by
      rw [← i1 true]
      exact lsR_congr m _ (by omega) fun τ hτ => by rw [hF, hτ (n - (m + 1)) (by omega)]; unfold upd; simp
     rw [e0, e2]; omega
   · rw [lsR_join h0 h1 hF m _ (by omega) (by omega) h3, lsR_join h0 h1 hF m _ (by omega) (by omega) h3]
     omega
theorem lsR_bit {F : (Nat → Bool) → Bool} {a : Nat} (h : ∀ τ b, F (upd τ a b) = F τ) : ∀ (m : Nat) (σ : Nat → Bool), m ≤ n → n - m ≤ a → a < n → (lsR n m F σ).testBit (n - 1 - a) = false
 | 0, σ, _, h2, h3 => by omega
 | m + 1, σ, hm, h2, h3 => by
   rw [lsR]
   have hor0 := lsR_or (n := n) F m (upd σ (n - (m + 1)) false) (by omega)
   have hor1 := lsR_or (n := n) F m (upd σ (n - (m + 1)) true) (by omega)
   have hp := Nat.two_pow_pos m
   have h3' : 2 ^ m < 2 ^ n := Nat.pow_lt_pow_right (by omega) (by omega)
   by_cases e : a = n - (m + 1)
   · subst e
     have e1 : n - 1 - (n - (m + 1)) = m := by omega
     rw [e1]
     have i := fun b => lsR_indep (n := n) h m σ b (by omega) (by omega)
     rw [i false, i true]
     rw [i false] at hor0
     rw [Nat.min_eq_left (by omega)]
     rcases hor0 with q | q
     · exact Nat.testBit_lt_two_pow q
     · rw [q, Nat.testBit_two_pow]; simp; omega
   · have b0 := lsR_bit h m (upd σ (n - (m + 1)) false) (by omega) (by omega) h3
     have b1 := lsR_bit h m (upd σ (n - (m + 1)) true) (by omega) (by omega) h3
     rcases Nat.le_total (lsR n m F (upd σ (n - (m + 1)) false)) (2 ^ m + lsR n m F (upd σ (n - (m + 1)) true)) with q | q
     · rw [Nat.min_eq_left q]; exact b0
     · rw [Nat.min_eq_right q, Nat.testBit_two_pow_add_gt (by omega)]; exact b1
theorem or_add : ∀ (k x : Nat), x.testBit k = false → x ||| 2 ^ k = x + 2 ^ k
 | 0, x, h => by
   have hx : x % 2 = 0 := by
    rw [Nat.testBit_zero] at h
    have := of_decide_eq_false h
    omega
   have h1 : (x ||| 2 ^ 0) / 2 = x / 2 := by rw [Nat.or_div_two]; simp
   have h2 : (x ||| 2 ^ 0) % 2 = 1 := by rw [Nat.or_mod_two_eq_one]; right; rfl
   omega
 | k + 1, x, h => by
   have ih := or_add k (x / 2) (by rw [Nat.testBit_div_two]; exact h)
   have h1 : (x ||| 2 ^ (k + 1)) / 2 = x / 2 + 2 ^ k := by
    rw [Nat.or_div_two, ← ih, Nat.pow_succ, Nat.mul_div_cancel _ (by omega)]
   have h2 : (x ||| 2 ^ (k + 1)) % 2 = x % 2 := by
    have e : 2 ^ (k + 1) % 2 = 0 := by rw [Nat.pow_succ]; omega
    have := Nat.or_mod_two_eq_one (a := x) (b := 2 ^ (k + 1))
    omega
   have e2 : 2 ^ (k + 1) = 2 ^ k * 2 := Nat.pow_succ 2 k
   omega
end
end Go.Proofs.YtaakjjefnjbabaaGreat.Sx
namespace Go.Proofs.YtaakjjefnjbabaaGreat.Sx
open Go.RowKit Go.Sort Go.Maps Go.WideMaps
set_option maxHeartbeats 1000000 in
theorem bit_any (w : World) (n i nb : Nat) (hn : n ≤ 24) (hi : i < n) (hc : w.cell? ⟨nb, 0, none⟩ = some (.int .i64 (n : Int))) :
 Calls Tryz.prog 76 #[.int .i64 (i : Int), .pointer (some ⟨nb, 0, none⟩)] w fun e w' => e = .returned (.int .i64 ((2 ^ (n - 1 - i) : Nat) : Int)) ∧ w' = w := by
 obtain ⟨k, hk⟩ : ∃ k, n - 1 - i = k := ⟨_, rfl⟩
 have hk24 : k ≤ 24 := by omega
 have hp := wrap_pow k hk24
 have e1 : (n : Int) - 1 - (i : Int) = (k : Int) := by omega
 rw [hk]
 have mo := follows
 go_enter Tryz.func76, Tryz.ntmps76
 go_wp2_with fail
 go_ret
 exact ⟨by rw [Int.natCast_pow]; rfl, rfl⟩
theorem bits_i64 (a b : Nat) (ha : a < 2 ^ 40) (hb : b < 2 ^ 40) : bits .and .i64 a b = ((a &&& b : Nat) : Int) ∧ bits .or .i64 a b = ((a ||| b : Nat) : Int) :=
 bits_nat .i64 40 (by decide) (fun n h0 h1 => by rw [IntKind.wrap_i64]; omega) a b ha hb
def exF (ca nb n : Nat) : List (Nat × Obj) := [(ca, .cells #[.func (.func 76) #[] #[.pointer (some ⟨nb, 0, none⟩)]] 84 (0, 0)), (nb, .cells #[.int .i64 (n : Int)] 3 (0, 0))]
set_option maxHeartbeats 1000000 in
theorem first2_any (w : World) (n i nb ca x y : Nat) (hn : n ≤ 24) (hi : i < n) (hc : w.heap[nb]? = some (.cells #[.int .i64 (n : Int)] 3 (0, 0))) (hca : w.heap[ca]? = some (.cells #[.func (.func 76) #[] #[.pointer (some ⟨nb, 0, none⟩)]] 84 (0, 0)))
 (hy : y ≤ 33554432) (hb : y.testBit (n - 1 - i) = false) :
 Calls Tryz.prog 77 #[.int .i64 (i : Int), .int .i64 (x : Int), .int .i64 (y : Int), .pointer (some ⟨ca, 0, none⟩)] w fun e w' => e = .returned (.int .i64 (min x (y + 2 ^ (n - 1 - i)) : Nat)) ∧ w' = w := by
 have HB : Hid (Calls _ _ _ _ _) := bit_any w n i nb hn hi (block_cell hc 0)
 have c0 := block_cell hca 0
 obtain ⟨q, hq⟩ : ∃ q, 2 ^ (n - 1 - i) = q := ⟨_, rfl⟩
 have hql : q ≤ 16777216 := by
  rw [← hq]
  have : 2 ^ (n - 1 - i) ≤ 2 ^ 24 := Nat.pow_le_pow_right (by omega) (by omega)
  exact this
 have hor := or_add _ _ hb
 rw [hq] at HB hor ⊢
 have hbo := (bits_i64 y q (by omega) (by omega)).2
 rw [hor] at hbo
 obtain ⟨yq, hyq⟩ : ∃ yq, y + q = yq := ⟨_, rfl⟩
 rw [hyq] at hbo ⊢
 have mo := follows
 clear hc hca hb hq hi
 rcases Nat.lt_or_ge yq x with hc | hc
 · have h1 : (yq : Int) < (x : Int) := by omega
   have h2 : ¬ (x : Int) ≤ (yq : Int) := by omega
   rw [Nat.min_eq_right (by omega)]
   go_enter Tryz.func77, Tryz.ntmps77
   go_wp2_with fail
   refine HB.out.mono ?_
   rintro e w' ⟨rfl, hw⟩; replace hw := hw.symm; subst hw
   clear HB c0
   go_wp2_with fail
   go_ret
   exact ⟨rfl, rfl⟩
 · have h1 : ¬ (yq : Int) < (x : Int) := by omega
   have h2 : (x : Int) ≤ (yq : Int) := by omega
   rw [Nat.min_eq_left hc]
   go_enter Tryz.func77, Tryz.ntmps77
   go_wp2_with fail
   refine HB.out.mono ?_
   rintro e w' ⟨rfl, hw⟩; replace hw := hw.symm; subst hw
   clear HB c0
   go_wp2_with fail
   go_ret
   exact ⟨rfl, rfl⟩
structure FV (n : Nat) (lv : Nat → Nat) (T : Tb) (g c : Nat) : Prop where
 l : Live T g
 c : c = lsR n n (vl n T g) zs
section
variable {w : World} {tb : Nat} {L : Ly} {n : Nat} {lv : Nat → Nat} {p : Nat → Nat} {M A : Nat} {T : Tb}
theorem FV.mono : Mono n lv M A (FV n lv) := fun T T' f v hm hM h => ⟨hM.live h.l, by rw [vl_more hm.t.inv hM h.l]; exact h.c⟩
theorem FV.zero (h : Tbl n lv p T) : FV n lv T 0 (2 ^ n) := ⟨h.inv.live0, by rw [show vl n T 0 = fun _ => false from funext fun σ => vl_zero _, lsR_false]⟩
theorem FV.one (h : Tbl n lv p T) : FV n lv T 1 0 := ⟨h.inv.live1, by rw [show vl n T 1 = fun _ => true from funext fun σ => vl_one _, lsR_true]⟩
theorem FV.le {g c : Nat} (h : FV n lv T g c) : c ≤ 2 ^ n := by
 rw [h.c]
 rcases lsR_or (n := n) (vl n T g) n zs (Nat.le_refl _) with q | q <;> omega
theorem FV.join (h : Tbl n lv p T) {f : Nat} {r : Rw} {x y a : Nat} (h2 : 2 ≤ f) (hr : T.rows[f]? = some r) (hd : r.about = (a : Int)) (hx : FV n lv T r.low x) (hy : FV n lv T r.high y) : y.testBit (n - 1 - a) = false ∧ FV n lv T f (min x (y + 2 ^ (n - 1 - a))) := by
 have hd1 : r.about ≠ -1 := by omega
 obtain ⟨a1, a2, _, a4, a5, a6, a7⟩ := h.inv.nd f r h2 hr hd1
 have hk := rk_at (lv := lv) hr
 rw [hd, Int.toNat_natCast] at hk
 have hi0 := fun τ b => h.indep (v := a) b n _ a4 (by omega) (by omega) τ
 have hi1 := fun τ b => h.indep (v := a) b n _ a5 (by omega) (by omega) τ
 refine ⟨by rw [hy.c]; exact lsR_bit hi1 n zs (Nat.le_refl _) (by omega) (by omega), ⟨r, hr, hd1⟩, ?_⟩
 rw [lsR_join hi0 hi1 (fun τ => by rw [h.node τ h2 hr hd1, hd, Int.toNat_natCast]; split <;> rfl) n zs (Nat.le_refl _) (by omega) (by omega), hx.c, hy.c]
theorem joinF_ok {xs : List (Nat × Obj)} {mm ca nb : Nat} {T0 : Tb} (hxs : ∀ q ∈ exF ca nb n, q ∈ xs) : JoinOKF n lv M A 0 T0 (FV n lv) xs mm tb ca := by
 intro W L T f r x y h2 hr hd hT hm hMo hE hx hy hroom
 obtain ⟨q, hq, ea, el, eh, _⟩ := hMo.keep f r hr hd
 rw [← el] at hx
 rw [← eh] at hy
 have h24 := hm.n24
 obtain ⟨a1, a2, _⟩ := hm.t.inv.nd f q h2 hq (by rw [ea]; exact hd)
 obtain ⟨a, ha⟩ : ∃ a : Nat, q.about = (a : Int) := ⟨q.about.toNat, by omega⟩
 obtain ⟨hb, hv⟩ := FV.join hm.t h2 hq ha hx hy
 have h25 : 2 ^ n ≤ 2 ^ 24 := Nat.pow_le_pow_right (by omega) h24
 have hyl := hy.le
 rw [← ea, ha]
 refine (first2_any W n a nb ca x y h24 (by omega) (hE.at' _ (hxs (nb, _) (by simp [exF]))) (hE.at' _ (hxs (ca, _) (by simp [exF]))) (by omega) hb).mono ?_
 rintro e w' ⟨rfl, rfl⟩
 exact ⟨_, T, L, rfl, hT, FrT.refl _ _, ⟨hm, More.refl T, fun _ h => h, by omega, hv⟩, rfl, rfl⟩
end
end Go.Proofs.YtaakjjefnjbabaaGreat.Sx
