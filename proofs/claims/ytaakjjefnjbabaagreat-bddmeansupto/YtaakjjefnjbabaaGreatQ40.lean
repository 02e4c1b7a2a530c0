/- The reference (plain): over, let. -/
import Derived.Test.YtaakjjefnjbabaaGreatQ39
set_option maxRecDepth 100000
namespace Go.Proofs.YtaakjjefnjbabaaGreat.Sx
def Agr (S : Nat) (σ τ : Nat → Bool) : Prop := ∀ j, S.testBit j = false → τ j = σ j
section
variable {S : Nat} {n : Nat} {lv p : Nat → Nat} {T : Tb}
theorem wv_or (h : Tbl n lv p T) (σ : Nat → Bool) : ∀ (m f : Nat), Live T f → n ≤ rk lv T f + m → (wv S jnO (n + 1) T f σ = true ↔ ∃ τ, Agr S σ τ ∧ vl n T f τ = true)
 | m, f, hf, hm => by
   by_cases e0 : f = 0
   · subst e0
     rw [wv_zero]
     exact ⟨fun q => (by cases q), fun ⟨τ, _, q⟩ => (by rw [vl_zero] at q; cases q)⟩
   by_cases e1 : f = 1
   · subst e1
     rw [wv_one]
     exact ⟨fun _ => ⟨σ, fun _ _ => rfl, vl_one _⟩, fun _ => rfl⟩
   obtain ⟨r, hr, hd⟩ := hf
   have h2 : 2 ≤ f := by omega
   obtain ⟨a1, a2, _, a4, a5, a6, a7⟩ := h.inv.nd f r h2 hr hd
   have hk := rk_at (lv := lv) hr
   have b4 := h.rle _ a4
   have b5 := h.rle _ a5
   rw [wv_node h σ h2 hr hd]
   match m, hm with
   | 0, hm => omega
   | m + 1, hm =>
     have ih0 := wv_or h σ m _ a4 (by omega)
     have ih1 := wv_or h σ m _ a5 (by omega)
     by_cases hs : S.testBit r.about.toNat = true
     · rw [if_pos hs]
       show (wv S jnO (n + 1) T r.low σ || wv S jnO (n + 1) T r.high σ) = true ↔ _
       rw [Bool.or_eq_true, ih0, ih1]
       have ag : ∀ τ b, Agr S σ τ → Agr S σ (upd τ r.about.toNat b) := fun τ b ha j hj => by
        rw [upd_ne (fun e => by rw [e, hs] at hj; cases hj)]; exact ha j hj
       constructor
       · rintro (⟨τ, ha, hv⟩ | ⟨τ, ha, hv⟩)
         · refine ⟨_, ag τ false ha, ?_⟩
           rw [h.node _ h2 hr hd, upd_at, if_neg (by simp), h.indep false n _ a4 (by omega) (by omega)]
           exact hv
         · refine ⟨_, ag τ true ha, ?_⟩
           rw [h.node _ h2 hr hd, upd_at, if_pos rfl, h.indep true n _ a5 (by omega) (by omega)]
           exact hv
       · rintro ⟨τ, ha, hv⟩
         rw [h.node _ h2 hr hd] at hv
         by_cases ht : τ r.about.toNat = true
         · rw [if_pos ht] at hv; exact .inr ⟨τ, ha, hv⟩
         · rw [if_neg ht] at hv; exact .inl ⟨τ, ha, hv⟩
     · rw [if_neg hs]
       have key : (∃ τ, Agr S σ τ ∧ vl n T f τ = true) ↔ ∃ τ, Agr S σ τ ∧ vl n T (if σ r.about.toNat then r.high else r.low) τ = true := by
        refine exists_congr fun τ => and_congr_right fun ha => ?_
        rw [h.node _ h2 hr hd, ha _ (by simpa using hs)]
       rw [key]
       split
       · exact ih1
       · exact ih0
theorem wv_and (h : Tbl n lv p T) (σ : Nat → Bool) : ∀ (m f : Nat), Live T f → n ≤ rk lv T f + m → (wv S jnA (n + 1) T f σ = true ↔ ∀ τ, Agr S σ τ → vl n T f τ = true)
 | m, f, hf, hm => by
   by_cases e0 : f = 0
   · subst e0
     rw [wv_zero]
     exact ⟨fun q => (by cases q), fun q => (by have := q σ (fun _ _ => rfl); rw [vl_zero] at this; cases this)⟩
   by_cases e1 : f = 1
   · subst e1
     rw [wv_one]
     exact ⟨fun _ _ _ => vl_one _, fun _ => rfl⟩
   obtain ⟨r, hr, hd⟩ := hf
   have h2 : 2 ≤ f := by omega
   obtain ⟨a1, a2, _, a4, a5, a6, a7⟩ := h.inv.nd f r h2 hr hd
   have hk := rk_at (lv := lv) hr
   have b4 := h.rle _ a4
   have b5 := h.rle _ a5
   rw [wv_node h σ h2 hr hd]
   match m, hm with
   | 0, hm => omega
   | m + 1, hm =>
     have ih0 := wv_and h σ m _ a4 (by omega)
     have ih1 := wv_and h σ m _ a5 (by omega)
     by_cases hs : S.testBit r.about.toNat = true
     · rw [if_pos hs]
       show (wv S jnA (n + 1) T r.low σ && wv S jnA (n + 1) T r.high σ) = true ↔ _
       rw [Bool.and_eq_true, ih0, ih1]
       have ag : ∀ τ b, Agr S σ τ → Agr S σ (upd τ r.about.toNat b) := fun τ b ha j hj => by
        rw [upd_ne (fun e => by rw [e, hs] at hj; cases hj)]; exact ha j hj
       constructor
       · rintro ⟨q0, q1⟩ τ ha
         rw [h.node _ h2 hr hd]
         split
         · exact q1 τ ha
         · exact q0 τ ha
       · intro q
         refine ⟨fun τ ha => ?_, fun τ ha => ?_⟩
         · have := q _ (ag τ false ha)
           rw [h.node _ h2 hr hd, upd_at, if_neg (by simp), h.indep false n _ a4 (by omega) (by omega)] at this
           exact this
         · have := q _ (ag τ true ha)
           rw [h.node _ h2 hr hd, upd_at, if_pos rfl, h.indep true n _ a5 (by omega) (by omega)] at this
           exact this
     · rw [if_neg hs]
       have key : (∀ τ, Agr S σ τ → vl n T f τ = true) ↔ ∀ τ, Agr S σ τ → vl n T (if σ r.about.toNat then r.high else r.low) τ = true := by
        refine forall_congr' fun τ => forall_congr' fun ha => ?_
        rw [h.node _ h2 hr hd, ha _ (by simpa using hs)]
       rw [key]
       split
       · exact ih1
       · exact ih0
theorem wv_one_var (h : Tbl n lv p T) (σ : Nat → Bool) {i : Nat} {b : Bool} {jn : Bool → Bool → Bool} (hjn : ∀ x y, jn x y = if b then y else x) (hS : ∀ j, S.testBit j = true ↔ j = i) : ∀ (m f : Nat), Live T f → n ≤ rk lv T f + m → wv S jn (n + 1) T f σ = vl n T f (upd σ i b)
 | m, f, hf, hm => by
   by_cases e0 : f = 0
   · subst e0
     rw [wv_zero, vl_zero]
   by_cases e1 : f = 1
   · subst e1
     rw [wv_one, vl_one]
   obtain ⟨r, hr, hd⟩ := hf
   have h2 : 2 ≤ f := by omega
   obtain ⟨a1, a2, _, a4, a5, a6, a7⟩ := h.inv.nd f r h2 hr hd
   have hk := rk_at (lv := lv) hr
   have b4 := h.rle _ a4
   have b5 := h.rle _ a5
   rw [wv_node h σ h2 hr hd, h.node _ h2 hr hd]
   match m, hm with
   | 0, hm => omega
   | m + 1, hm =>
     have ih0 := wv_one_var h σ hjn hS m _ a4 (by omega)
     have ih1 := wv_one_var h σ hjn hS m _ a5 (by omega)
     by_cases hs : S.testBit r.about.toNat = true
     · rw [if_pos hs, hjn, ih0, ih1, (hS _).1 hs, upd_at]
       cases b <;> rfl
     · rw [if_neg hs, upd_ne (fun e => hs ((hS _).2 e))]
       split
       · exact ih1
       · exact ih0
theorem wv_none (h : Tbl n lv p T) (σ : Nat → Bool) {jn : Bool → Bool → Bool} (hS : ∀ j, S.testBit j = false) : ∀ (m f : Nat), Live T f → n ≤ rk lv T f + m → wv S jn (n + 1) T f σ = vl n T f σ
 | m, f, hf, hm => by
   by_cases e0 : f = 0
   · subst e0
     rw [wv_zero, vl_zero]
   by_cases e1 : f = 1
   · subst e1
     rw [wv_one, vl_one]
   obtain ⟨r, hr, hd⟩ := hf
   have h2 : 2 ≤ f := by omega
   obtain ⟨a1, a2, _, a4, a5, a6, a7⟩ := h.inv.nd f r h2 hr hd
   have hk := rk_at (lv := lv) hr
   have b4 := h.rle _ a4
   have b5 := h.rle _ a5
   rw [wv_node h σ h2 hr hd, h.node _ h2 hr hd, hS, if_neg (by simp)]
   match m, hm with
   | 0, hm => omega
   | m + 1, hm =>
     split
     · exact wv_none h σ hS m _ a5 (by omega)
     · exact wv_none h σ hS m _ a4 (by omega)
end
def ovF (n : Nat) (s : Bool) : List Int → ((Nat → Bool) → Bool) → (Nat → Bool) → Bool
 | [], F => F
 | i :: l, F => ovF n s l (if 0 ≤ i ∧ i < (n : Int) then fun σ => F (upd σ i.toNat false) && F (upd σ i.toNat true) || s && (F (upd σ i.toNat false) || F (upd σ i.toNat true)) else F)
theorem ovF_or (n : Nat) : ∀ (l : List Int) (F : (Nat → Bool) → Bool) (σ : Nat → Bool), ovF n true l F σ = true ↔ ∃ τ, Agr (goneS n l 0) σ τ ∧ F τ = true
 | [], F, σ => by
   constructor
   · exact fun h => ⟨σ, fun _ _ => rfl, h⟩
   · rintro ⟨τ, ha, h⟩
     have : τ = σ := funext fun j => ha j (by unfold goneS; simp)
     rw [← this]; exact h
 | i :: l, F, σ => by
   have hb : ∀ j, (goneS n (i :: l) 0).testBit j = ((goneS n l 0).testBit j || (decide (j < n) && decide (i = (j : Int)))) := fun j => by
    rw [goneS_bit, goneS_bit]
    simp only [List.any_cons, Nat.zero_testBit, Bool.false_or]
    cases decide (j < n) <;> cases decide (i = (j : Int)) <;> simp
   unfold ovF
   by_cases hi : 0 ≤ i ∧ i < (n : Int)
   · rw [if_pos hi, ovF_or n l]
     obtain ⟨a, rfl⟩ : ∃ a : Nat, i = (a : Int) := ⟨i.toNat, by omega⟩
     rw [Int.toNat_natCast]
     constructor
     · rintro ⟨τ, ha, h⟩
       have h : F (upd τ a false) = true ∨ F (upd τ a true) = true := by
        cases q0 : F (upd τ a false) <;> cases q1 : F (upd τ a true) <;> simp_all
       have ag : ∀ b, Agr (goneS n ((a : Int) :: l) 0) σ (upd τ a b) := fun b j hj => by
        rw [hb, Bool.or_eq_false_iff] at hj
        have hne : j ≠ a := fun e => by
         subst e
         have := hj.2
         simp at this
         omega
        rw [upd_ne hne]
        exact ha j hj.1
       rcases h with h | h
       · exact ⟨_, ag false, h⟩
       · exact ⟨_, ag true, h⟩
     · rintro ⟨τ, ha, h⟩
       refine ⟨upd τ a (σ a), fun j hj => ?_, ?_⟩
       · by_cases e : j = a
         · subst e; exact upd_at _ _ _
         · rw [upd_ne e]
           refine ha j ?_
           rw [hb, hj]
           have : ¬ (a : Int) = (j : Int) := by omega
           simp [this]
       · have h1 : F (upd τ a false) = true ∨ F (upd τ a true) = true := by
          have e : upd τ a (τ a) = τ := funext fun x => by unfold upd; split <;> simp [*]
          cases q : τ a with
          | false =>
            have e2 : upd τ a false = τ := by rw [← q]; exact e
            left; rw [e2]; exact h
          | true =>
            have e2 : upd τ a true = τ := by rw [← q]; exact e
            right; rw [e2]; exact h
         rw [upd_same, upd_same]
         rcases h1 with q | q <;> simp [q]
   · rw [if_neg hi, ovF_or n l]
     refine exists_congr fun τ => and_congr_left fun _ => forall_congr' fun j => ?_
     rw [hb]
     have : (decide (j < n) && decide (i = (j : Int))) = false := by
      by_cases e : i = (j : Int)
      · have : ¬ j < n := by omega
        simp [this]
      · simp [e]
     rw [this, Bool.or_false]
theorem ovF_and (n : Nat) : ∀ (l : List Int) (F : (Nat → Bool) → Bool) (σ : Nat → Bool), ovF n false l F σ = true ↔ ∀ τ, Agr (goneS n l 0) σ τ → F τ = true
 | [], F, σ => by
   constructor
   · intro h τ ha
     have : τ = σ := funext fun j => ha j (by unfold goneS; simp)
     rw [this]; exact h
   · exact fun h => h σ fun _ _ => rfl
 | i :: l, F, σ => by
   have hb : ∀ j, (goneS n (i :: l) 0).testBit j = ((goneS n l 0).testBit j || (decide (j < n) && decide (i = (j : Int)))) := fun j => by
    rw [goneS_bit, goneS_bit]
    simp only [List.any_cons, Nat.zero_testBit, Bool.false_or]
    cases decide (j < n) <;> cases decide (i = (j : Int)) <;> simp
   unfold ovF
   by_cases hi : 0 ≤ i ∧ i < (n : Int)
   · rw [if_pos hi, ovF_and n l]
     obtain ⟨a, rfl⟩ : ∃ a : Nat, i = (a : Int) := ⟨i.toNat, by omega⟩
     rw [Int.toNat_natCast]
     constructor
     · intro h τ ha
       have h1 := h (upd τ a (σ a)) fun j hj => by
        by_cases e : j = a
        · subst e; exact upd_at _ _ _
        · rw [upd_ne e]
          refine ha j ?_
          rw [hb, hj]
          have : ¬ (a : Int) = (j : Int) := by omega
          simp [this]
       rw [upd_same, upd_same] at h1
       have h1 : F (upd τ a false) = true ∧ F (upd τ a true) = true := by
        cases q0 : F (upd τ a false) <;> cases q1 : F (upd τ a true) <;> simp_all
       have e : upd τ a (τ a) = τ := funext fun x => by unfold upd; split <;> simp [*]
       rw [← e]
       cases τ a
       · exact h1.1
       · exact h1.2
     · intro h τ ha
       have ag : ∀ b, Agr (goneS n ((a : Int) :: l) 0) σ (upd τ a b) := fun b j hj => by
        rw [hb, Bool.or_eq_false_iff] at hj
        have hne : j ≠ a := fun e => by
         subst e
         have := hj.2
         simp at this
         omega
        rw [upd_ne hne]
        exact ha j hj.1
       rw [h _ (ag false), h _ (ag true)]; rfl
   · rw [if_neg hi, ovF_and n l]
     refine forall_congr' fun τ => ?_
     have : Agr (goneS n l 0) σ τ ↔ Agr (goneS n (i :: l) 0) σ τ := forall_congr' fun j => by
      rw [hb]
      have : (decide (j < n) && decide (i = (j : Int))) = false := by
       by_cases e : i = (j : Int)
       · have : ¬ j < n := by omega
         simp [this]
       · simp [e]
      rw [this, Bool.or_false]
     rw [this]
theorem ovL_tab (n : Nat) (s : Bool) : ∀ (l : List Int) (F : (Nat → Bool) → Bool), l.foldl (fun f i => overL n f i s) (tab n F) = tab n (ovF n s l F)
 | [], F => rfl
 | i :: l, F => by
   rw [List.foldl_cons]
   unfold ovF
   by_cases hi : 0 ≤ i ∧ i < (n : Int)
   · rw [if_pos hi]
     obtain ⟨a, rfl⟩ : ∃ a : Nat, i = (a : Int) := ⟨i.toNat, by omega⟩
     rw [overL_tab (by omega), ovL_tab n s l, Int.toNat_natCast]
   · rw [if_neg hi]
     have : overL n (tab n F) i s = tab n F := if_neg hi
     rw [this, ovL_tab n s l]
section
variable {n : Nat} {lv p : Nat → Nat} {T : Tb} {f g : Nat}
theorem wv_ovO (h : Tbl n lv p T) (hf : Live T f) (l : List Int) : wv (goneS n l 0) jnO (n + 1) T f = ovF n true l (vl n T f) := funext fun σ => Bool.eq_iff_iff.2 (by rw [wv_or h σ n f hf (by omega), ovF_or])
theorem wv_ovA (h : Tbl n lv p T) (hf : Live T f) (l : List Int) : wv (goneS n l 0) jnA (n + 1) T f = ovF n false l (vl n T f) := funext fun σ => Bool.eq_iff_iff.2 (by rw [wv_and h σ n f hf (by omega), ovF_and])
theorem letF_tab (h : Tbl n lv p T) (hf : Live T f) (i : Int) : tab n (letF n T f i g) = letL n (tab n (vl n T f)) i (tab n (vl n T g)) := by
 by_cases hi : 0 ≤ i ∧ i < (n : Int)
 · obtain ⟨a, rfl⟩ : ∃ a : Nat, i = (a : Int) := ⟨i.toNat, by omega⟩
   rw [letL_tab (by omega)]
   congr 1
   funext σ
   have hS : ∀ j, (goneS n [(a : Int)] 0).testBit j = true ↔ j = a := fun j => by
    rw [goneS_bit]
    simp
    omega
   unfold letF
   rw [wv_one_var h σ (b := true) (jn := jnH) (fun _ _ => rfl) hS n f hf (by omega), wv_one_var h σ (b := false) (jn := jnL) (fun _ _ => rfl) hS n f hf (by omega)]
   cases vl n T g σ <;> rfl
 · have e : letL n (tab n (vl n T f)) i (tab n (vl n T g)) = tab n (vl n T f) := if_neg hi
   rw [e]
   congr 1
   funext σ
   have hS : ∀ j, (goneS n [i] 0).testBit j = false := fun j => by
    rw [goneS_bit]
    simp
    omega
   unfold letF
   rw [wv_none h σ hS n f hf (by omega), wv_none h σ hS n f hf (by omega)]
   split <;> rfl
end
end Go.Proofs.YtaakjjefnjbabaaGreat.Sx
namespace Go.Proofs.YtaakjjefnjbabaaGreat.Sx
def mix (n k : Nat) (σ : Nat → Bool) (v : Nat) : Bool := if v < n then k.testBit v else σ v
theorem mix_low {n k : Nat} (hk : k < 2 ^ n) (σ : Nat → Bool) : mix (n + 1) k σ = mix n k (upd σ n false) := funext fun v => by
 unfold mix
 by_cases h : v < n
 · rw [if_pos h, if_pos (by omega)]
 · rw [if_neg h]
   by_cases e : v = n
   · subst e
     rw [if_pos (by omega), upd_at, Nat.testBit_lt_two_pow hk]
   · rw [if_neg (by omega), upd_ne e]
theorem mix_high {n k : Nat} (hk : k < 2 ^ n) (σ : Nat → Bool) : mix (n + 1) (2 ^ n + k) σ = mix n k (upd σ n true) := funext fun v => by
 have h1 := Nat.testBit_two_pow_mul_add 1 hk v
 rw [Nat.mul_one] at h1
 unfold mix
 by_cases h : v < n
 · rw [if_pos h, if_pos (by omega), h1, if_pos h]
 · rw [if_neg h]
   by_cases e : v = n
   · subst e
     rw [if_pos (by omega), upd_at, h1, if_neg h, Nat.sub_self]; rfl
   · rw [if_neg (by omega), upd_ne e]
theorem cntR_mix : ∀ (n : Nat) (F : (Nat → Bool) → Bool) (σ : Nat → Bool), cntR n F σ = (List.range (2 ^ n)).countP fun k => F (mix n k σ)
 | 0, F, σ => by
   have : mix 0 0 σ = σ := funext fun v => if_neg (by omega)
   show (if F σ then 1 else 0) = (List.range 1).countP _
   simp [List.range_succ, this]
 | n + 1, F, σ => by
   rw [cntR, cntR_mix n, cntR_mix n, Nat.pow_succ, Nat.mul_two, List.range_add, List.countP_append, List.countP_map]
   congr 1
   · exact List.countP_congr fun k hk => by rw [mix_low (List.mem_range.1 hk)]
   · exact List.countP_congr fun k hk => by
      show _ ↔ F (mix (n + 1) (2 ^ n + k) σ) = true
      rw [mix_high (List.mem_range.1 hk)]
theorem cntR_tab {n : Nat} {F : (Nat → Bool) → Bool} : cntR n F zs = cntL (tab n F) := by
 rw [cntR_mix]
 unfold cntL tab
 rw [List.countP_map]
 refine List.countP_congr fun k hk => ?_
 have hk := List.mem_range.1 hk
 have : mix n k zs = k.testBit := funext fun v => by
  unfold mix
  split
  · rfl
  · rw [Nat.testBit_lt_two_pow (Nat.lt_of_lt_of_le hk (Nat.pow_le_pow_right (by omega) (by omega)))]; rfl
 rw [this]
 exact Iff.rfl
theorem cntL_zero {n : Nat} {F : (Nat → Bool) → Bool} (hF : Dep n F) : cntL (tab n F) = 0 ↔ ∀ τ, F τ = false := by
 unfold cntL
 rw [List.countP_eq_zero]
 constructor
 · intro h τ
   have := h (F (num n τ).testBit) (List.mem_of_getElem? (tab_get (num_lt n τ)))
   rw [hF.num] at this
   simpa using this
 · intro h x hx
   unfold tab at hx
   obtain ⟨k, _, rfl⟩ := List.mem_map.1 hx
   rw [h]; simp
def pre (i : Nat) (d τ : Nat → Bool) (v : Nat) : Bool := if v < i then d v else τ v
theorem fstF_tab {n : Nat} {F : (Nat → Bool) → Bool} : ∀ (i : Nat), i ≤ n → fstF (tab n F) i = tab n fun τ => F (pre i (fstD (tab n F)) τ)
 | 0, _ => by
   show tab n F = _
   congr 1
 | i + 1, hi => by
   have ih := fstF_tab (n := n) (F := F) i (by omega)
   have key : ∀ b, fstD (tab n F) i = b → withL (fstF (tab n F) i) i b = tab n fun τ => F (pre (i + 1) (fstD (tab n F)) τ) := fun b hb => by
    rw [ih, withL_tab (by omega)]
    congr 1
    funext τ
    congr 1
    funext v
    unfold pre
    by_cases e : v < i
    · rw [if_pos e, if_pos (by omega)]
    · rw [if_neg e]
      by_cases e2 : v = i
      · subst e2
        rw [if_pos (by omega), upd_at, hb]
      · rw [if_neg (by omega), upd_ne e2]
   show (if cntL (withL (fstF (tab n F) i) i false) = 0 then _ else _) = _
   by_cases h : cntL (withL (fstF (tab n F) i) i false) = 0
   · rw [if_pos h]; exact key true (decide_eq_true h)
   · rw [if_neg h]; exact key false (decide_eq_false h)
theorem fstD_iff {n i : Nat} {F : (Nat → Bool) → Bool} (hF : Dep n F) (hi : i < n) : fstD (tab n F) i = true ↔ ∀ τ, F (pre i (fstD (tab n F)) (upd τ i false)) = false := by
 have hD : ∀ j, Dep n fun τ => F (pre j (fstD (tab n F)) τ) := fun j σ τ h => hF _ _ fun v hv => by
  unfold pre
  split
  · rfl
  · exact h v hv
 unfold fstD
 rw [decide_eq_true_iff, fstF_tab i (by omega), withL_tab hi, cntL_zero ((hD i).upd i false)]
 exact Iff.rfl
theorem lsR_sat {n : Nat} {F : (Nat → Bool) → Bool} (hF : Dep n F) : ∀ (m : Nat) (σ : Nat → Bool), m ≤ n → (lsR n m F σ < 2 ^ m ↔ ∃ τ, (∀ v, v < n - m → τ v = σ v) ∧ F τ = true)
 | 0, σ, _ => by
   have h2 := Nat.two_pow_pos n
   unfold lsR
   constructor
   · intro h
     split at h
     · exact ⟨σ, fun _ _ => rfl, by assumption⟩
     · simp at h
   · rintro ⟨τ, ha, h⟩
     have : F σ = true := by rw [← h]; exact hF _ _ fun v hv => (ha v (by omega)).symm
     rw [if_pos this]; simp
 | m + 1, σ, hm => by
   have hn : n - m = n - (m + 1) + 1 := by omega
   have i0 := lsR_sat hF m (upd σ (n - (m + 1)) false) (by omega)
   have i1 := lsR_sat hF m (upd σ (n - (m + 1)) true) (by omega)
   have o0 := lsR_or (n := n) F m (upd σ (n - (m + 1)) false) (by omega)
   have o1 := lsR_or (n := n) F m (upd σ (n - (m + 1)) true) (by omega)
   have hp : 2 ^ (m + 1) ≤ 2 ^ n := Nat.pow_le_pow_right (by omega) hm
   have hp2 : 2 ^ (m + 1) = 2 ^ m + 2 ^ m := by rw [Nat.pow_succ]; omega
   have e : lsR n (m + 1) F σ < 2 ^ (m + 1) ↔ lsR n m F (upd σ (n - (m + 1)) false) < 2 ^ m ∨ lsR n m F (upd σ (n - (m + 1)) true) < 2 ^ m := by
    have hls : lsR n (m + 1) F σ = min (lsR n m F (upd σ (n - (m + 1)) false)) (2 ^ m + lsR n m F (upd σ (n - (m + 1)) true)) := by rw [lsR]
    rw [hls]
    have := Nat.two_pow_pos m
    omega
   rw [e, i0, i1]
   constructor
   · rintro (⟨τ, ha, h⟩ | ⟨τ, ha, h⟩)
     all_goals
      refine ⟨τ, fun v hv => ?_, h⟩
      rw [ha v (by omega), upd_ne (by omega)]
   · rintro ⟨τ, ha, h⟩
     cases q : τ (n - (m + 1)) with
     | false =>
       refine .inl ⟨τ, fun v hv => ?_, h⟩
       by_cases ev : v = n - (m + 1)
       · rw [ev, upd_at, q]
       · rw [upd_ne ev]; exact ha v (by omega)
     | true =>
       refine .inr ⟨τ, fun v hv => ?_, h⟩
       by_cases ev : v = n - (m + 1)
       · rw [ev, upd_at, q]
       · rw [upd_ne ev]; exact ha v (by omega)
theorem lsR_dig {n : Nat} {F : (Nat → Bool) → Bool} (hF : Dep n F) : ∀ (m : Nat) (σ : Nat → Bool), m ≤ n → (∀ v, v < n - m → σ v = fstD (tab n F) v) → lsR n m F σ < 2 ^ m → ∀ j, n - m ≤ j → j < n → (lsR n m F σ).testBit (n - 1 - j) = fstD (tab n F) j
 | 0, σ, _, _, _, j, h1, h2 => by omega
 | m + 1, σ, hm, hσ, hlt, j, h1, h2 => by
   obtain ⟨i, hi⟩ : ∃ i, n - (m + 1) = i := ⟨_, rfl⟩
   have hn : n - m = i + 1 := by omega
   have i0 := lsR_sat hF m (upd σ i false) (by omega)
   have o0 := lsR_or (n := n) F m (upd σ i false) (by omega)
   have o1 := lsR_or (n := n) F m (upd σ i true) (by omega)
   have hp : 2 ^ (m + 1) ≤ 2 ^ n := Nat.pow_le_pow_right (by omega) hm
   have hp2 : 2 ^ (m + 1) = 2 ^ m + 2 ^ m := by rw [Nat.pow_succ]; omega
   have hpos := Nat.two_pow_pos m
   have hd := fstD_iff hF (show i < n by omega)
   have hsat : (∃ τ, (∀ v, v < n - m → τ v = upd σ i false v) ∧ F τ = true) ↔ ¬ fstD (tab n F) i = true := by
    rw [hd]
    constructor
    · rintro ⟨τ, ha, h⟩ hall
      have := hall τ
      rw [hF (pre i (fstD (tab n F)) (upd τ i false)) τ fun v hv => by
       unfold pre
       by_cases e : v < i
       · rw [if_pos e, ha v (by omega), upd_ne (by omega), hσ v (by omega)]
       · rw [if_neg e]
         by_cases e2 : v = i
         · rw [e2, upd_at, ha i (by omega), upd_at]
         · rw [upd_ne e2], h] at this
      cases this
    · intro hnall
      refine Classical.byContradiction fun hne => hnall fun τ => ?_
      cases q : F (pre i (fstD (tab n F)) (upd τ i false)) with
      | false => rfl
      | true =>
        refine absurd ⟨_, fun v hv => ?_, q⟩ hne
        unfold pre
        by_cases e : v < i
        · rw [if_pos e, upd_ne (by omega), hσ v (by omega)]
        · have : v = i := by omega
          rw [if_neg e, this, upd_at, upd_at]
   have hls : lsR n (m + 1) F σ = min (lsR n m F (upd σ i false)) (2 ^ m + lsR n m F (upd σ i true)) := by
    rw [lsR, hi]
   have hpre : ∀ b, fstD (tab n F) i = b → ∀ v, v < n - m → upd σ i b v = fstD (tab n F) v := fun b hb v hv => by
    by_cases e : v = i
    · rw [e, upd_at, hb]
    · rw [upd_ne e]; exact hσ v (by omega)
   have hni : n - 1 - i = m := by omega
   cases hdi : fstD (tab n F) i with
   | false =>
     have hlt0 : lsR n m F (upd σ i false) < 2 ^ m := i0.2 (hsat.2 (by rw [hdi]; simp))
     have e : lsR n (m + 1) F σ = lsR n m F (upd σ i false) := by rw [hls]; omega
     rw [e]
     by_cases ej : j = i
     · subst ej
       rw [hni, hdi, Nat.testBit_lt_two_pow hlt0]
     · exact lsR_dig hF m _ (by omega) (hpre false hdi) hlt0 j (by omega) h2
   | true =>
     have hlt0 : ¬ lsR n m F (upd σ i false) < 2 ^ m := fun q => hsat.1 (i0.1 q) hdi
     have e1 : lsR n m F (upd σ i true) < 2 ^ m := by omega
     have e : lsR n (m + 1) F σ = 2 ^ m + lsR n m F (upd σ i true) := by rw [hls]; omega
     have hb := Nat.testBit_two_pow_mul_add 1 e1 (n - 1 - j)
     rw [Nat.mul_one] at hb
     rw [e, hb]
     by_cases ej : j = i
     · subst ej
       rw [hni, hdi, if_neg (by omega), Nat.sub_self]; rfl
     · rw [if_pos (by omega)]
       exact lsR_dig hF m _ (by omega) (hpre true hdi) e1 j (by omega) h2
theorem first_tab {n : Nat} {F : (Nat → Bool) → Bool} (hF : Dep n F) (hc : cntL (tab n F) ≠ 0) : firstL n (lsR n n F zs) = fstL n (tab n F) := by
 have hs : lsR n n F zs < 2 ^ n := (lsR_sat hF n zs (Nat.le_refl _)).2 (by
  refine Classical.byContradiction fun hne => hc ((cntL_zero hF).2 fun τ => ?_)
  cases q : F τ with
  | false => rfl
  | true => exact absurd ⟨τ, fun v hv => by omega, q⟩ hne)
 unfold firstL fstL
 refine List.map_congr_left fun j hj => ?_
 exact lsR_dig hF n zs (Nat.le_refl _) (fun v hv => by omega) hs j (by omega) (List.mem_range.1 hj)
end Go.Proofs.YtaakjjefnjbabaaGreat.Sx
namespace Go.Proofs.YtaakjjefnjbabaaGreat.Sx
open Go.RowKit Go.Sort Go.Maps Go.WideMaps
structure OpR where
 kind : Int
 a : Int
 b : Int
 c : Int
 vars : List Int
 vals : List Bool
def I64 (x : Int) : Prop := -9223372036854775808 ≤ x ∧ x < 9223372036854775808
structure OpOK (o : OpR) : Prop where
 k : I64 o.kind
 a : I64 o.a
 b : I64 o.b
 c : I64 o.c
 vs : ∀ x ∈ o.vars, I64 x
 vl : o.vars.length ≤ 1099511627776
 al : o.vals.length ≤ 1099511627776
def BW (w : World) (v : Value) (l : List Bool) : Prop := ∃ a c, v = .slice a l.length c ∧ ∀ (i : Nat) x, l[i]? = some x → ∃ q, a = some q ∧ w.cell? (q.add i) = some (.bool x)
def NilOK (v : Value) : Prop := ∀ k c, v = .slice none k c → k = 0 ∧ c = 0
def OpV (w : World) (v : Value) (o : OpR) : Prop := ∃ va vb, v = .agg #[.int .i64 o.kind, .int .i64 o.a, .int .i64 o.b, .int .i64 o.c, va, vb] ∧ (IW w va o.vars ∧ NilOK va) ∧ BW w vb o.vals
def BVz (L : Ly) (w : World) (v : Value) (l : List Bool) : Prop := ∃ a cap, v = .slice a l.length cap ∧ ∀ (i : Nat) x, l[i]? = some x → ∃ q, a = some q ∧ w.cell? (q.add i) = some (.bool x) ∧ (∃ cs fz, w.heap[q.block]? = some (.cells cs 4 fz)) ∧ L.own q.block = 0
section
variable {L L' : Ly} {w w' : World} {v vx r : Value} {l x : List Bool} {lo : Nat} {R : List (List Bool)} {P : Nat → Prop}
theorem BVz.bv (h : BVz L w v l) : BV w v l := by
 obtain ⟨a, c, e, h⟩ := h
 exact ⟨a, c, e, fun i x hx => by obtain ⟨q, e1, h1, h2, _⟩ := h i x hx; exact ⟨q, e1, h1, h2⟩⟩
theorem BVz.frT (h : BVz L w v l) (f : FrT L L' w w') : BVz L' w' v l := by
 obtain ⟨a, c, e, h⟩ := h
 refine ⟨a, c, e, fun i x hx => ?_⟩
 obtain ⟨q, e1, h1, ⟨cs, fz, h2⟩, h3⟩ := h i x hx
 have hb := block_lt h2
 have hk := f.block _ hb h3
 exact ⟨q, e1, (World.cell?_of_block (w := w) (by rw [add_block]; exact hk)).trans h1, ⟨cs, fz, hk.trans h2⟩, (f.own _ hb).trans h3⟩
theorem BVz.frg (h : BVz L w v l) (f : Fr P w w') (hp : ∀ b, b < w.heap.size → (∃ cs fz, w.heap[b]? = some (.cells cs 4 fz)) → P b) : BVz L w' v l := by
 obtain ⟨a, c, e, h⟩ := h
 refine ⟨a, c, e, fun i x hx => ?_⟩
 obtain ⟨q, e1, h1, ⟨cs, fz, h2⟩, h3⟩ := h i x hx
 have hb := block_lt h2
 have hk := f.block _ hb (hp _ hb ⟨cs, fz, h2⟩)
 exact ⟨q, e1, (World.cell?_of_block (w := w) (by rw [add_block]; exact hk)).trans h1, ⟨cs, fz, hk.trans h2⟩, h3⟩
theorem BV.z (h : BV w' r l) (hn : New w r) (hi : ∀ b, w.heap.size ≤ b → L.own b = 0) : BVz L w' r l := by
 obtain ⟨g, k, c, rfl, hg⟩ := hn
 obtain ⟨a, cap, e, h⟩ := h
 injection e with e1 e2 e3
 subst e1 e2 e3
 refine ⟨_, _, rfl, fun i x hx => ?_⟩
 obtain ⟨q, e1, h1, h2⟩ := h i x hx
 cases e1
 exact ⟨_, rfl, h1, h2, hi g hg⟩
def RowZ (lo : Nat) (L : Ly) (w : World) (v : Value) (R : List (List Bool)) : Prop := ∃ vs, vs.length = R.length ∧ w.ownsRow lo 28 1 v R.length vs ∧ (∀ (i : Nat) vx x, vs[i]? = some vx → R[i]? = some x → BVz L w vx x) ∧ ∀ k, v.ownBlock = some k → L.own k = 0
theorem own_frT {b n : Nat} {e : TypeId} {xs : List Value} (h : w.ownsRow b e 1 v n xs) (ho : ∀ k, v.ownBlock = some k → L.own k = 0) (f : FrT L L' w w') : w'.ownsRow b e 1 v n xs ∧ ∀ k, v.ownBlock = some k → L'.own k = 0 :=
 ⟨own_fr h f.fr fun k hk => ho k hk, fun k hk => (f.own k (h.lt k hk).2).trans (ho k hk)⟩
theorem RowZ.frT (h : RowZ lo L w v R) (f : FrT L L' w w') : RowZ lo L' w' v R := by
 obtain ⟨vs, h1, h2, h3, h4⟩ := h
 obtain ⟨a, b⟩ := own_frT h2 h4 f
 exact ⟨vs, h1, a, fun i vx x q1 q2 => (h3 i vx x q1 q2).frT f, b⟩
theorem RowZ.frg (h : RowZ lo L w v R) (f : Fr P w w') (ho : ∀ k, v.ownBlock = some k → P k) (hp : ∀ b, b < w.heap.size → (∃ cs fz, w.heap[b]? = some (.cells cs 4 fz)) → P b) : RowZ lo L w' v R := by
 obtain ⟨vs, h1, h2, h3, h4⟩ := h
 exact ⟨vs, h1, own_fr h2 f ho, fun i vx x q1 q2 => (h3 i vx x q1 q2).frg f hp, h4⟩
theorem RowZ.s (h : RowZ lo L w v R) : RowS lo w v R := by
 obtain ⟨vs, h1, h2, h3, _⟩ := h
 exact ⟨vs, h1, h2, fun i vx x q1 q2 => (h3 i vx x q1 q2).bv⟩
theorem RowZ.at (h : RowZ lo L w v R) {i : Nat} {x : List Bool} (hx : R[i]? = some x) : ∃ g c vx, v = .slice (some ⟨g, 0, none⟩) R.length c ∧ w.cell? ⟨g, i, none⟩ = some vx ∧ BVz L w vx x := by
 obtain ⟨vs, h1, h2, h3, _⟩ := h
 have hl := lt_of_at hx
 rcases h2.2 with ⟨_, h0⟩ | ⟨g, cap, cur, rfl, hb, hg, q⟩
 · omega
 · obtain ⟨vx, hv⟩ : ∃ vx, vs[i]? = some vx := ⟨_, List.getElem?_eq_getElem (by omega)⟩
   have := h2.cells rfl i vx hv
   rw [add0] at this
   exact ⟨g, cap, vx, rfl, this, h3 i vx x hv hx⟩
end
def IntZ (lo : Nat) (L : Ly) (w : World) (e : TypeId) (v : Value) (n : Nat) (xs : List Value) : Prop := w.ownsRow lo e 1 v n xs ∧ ∀ k, v.ownBlock = some k → L.own k = 0
structure LM (lo wb tb : Nat) (W : World) (L : Ly) (n : Nat) (T : Tb) (nodes : List Nat) (fs given : List (List Bool)) (ord : List Nat) (nv fv ov gv : Value) : Prop where
 low : ∀ b, b < lo → L.own b = 0
 tat : TAt W tb L T
 wlo : lo ≤ wb
 wown : L.own wb = 0
 blk : W.heap[wb]? = some (.cells #[.pointer (some ⟨tb, 0, none⟩), .int .i64 (n : Int), nv, fv, ov, gv] 39 (0, 0))
 nod : IntZ lo L W 32 nv nodes.length (i64C nodes)
 fun_ : RowZ lo L W fv fs
 ordr : IntZ lo L W 3 ov ord.length (i64C ord)
 giv : RowZ lo L W gv given
 dis : fv.ownBlock = none ∨ fv.ownBlock ≠ gv.ownBlock
section
variable {lo wb tb n : Nat} {W W' : World} {L L' : Ly} {T T' : Tb} {nodes : List Nat} {fs given : List (List Bool)} {ord : List Nat} {nv fv ov gv : Value}
theorem LM.frT (h : LM lo wb tb W L n T nodes fs given ord nv fv ov gv) (f : FrT L L' W W') (hT : TAt W' tb L' T') : LM lo wb tb W' L' n T' nodes fs given ord nv fv ov gv := by
 have hb := block_lt h.blk
 exact ⟨fun b hbl => (f.own b (by have := h.wlo; omega)).trans (h.low b hbl), hT, h.wlo, (f.own wb hb).trans h.wown, (f.block wb hb h.wown).trans h.blk, own_frT h.nod.1 h.nod.2 f, h.fun_.frT f, own_frT h.ordr.1 h.ordr.2 f, h.giv.frT f, h.dis⟩
theorem LM.grew (h : LM lo wb tb W L n T nodes fs given ord nv fv ov gv) (f : Fr (fun _ => True) W W') : LM lo wb tb W' L n T nodes fs given ord nv fv ov gv :=
 h.frT (FrT.of f fun _ _ _ => trivial) (h.tat.grew f)
theorem LM.c (h : LM lo wb tb W L n T nodes fs given ord nv fv ov gv) : W.cell? ⟨wb, 0, none⟩ = some (.pointer (some ⟨tb, 0, none⟩)) ∧ W.cell? ⟨wb, 1, none⟩ = some (.int .i64 (n : Int)) ∧ W.cell? ⟨wb, 2, none⟩ = some nv ∧ W.cell? ⟨wb, 3, none⟩ = some fv ∧ W.cell? ⟨wb, 4, none⟩ = some ov ∧ W.cell? ⟨wb, 5, none⟩ = some gv :=
 ⟨block_cell h.blk 0, block_cell h.blk 1, block_cell h.blk 2, block_cell h.blk 3, block_cell h.blk 4, block_cell h.blk 5⟩
theorem LM.z (h : LM lo wb tb W L n T nodes fs given ord nv fv ov gv) (i : Nat) : W.frozen? ⟨wb, i, none⟩ = false := frozen_block h.blk i
theorem LM.node (h : LM lo wb tb W L n T nodes fs given ord nv fv ov gv) {i x : Nat} (hx : nodes[i]? = some x) : ∃ g c, nv = .slice (some ⟨g, 0, none⟩) nodes.length c ∧ W.cell? ⟨g, i, none⟩ = some (.int .i64 (x : Int)) := by
 have hl := lt_of_at hx
 rcases h.nod.1.2 with ⟨_, h0⟩ | ⟨g, cap, cur, e, hb, hg, q⟩
 · omega
 · have h1 := h.nod.1
   rw [e] at h1
   have := h1.cells rfl i (.int .i64 (x : Int)) (by unfold i64C; rw [List.getElem?_map, hx]; rfl)
   rw [add0] at this
   exact ⟨g, cap, e, this⟩
end
end Go.Proofs.YtaakjjefnjbabaaGreat.Sx
