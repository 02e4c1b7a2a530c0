/- Turning (plain): what is so while two variables change places; new nodes then. -/
import Derived.Test.YtaakjjefnjbabaaGreatQ15
set_option maxRecDepth 100000
namespace Go.Proofs.YtaakjjefnjbabaaGreat.Sx
theorem upd_at (σ : Nat → Bool) (v : Nat) (b : Bool) : upd σ v b v = b := by unfold upd; rw [if_pos rfl]
theorem upd_ne {σ : Nat → Bool} {v x : Nat} {b : Bool} (h : x ≠ v) : upd σ v b x = σ x := by unfold upd; rw [if_neg h]
def Ind (F : (Nat → Bool) → Bool) (v : Nat) : Prop := ∀ b σ, F (upd σ v b) = F σ
section
variable {n : Nat} {ρ p : Nat → Nat} {T T' : Tb} {x y : Nat}
theorem Inv.ind (h : Inv n ρ p T) (hb : ∀ x, Live T x → ρ x ≤ n) {S : Nat → Prop} {v : Nat} (hS : ∀ x, S x → 2 ≤ x → Live T x → (ky T x).1 ≠ (v : Int) ∧ S (ky T x).2.1 ∧ S (ky T x).2.2) (b : Bool) : ∀ (m x : Nat), Live T x → n ≤ ρ x + m → S x → ∀ σ, vl n T x (upd σ v b) = vl n T x σ
 | m, x, hl, hm, hs, σ => by
   by_cases h2 : 2 ≤ x
   · obtain ⟨a1, a2, a3, l4, l5, r6, r7⟩ := h.nk h2 hl
     obtain ⟨e, s1, s2⟩ := hS x hs h2 hl
     rw [vl_ky h hb _ h2 hl, vl_ky h hb σ h2 hl, upd_ne (by omega)]
     have := hb _ l4
     match m, hm with
     | 0, hm => omega
     | m + 1, hm =>
       split
       · exact h.ind hb hS b m _ l5 (by omega) s2 σ
       · exact h.ind hb hS b m _ l4 (by omega) s1 σ
   · match x, h2 with
     | 0, _ => rw [vl_zero, vl_zero]
     | 1, _ => rw [vl_one, vl_one]
     | x + 2, h2 => omega
def hasP (T : Tb) (x v : Nat) : Prop := (ky T (ky T x).2.1).1 = (v : Int) ∨ (ky T (ky T x).2.2).1 = (v : Int)
end
structure Trn (n : Nat) (lv : Nat → Nat) (u l k : Nat) (p : Nat → Nat) (T : Tb) : Prop where
 lvo : Lv n lv
 kn : k + 1 < n
 lu : lv u = k
 ll : lv l = k + 1
 un : u < n
 ln : l < n
 inv : Inv n (rt lv u l k T) p T
 uu : ∀ x, (ky T x).1 = (u : Int) → ¬ hasP T x u
 lll : ∀ x, (ky T x).1 = (l : Int) → ¬ hasP T x l
 inj : ∀ x y, Live T x → Live T y → vl n T x = vl n T y → x = y
section
variable {n : Nat} {lv : Nat → Nat} {u l k : Nat} {p : Nat → Nat} {T T' : Tb} {x y v : Nat}
theorem Trn.ul (h : Trn n lv u l k p T) : u ≠ l := fun e => by have h1 := h.lu; have h2 := h.ll; rw [e] at h1; omega
theorem Trn.rle (h : Trn n lv u l k p T) : ∀ x, Live T x → rt lv u l k T x ≤ n := fun _ hx => rt_le h.lvo h.inv h.kn hx
theorem rt_u (e : (ky T x).1 = (u : Int)) : (hasP T x l → rt lv u l k T x = k) ∧ (¬ hasP T x l → rt lv u l k T x = k + 1) := by
 unfold rt hasP
 rw [if_pos e]
 exact ⟨fun q => if_pos q, fun q => if_neg q⟩
theorem Trn.rtl (h : Trn n lv u l k p T) (e : (ky T x).1 = (l : Int)) : (hasP T x u → rt lv u l k T x = k) ∧ (¬ hasP T x u → rt lv u l k T x = k + 1) := by
 have := h.ul
 unfold rt hasP
 rw [if_neg (by omega), if_pos e]
 exact ⟨fun q => if_pos q, fun q => if_neg q⟩
theorem Trn.hi (h : Trn n lv u l k p T) (hk : k + 1 < rt lv u l k T x) : (ky T x).1 ≠ (u : Int) ∧ (ky T x).1 ≠ (l : Int) := by
 constructor
 · intro e
   obtain ⟨a, b⟩ := rt_u (lv := lv) (l := l) (k := k) e
   by_cases q : hasP T x l
   · have := a q; omega
   · have := b q; omega
 · intro e
   obtain ⟨a, b⟩ := h.rtl e
   by_cases q : hasP T x u
   · have := a q; omega
   · have := b q; omega
theorem Trn.els (h : Trn n lv u l k p T) (hx : Live T x) (e1 : (ky T x).1 ≠ (u : Int)) (e2 : (ky T x).1 ≠ (l : Int)) : rt lv u l k T x = lv (ky T x).1.toNat ∧ rt lv u l k T x ≠ k ∧ rt lv u l k T x ≠ k + 1 := by
 have e : rt lv u l k T x = lv (ky T x).1.toNat := by unfold rt; rw [if_neg e1, if_neg e2]
 have hab : -1 ≤ (ky T x).1 ∧ (ky T x).1 ≤ (n : Int) := by
  obtain ⟨r, hr, hd⟩ := hx
  rw [ky_at hr]; exact h.inv.ab hr
 have hne := live_ky.1 hx
 have hlu := h.lu
 have hll := h.ll
 have hun := h.un
 have hln := h.ln
 have hkn := h.kn
 rw [e]
 refine ⟨rfl, fun q => ?_, fun q => ?_⟩
 · by_cases en : (ky T x).1.toNat = n
   · rw [en, h.lvo.top] at q; omega
   · have := h.lvo.inj _ _ (by omega) hun (q.trans hlu.symm); omega
 · by_cases en : (ky T x).1.toNat = n
   · rw [en, h.lvo.top] at q; omega
   · have := h.lvo.inj _ _ (by omega) hln (q.trans hll.symm); omega
theorem Trn.indA (h : Trn n lv u l k p T) (hu : v ≠ u) (hl : v ≠ l) (hx : Live T x) (hv : lv v < rt lv u l k T x) : Ind (vl n T x) v := fun b σ => by
 refine h.inv.ind h.rle (S := fun y => lv v < rt lv u l k T y) (fun y hy h2 ly => ?_) b n x hx (by omega) hv σ
 obtain ⟨_, _, _, _, _, r6, r7⟩ := h.inv.nk h2 ly
 refine ⟨fun e => ?_, by omega, by omega⟩
 have := (h.els ly (by omega) (by omega)).1
 rw [e, Int.toNat_natCast] at this
 omega
theorem Trn.indB (h : Trn n lv u l k p T) (hv : v = u ∨ v = l) (hx : Live T x) (hk : k + 1 < rt lv u l k T x) : Ind (vl n T x) v := fun b σ => by
 refine h.inv.ind h.rle (S := fun y => k + 1 < rt lv u l k T y) (fun y hy h2 ly => ?_) b n x hx (by omega) hk σ
 obtain ⟨_, _, _, _, _, r6, r7⟩ := h.inv.nk h2 ly
 obtain ⟨e1, e2⟩ := h.hi hy
 exact ⟨by rcases hv with rfl | rfl <;> assumption, by omega, by omega⟩
theorem Trn.indU (h : Trn n lv u l k p T) (hx : Live T x) (e : (ky T x).1 = (u : Int)) (hn : ¬ hasP T x l) : Ind (vl n T x) l := fun b σ => by
 have hr := (rt_u (lv := lv) (l := l) (k := k) e).2 hn
 have hul := h.ul
 refine h.inv.ind h.rle (S := fun y => k + 1 < rt lv u l k T y ∨ y = x) (fun y hy h2 ly => ?_) b n x hx (by omega) (.inr rfl) σ
 obtain ⟨_, _, _, _, _, r6, r7⟩ := h.inv.nk h2 ly
 rcases hy with hy | rfl
 · exact ⟨(h.hi hy).2, .inl (by omega), .inl (by omega)⟩
 · exact ⟨by omega, .inl (by omega), .inl (by omega)⟩
theorem Trn.indL (h : Trn n lv u l k p T) (hx : Live T x) (e : (ky T x).1 = (l : Int)) (hn : ¬ hasP T x u) : Ind (vl n T x) u := fun b σ => by
 have hr := (h.rtl e).2 hn
 have hul := h.ul
 refine h.inv.ind h.rle (S := fun y => k + 1 < rt lv u l k T y ∨ y = x) (fun y hy h2 ly => ?_) b n x hx (by omega) (.inr rfl) σ
 obtain ⟨_, _, _, _, _, r6, r7⟩ := h.inv.nk h2 ly
 rcases hy with hy | rfl
 · exact ⟨(h.hi hy).1, .inl (by omega), .inl (by omega)⟩
 · exact ⟨by omega, .inl (by omega), .inl (by omega)⟩
theorem Trn.partU (h : Trn n lv u l k p T) (e : (ky T x).1 = (u : Int)) (ly : Live T y) (hy : y = (ky T x).2.1 ∨ y = (ky T x).2.2) (hr : rt lv u l k T x < rt lv u l k T y) : (ky T y).1 = (l : Int) ∧ rt lv u l k T y = k + 1 ∧ ¬ hasP T y u ∧ hasP T x l ∨ (ky T y).1 ≠ (u : Int) ∧ (ky T y).1 ≠ (l : Int) ∧ k + 1 < rt lv u l k T y := by
 have hu := h.uu x e
 have nu : (ky T y).1 ≠ (u : Int) := fun q => hu (by unfold hasP; rcases hy with rfl | rfl; exact .inl q; exact .inr q)
 obtain ⟨a, b⟩ := rt_u (lv := lv) (l := l) (k := k) e
 by_cases el : (ky T y).1 = (l : Int)
 · have hp : hasP T x l := by unfold hasP; rcases hy with rfl | rfl; exact .inl el; exact .inr el
   obtain ⟨c, d⟩ := h.rtl el
   have := a hp
   by_cases q : hasP T y u
   · have := c q; omega
   · exact .inl ⟨el, d q, q, hp⟩
 · obtain ⟨_, q1, q2⟩ := h.els ly nu el
   refine .inr ⟨nu, el, ?_⟩
   by_cases q : hasP T x l
   · have := a q; omega
   · have := b q; omega
theorem Trn.partL (h : Trn n lv u l k p T) (e : (ky T x).1 = (l : Int)) (ly : Live T y) (hy : y = (ky T x).2.1 ∨ y = (ky T x).2.2) (hr : rt lv u l k T x < rt lv u l k T y) : (ky T y).1 = (u : Int) ∧ rt lv u l k T y = k + 1 ∧ ¬ hasP T y l ∧ hasP T x u ∨ (ky T y).1 ≠ (u : Int) ∧ (ky T y).1 ≠ (l : Int) ∧ k + 1 < rt lv u l k T y := by
 have hu := h.lll x e
 have nu : (ky T y).1 ≠ (l : Int) := fun q => hu (by unfold hasP; rcases hy with rfl | rfl; exact .inl q; exact .inr q)
 obtain ⟨a, b⟩ := h.rtl e
 by_cases el : (ky T y).1 = (u : Int)
 · have hp : hasP T x u := by unfold hasP; rcases hy with rfl | rfl; exact .inl el; exact .inr el
   obtain ⟨c, d⟩ := rt_u (lv := lv) (l := l) (k := k) el
   have := a hp
   by_cases q : hasP T y l
   · have := c q; omega
   · exact .inl ⟨el, d q, q, hp⟩
 · obtain ⟨_, q1, q2⟩ := h.els ly el nu
   refine .inr ⟨el, nu, ?_⟩
   by_cases q : hasP T x u
   · have := a q; omega
   · have := b q; omega
theorem Trn.indP (h : Trn n lv u l k p T) (h2 : 2 ≤ x) (hx : Live T x) (hv : (ky T x).1 = (v : Int)) (hy : y = (ky T x).2.1 ∨ y = (ky T x).2.2) : Live T y ∧ Ind (vl n T y) v := by
 obtain ⟨a1, a2, _, l4, l5, r6, r7⟩ := h.inv.nk h2 hx
 have ly : Live T y := by rcases hy with rfl | rfl <;> assumption
 have hr : rt lv u l k T x < rt lv u l k T y := by rcases hy with rfl | rfl <;> assumption
 refine ⟨ly, ?_⟩
 by_cases e1 : v = u
 · subst e1
   rcases h.partU hv ly hy hr with ⟨q1, q2, q3, _⟩ | ⟨_, _, q⟩
   · exact h.indL ly q1 q3
   · exact h.indB (.inl rfl) ly q
 by_cases e2 : v = l
 · subst e2
   rcases h.partL hv ly hy hr with ⟨q1, q2, q3, _⟩ | ⟨_, _, q⟩
   · exact h.indU ly q1 q3
   · exact h.indB (.inr rfl) ly q
 refine h.indA e1 e2 ly ?_
 have := (h.els hx (by omega) (by omega)).1
 rw [hv, Int.toNat_natCast] at this
 omega
theorem Trn.cof (h : Trn n lv u l k p T) (h2 : 2 ≤ x) (hx : Live T x) (hv : (ky T x).1 = (v : Int)) (σ : Nat → Bool) : vl n T (ky T x).2.1 σ = vl n T x (upd σ v false) ∧ vl n T (ky T x).2.2 σ = vl n T x (upd σ v true) := by
 rw [vl_ky h.inv h.rle _ h2 hx, vl_ky h.inv h.rle _ h2 hx, hv, Int.toNat_natCast, upd_at, upd_at]
 simp only [Bool.false_eq_true, if_false, if_true]
 exact ⟨((h.indP h2 hx hv (.inl rfl)).2 false σ).symm, ((h.indP h2 hx hv (.inr rfl)).2 true σ).symm⟩
theorem Trn.dep (h : Trn n lv u l k p T) (h2 : 2 ≤ x) (hx : Live T x) (hv : (ky T x).1 = (v : Int)) : ¬ Ind (vl n T x) v := fun hi => by
 obtain ⟨_, _, a3, l4, l5, _⟩ := h.inv.nk h2 hx
 refine a3 (h.inj _ _ l4 l5 (funext fun σ => ?_))
 rw [(h.cof h2 hx hv σ).1, (h.cof h2 hx hv σ).2, hi, hi]
theorem Trn.none (h : Trn n lv u l k p T) {lo hh : Nat} (ll : Live T lo) (lh : Live T hh) (hne : lo ≠ hh) (k1 : k + 1 < rt lv u l k T lo) (k2 : k + 1 < rt lv u l k T hh) (hk : ∀ q ∈ T.made, q.1 ≠ ((u : Int), lo, hh)) (ly : Live T y) (hy : ∀ σ, vl n T y σ = if σ u then vl n T hh σ else vl n T lo σ) : False := by
 have il := h.indB (.inl rfl) ll k1
 have ih := h.indB (.inl rfl) lh k2
 have hdep : ¬ Ind (vl n T y) u := fun hi => hne (h.inj _ _ ll lh (funext fun σ => by
  have h1 := hy (upd σ u false)
  have h2 := hy (upd σ u true)
  rw [upd_at] at h1 h2
  simp only [Bool.false_eq_true, if_false, if_true] at h1 h2
  rw [hi, il] at h1
  rw [hi, ih] at h2
  rw [← h1, ← h2]))
 have h2 : 2 ≤ y := by
  match y, hdep with
  | 0, q => exact absurd (fun b σ => by rw [vl_zero, vl_zero]) q
  | 1, q => exact absurd (fun b σ => by rw [vl_one, vl_one]) q
  | y + 2, _ => omega
 obtain ⟨a1, a2, a3, l4, l5, r6, r7⟩ := h.inv.nk h2 ly
 obtain ⟨v, hv⟩ : ∃ v : Nat, (ky T y).1 = (v : Int) := ⟨(ky T y).1.toNat, by omega⟩
 by_cases e : v = u
 · subst e
   have e1 : (ky T y).2.1 = lo := h.inj _ _ l4 ll (funext fun σ => by
    rw [(h.cof h2 ly hv σ).1, hy, upd_at]; simp only [Bool.false_eq_true, if_false]; exact il false σ)
   have e2 : (ky T y).2.2 = hh := h.inj _ _ l5 lh (funext fun σ => by
    rw [(h.cof h2 ly hv σ).2, hy, upd_at]; simp only [if_true]; exact ih true σ)
   obtain ⟨r, hr, hd⟩ := ly
   have hm := (h.inv.made (keyR r) y).2 ⟨h2, r, hr, hd, rfl⟩
   refine hk _ hm ?_
   rw [← ky_at hr]
   exact Prod.ext hv (Prod.ext e1 e2)
 · have hrk : rt lv u l k T y ≤ k + 1 := Nat.le_of_not_lt fun q => hdep (h.indB (.inl rfl) ly q)
   have hind : ∀ z, Live T z → k + 1 < rt lv u l k T z → Ind (vl n T z) v := fun z lz hz => by
    by_cases el : v = l
    · exact h.indB (.inr el) lz hz
    · refine h.indA e el lz ?_
      have := (h.els ly (by omega) (by omega)).1
      rw [hv, Int.toNat_natCast] at this
      omega
   refine h.dep h2 ly hv fun b σ => ?_
   rw [hy, hy, upd_ne (Ne.symm e), hind _ lh k2, hind _ ll k1]
theorem Trn.node (h : Trn n lv u l k z0 T) {lo hh : Nat} (ll : Live T lo) (lh : Live T hh) (k1 : k + 1 < rt lv u l k T lo) (k2 : k + 1 < rt lv u l k T hh) : ∃ T' x, NodeR T u lo hh T' x ∧ NodeQ n lv u l k T u lo hh T' x ∧ Trn n lv u l k z0 T' ∧ ¬ hasP T' x l ∧ (∀ σ, vl n T' x σ = if σ u then vl n T hh σ else vl n T lo σ) := by
 obtain ⟨e1, e2⟩ := h.hi k1
 obtain ⟨e3, e4⟩ := h.hi k2
 obtain ⟨T', x, hR, hQ⟩ := node_q h.un h.ln h.inv ll lh k1 k2 e1 e2 e4
 have hm := hQ.more
 have hrt : ∀ y, Live T y → rt lv u l k T' y = rt lv u l k T y := fun y hy => rt_more h.un h.ln h.inv hm hy
 have hxn : ∀ y, Live T' y → ¬ Live T y → y = x ∧ ky T' x = ((u : Int), lo, hh) ∧ lo ≠ hh := fun y hy hn => by
  rcases hQ.frm y hy with q | ⟨q1, q2, q3⟩
  · exact absurd q hn
  · subst q1; exact ⟨rfl, q2, q3⟩
 have hpart : ∀ y v, Live T y → ((ky T y).1 = (u : Int) ∨ (ky T y).1 = (l : Int)) → (hasP T' y v ↔ hasP T y v) := fun y v hy e => by
  have h2 : 2 ≤ y := e.elim (h.inv.k2 h.un) (h.inv.k2 h.ln)
  obtain ⟨_, _, _, l4, l5, _⟩ := h.inv.nk h2 hy
  unfold hasP
  rw [hm.ky hy, hm.ky l4, hm.ky l5]
 have hnew : ∀ v, (v = u ∨ v = l) → ky T' x = ((u : Int), lo, hh) → ¬ hasP T' x v := fun v hv e q => by
  unfold hasP at q
  rw [e] at q
  simp only at q
  rw [hm.ky ll, hm.ky lh] at q
  rcases hv with rfl | rfl
  · exact q.elim e1 e3
  · exact q.elim e2 e4
 have hval : ∀ σ, vl n T' x σ = if σ u then vl n T hh σ else vl n T lo σ := fun σ => by
  have e0 := vl_pr hQ.inv (fun y hy => rt_le h.lvo hQ.inv h.kn hy) σ hQ.live h.un
  rw [hQ.pr] at e0
  rw [e0]
  split
  · exact congrFun (vl_more h.inv hm lh) σ
  · exact congrFun (vl_more h.inv hm ll) σ
 have hTrn : Trn n lv u l k z0 T' := by
  refine ⟨h.lvo, h.kn, h.lu, h.ll, h.un, h.ln, hQ.inv, fun y e => ?_, fun y e => ?_, fun a b la lb e => ?_⟩
  · by_cases hy : Live T y
    · rw [hm.ky hy] at e
      rw [hpart y u hy (.inl e)]
      exact h.uu y e
    · obtain ⟨rfl, q, _⟩ := hxn y (ky_live e) hy
      exact hnew u (.inl rfl) q
  · by_cases hy : Live T y
    · rw [hm.ky hy] at e
      rw [hpart y l hy (.inr e)]
      exact h.lll y e
    · obtain ⟨rfl, q, _⟩ := hxn y (ky_live e) hy
      exact hnew l (.inr rfl) q
  · have hno : ∀ c, Live T c → ¬ Live T x → lo ≠ hh → vl n T' x = vl n T' c → False := fun c hc hx hne e => by
     rw [vl_more h.inv hm hc] at e
     refine h.none ll lh hne k1 k2 ?_ hc fun σ => (congrFun e σ).symm.trans (hval σ)
     rcases hR with ⟨q, _⟩ | ⟨_, q, q2⟩ | ⟨_, q, _⟩
     · exact absurd q hne
     · rw [← q2] at hx; exact absurd hQ.live hx
     · exact q
    by_cases ha : Live T a
    · by_cases hb : Live T b
      · rw [vl_more h.inv hm ha, vl_more h.inv hm hb] at e
        exact h.inj a b ha hb e
      · obtain ⟨rfl, _, hne⟩ := hxn b lb hb
        exact (hno a ha hb hne e.symm).elim
    · obtain ⟨rfl, _, hne⟩ := hxn a la ha
      by_cases hb : Live T b
      · exact (hno b hb ha hne e).elim
      · exact ((hxn b lb hb).1).symm
 refine ⟨T', x, hR, hQ, hTrn, ?_, hval⟩
 by_cases e : (ky T' x).1 = (u : Int)
 · refine hnew l (.inr rfl) ?_
   have := hQ.pr
   unfold pr at this
   rw [if_pos e] at this
   exact Prod.ext e this
 · have := hQ.pr
   unfold pr at this
   rw [if_neg e] at this
   obtain rfl : x = lo := congrArg Prod.fst this
   intro q
   unfold hasP at q
   by_cases h2 : 2 ≤ x
   · obtain ⟨_, _, _, l4, l5, r6, r7⟩ := h.inv.nk h2 ll
     rw [hm.ky ll, hm.ky l4, hm.ky l5] at q
     rcases q with q | q
     · exact (h.hi (by omega)).2 q
     · exact (h.hi (by omega)).2 q
   · have key : ∀ z, z < 2 → (ky T' (ky T' z).2.1).1 = (n : Int) ∧ (ky T' (ky T' z).2.2).1 = (n : Int) := fun z hz => by
      have k0 := hQ.inv.k0
      obtain ⟨u0, e0⟩ := hQ.inv.e0
      obtain ⟨u1, e1⟩ := hQ.inv.e1
      match z, hz with
      | 0, _ => rw [ky_at e0]; exact ⟨k0, k0⟩
      | 1, _ => rw [ky_at e1]; exact ⟨k0, k0⟩
     have hl := h.ln
     obtain ⟨c1, c2⟩ := key x (by omega)
     omega
theorem Trn.less {p' : Nat → Nat} (h : Trn n lv u l k p T) (hi : Inv n (rt lv u l k T) p' T') (m : Less T T') : Trn n lv u l k p' T' := by
 have hm := m
 have hi2 : Inv n (rt lv u l k T') p' T' := hi.rho fun y hy => rt_less h.un h.ln hi hm hy
 have hpart : ∀ y v, Live T' y → ((ky T y).1 = (u : Int) ∨ (ky T y).1 = (l : Int)) → (hasP T' y v ↔ hasP T y v) := fun y v hy e => by
  have h2 : 2 ≤ y := e.elim (h.inv.k2 h.un) (h.inv.k2 h.ln)
  obtain ⟨_, _, _, l4, l5, _⟩ := hi.nk h2 hy
  unfold hasP
  rw [hm.ky l4, hm.ky l5, hm.ky hy]
 refine ⟨h.lvo, h.kn, h.lu, h.ll, h.un, h.ln, hi2, fun y e => ?_, fun y e => ?_, fun a b la lb e => ?_⟩
 · have hy : Live T' y := ky_live e
   rw [hm.ky hy] at e
   rw [hpart y u hy (.inl e)]
   exact h.uu y e
 · have hy : Live T' y := ky_live e
   rw [hm.ky hy] at e
   rw [hpart y l hy (.inr e)]
   exact h.lll y e
 · rw [vl_less hi hm la, vl_less hi hm lb] at e
   exact h.inj a b (hm.live la) (hm.live lb) e
end
end Go.Proofs.YtaakjjefnjbabaaGreat.Sx
namespace Go.Proofs.YtaakjjefnjbabaaGreat.Sx
def relay (T : Tb) (f : Nat) (r : Rw) (ab : Int) (a b : Nat) : Tb := { T with rows := layM T.rows f ab a b, made := T.made.filter (fun p => decide (p.1 ≠ keyR r)) ++ [((ab, a, b), f)] }
section
variable {n : Nat} {ρ ρ' p : Nat → Nat} {T : Tb} {f : Nat} {r : Rw}
structure Relay (T : Tb) (f : Nat) (r : Rw) (ab : Int) (a b : Nat) : Prop where
 own : (relay T f r ab a b).rows[f]? = some { r with about := ab, low := a, high := b }
 get : ∀ x, x ≠ f → (relay T f r ab a b).rows[x]? = T.rows[x]?.map fun z => { z with users := z.users + i1 a x + i1 b x }
 len : (relay T f r ab a b).rows.length = T.rows.length
theorem relay_rows (hr : T.rows[f]? = some r) {ab : Int} {a b : Nat} (hab : a ≠ b) (haf : a ≠ f) (hbf : b ≠ f) : Relay T f r ab a b := by
 refine ⟨?_, fun x hx => ?_, by show (layM _ _ _ _ _).length = _; unfold layM; simp⟩
 · show (((T.rows.modify f (askR ab a b)).modify a moreR).modify b moreR)[f]? = _
   rw [get_modify, if_neg hbf, get_modify, if_neg haf, get_modify, if_pos rfl, hr]; rfl
 · show (((T.rows.modify f (askR ab a b)).modify a moreR).modify b moreR)[x]? = _
   rw [get_modify, get_modify, get_modify, if_neg (Ne.symm hx)]
   cases q : T.rows[x]? with
   | none => simp
   | some r =>
     unfold i1
     by_cases q1 : a = x
     · have q2 : b ≠ x := fun e => hab (q1.trans e.symm)
       simp [q1, q2, moreR]
     · by_cases q2 : b = x
       · simp [q1, q2, moreR]
       · simp [q1, q2]
theorem Relay.live {ab : Int} {a b : Nat} (h : Relay T f r ab a b) (hab : ab ≠ -1) {x : Nat} : Live (relay T f r ab a b) x ↔ x = f ∨ Live T x := by
 by_cases e : x = f
 · subst e
   exact ⟨fun _ => .inl rfl, fun _ => ⟨_, h.own, hab⟩⟩
 · unfold Live
   rw [h.get x e]
   constructor
   · rintro ⟨z, hz, hd⟩
     cases q : T.rows[x]? with
     | none => rw [q] at hz; cases hz
     | some s => rw [q] at hz; cases hz; exact .inr ⟨s, rfl, hd⟩
   · rintro (q | ⟨z, hz, hd⟩)
     · exact absurd q e
     · exact ⟨{ z with users := z.users + i1 a x + i1 b x }, by rw [hz]; rfl, hd⟩
theorem Relay.kn {ab : Int} {a b : Nat} (h : Relay T f r ab a b) {x : Nat} (hx : x ≠ f) : ky (relay T f r ab a b) x = ky T x := by
 unfold Sx.ky
 rw [h.get x hx]
 cases T.rows[x]? <;> rfl
theorem Relay.kf {ab : Int} {a b : Nat} (h : Relay T f r ab a b) : ky (relay T f r ab a b) f = (ab, a, b) := by
 rw [ky_at h.own]; rfl
theorem Inv.relay (h : Inv n ρ z0 T) (hr : T.rows[f]? = some r) (h2 : 2 ≤ f) (hd : r.about ≠ -1) {ab : Int} {a b : Nat} (a0 : 0 ≤ ab) (a1 : ab < (n : Int)) (la : Live T a) (lb : Live T b) (hab : a ≠ b) (haf : a ≠ f) (hbf : b ≠ f) (hk : ∀ q ∈ T.made, q.1 ≠ (ab, a, b)) (hρ : ∀ x, x ≠ f → Live T x → ρ' x = ρ x) (hf : ρ' f < ρ a ∧ ρ' f < ρ b) (hup : ρ f ≤ ρ' f) :
 Inv n ρ' (bump (bump z0 r.high) r.low) (relay T f r ab a b) := by
 have R := relay_rows (ab := ab) hr hab haf hbf
 have hlive : ∀ x, Live T x → Live (Sx.relay T f r ab a b) x := fun x hx => (R.live (by omega)).2 (.inr hx)
 obtain ⟨d1, d2, d3, d4, d5, d6, d7⟩ := h.nd f r h2 hr hd
 have hfrom : ∀ (x : Nat) (z : Rw), x ≠ f → (Sx.relay T f r ab a b).rows[x]? = some z → ∃ q : Rw, T.rows[x]? = some q ∧ z = { q with users := q.users + i1 a x + i1 b x } := fun x z hx hz => by
  rw [R.get x hx] at hz
  cases q : T.rows[x]? with
  | none => rw [q] at hz; cases hz
  | some r => rw [q] at hz; exact ⟨r, rfl, (Option.some.inj hz).symm⟩
 have hle : ∀ x, Live T x → ρ x ≤ ρ' x := fun x hx => by
  by_cases e : x = f
  · subst e; exact hup
  · rw [hρ x e hx]; exact Nat.le_refl _
 have hlnk : ∀ g, lnk n (Sx.relay T f r ab a b).rows g + lw n g r = lnk n T.rows g + (i1 a g + i1 b g) := fun g => by
  have e1 : lnk n (Sx.relay T f r ab a b).rows g = lnk n (T.rows.modify f (askR ab a b)) g := by
   show Sx.lnk n (layM _ _ _ _ _) g = _
   unfold layM
   rw [lnk_more, lnk_more]
  rw [e1, lnk_modify (n := n) (askR ab a b) g hr]
  have : lw n g (askR ab a b r) = i1 a g + i1 b g := by unfold lw askR; rw [if_pos ⟨a0, a1⟩]; rfl
  omega
 have hlw : ∀ g, lw n g r = i1 r.low g + i1 r.high g := fun g => by unfold lw; rw [if_pos ⟨d1, d2⟩]; rfl
 have hbm : ∀ g, bump (bump z0 r.high) r.low g = i1 r.low g + i1 r.high g := fun g => by unfold bump z0 i1; omega
 have hfl := lt_of_at hr
 refine ⟨h.on, ?_, ?_, fun x z hx hz hl => ?_, fun k x => ?_, ?_, fun x => ?_, h.fn, fun x z hz => ?_, fun x z hz hl => ?_, fun x z hz => ?_⟩
 · obtain ⟨u, e⟩ := h.e0; exact ⟨u + i1 a 0 + i1 b 0, by rw [R.get 0 (by omega), e]; rfl⟩
 · obtain ⟨u, e⟩ := h.e1; exact ⟨u + i1 a 1 + i1 b 1, by rw [R.get 1 (by omega), e]; rfl⟩
 · by_cases e : x = f
   · subst e
     rw [R.own] at hz; cases hz
     refine ⟨a0, a1, hab, hlive _ la, hlive _ lb, ?_, ?_⟩
     · show ρ' x < ρ' a; rw [hρ a haf la]; exact hf.1
     · show ρ' x < ρ' b; rw [hρ b hbf lb]; exact hf.2
   · obtain ⟨q, hq, rfl⟩ := hfrom x z e hz
     obtain ⟨b1, b2, b3, b4, b5, b6, b7⟩ := h.nd x q hx hq hl
     have := hle _ b4
     have := hle _ b5
     rw [hρ x e ⟨q, hq, hl⟩]
     exact ⟨b1, b2, b3, hlive _ b4, hlive _ b5, by show ρ x < ρ' q.low; omega, by show ρ x < ρ' q.high; omega⟩
 · show (k, x) ∈ T.made.filter _ ++ [((ab, a, b), f)] ↔ _
   rw [List.mem_append, List.mem_filter, List.mem_singleton]
   constructor
   · rintro (⟨hm, hkk⟩ | e)
     · have hkk : k ≠ keyR r := by simpa using hkk
       obtain ⟨hx, q, hq, hl, e⟩ := (h.made k x).1 hm
       have hne : x ≠ f := fun e2 => hkk (by rw [e2, hr] at hq; cases hq; exact e)
       exact ⟨hx, { q with users := q.users + i1 a x + i1 b x }, by rw [R.get x hne, hq]; rfl, hl, e⟩
     · cases e
       exact ⟨h2, _, R.own, by show ab ≠ -1; omega, rfl⟩
   · rintro ⟨hx, z, hz, hl, e⟩
     by_cases e2 : x = f
     · subst e2
       rw [R.own] at hz; cases hz
       right; rw [e]; rfl
     · obtain ⟨q, hq, rfl⟩ := hfrom x z e2 hz
       left
       have hm := (h.made k x).2 ⟨hx, q, hq, hl, e⟩
       refine ⟨hm, ?_⟩
       simp only [decide_eq_true_eq]
       intro e3
       have hm2 := (h.made (keyR r) f).2 ⟨h2, r, hr, hd, rfl⟩
       exact e2 (nodup_fst h.mn hm (e3 ▸ hm2 : (k, f) ∈ T.made))
 · exact nodup_push (nodup_filter h.mn) fun q hq => hk q (List.mem_filter.1 hq).1
 · show x ∈ T.free ↔ _
   rw [h.free x]
   constructor
   · rintro ⟨q, hq, hl⟩
     have hne : x ≠ f := fun e => by rw [e, hr] at hq; cases hq; exact hd hl
     exact ⟨{ q with users := q.users + i1 a x + i1 b x }, by rw [R.get x hne, hq]; rfl, hl⟩
   · rintro ⟨z, hz, hl⟩
     by_cases e : x = f
     · subst e; rw [R.own] at hz; cases hz; exact absurd hl (by show ab ≠ -1; omega)
     · obtain ⟨q, hq, rfl⟩ := hfrom x z e hz
       exact ⟨q, hq, hl⟩
 · have h3 := hlnk x
   rw [hlw x] at h3
   rw [hbm x]
   by_cases e : x = f
   · subst e
     rw [R.own] at hz; cases hz
     have h4 := h.us x r hr
     have h5 : r.users = lnk n T.rows x + 0 := h4
     have e1 : i1 a x = 0 := if_neg haf
     have e2 : i1 b x = 0 := if_neg hbf
     show r.users = _
     omega
   · obtain ⟨q, hq, rfl⟩ := hfrom x z e hz
     have h5 : q.users = lnk n T.rows x + 0 := h.us x q hq
     show q.users + i1 a x + i1 b x = _
     omega
 · by_cases e : x = f
   · subst e; rw [R.own] at hz; cases hz; exact absurd hl (by show ab ≠ -1; omega)
   · obtain ⟨q, hq, rfl⟩ := hfrom x z e hz
     have hn : ∀ c, Live T c → c ≠ x := fun c ⟨s, hs, hsd⟩ e2 => by
      rw [e2, hq] at hs; cases hs; exact hsd hl
     have e1 : i1 a x = 0 := if_neg (hn a la)
     have e2 : i1 b x = 0 := if_neg (hn b lb)
     obtain ⟨g1, g2⟩ := h.dg x q hq hl
     exact ⟨g1, by show q.users + i1 a x + i1 b x = 0; omega⟩
 · rw [R.len]
   by_cases e : x = f
   · subst e
     rw [R.own] at hz; cases hz
     exact ⟨la.lt, lb.lt⟩
   · obtain ⟨q, hq, rfl⟩ := hfrom x z e hz
     exact h.lh x q hq
theorem leave_plain {g : Nat} (hn : n ≤ 24) (h : Inv n ρ (bump p g) T) (hg : Live T g) (hb : ∀ x, Live T x → ρ x ≤ n) (hl : T.rows.length ≤ 549755813888) (hu : ∀ r ∈ T.rows, Sm r.users) : ∃ T', Leaves (n + 1) T g T' ∧ Inv n ρ p T' ∧ Less T T' ∧ ∀ S : Nat → Prop, NG S T → NG S T' := by
 obtain ⟨l, hr, hd⟩ := hg
 obtain ⟨h1, h2⟩ := h.lightened hr
 have hgl := lt_of_at hr
 have L1 : Less T (lighten T g l) := Less.lighten hr
 have hg2 : (lighten T g l).rows[g]? = some (lessR l) := by show (T.rows.set g _)[g]? = _; rw [List.getElem?_set_self hgl]
 have hlv : Live (lighten T g l) g := ⟨_, hg2, hd⟩
 obtain ⟨T', hD, hP⟩ := drop_plain hn n n (lighten T g l) g p h2 hlv (fun x hx => hb x (L1.live hx)) (by omega) (by rw [L1.len]; exact hl) (L1.smU hu)
 refine ⟨T', ⟨l, hr, h1, h.okR2 hn (by unfold Sm; omega) hu hr, hD⟩, hP.inv, L1.trans hP.less, fun S hS => (hP.ng (fun x => S x ∨ x = g) fun x z hx hz hzd hns => ?_).mono fun x q => q.1.resolve_right q.2⟩
 have hz : (T.rows.set g (lessR l))[x]? = some z := hz
 rw [List.getElem?_set_ne (fun e => hns (.inr e.symm))] at hz
 exact hS x z hx hz hzd fun q => hns (.inl q)
theorem Inv.held {g : Nat} (h : Inv n ρ p T) (hp : 0 < p g) (hg : g < T.rows.length) : Live T g := by
 refine ⟨T.rows[g], List.getElem?_eq_getElem hg, fun e => ?_⟩
 have h1 := (h.dg g _ (List.getElem?_eq_getElem hg) e).2
 have h2 := h.us g _ (List.getElem?_eq_getElem hg)
 omega
end
end Go.Proofs.YtaakjjefnjbabaaGreat.Sx
