/- Tables (plain): nodes are functions; the same function is the same node. -/
import Derived.Test.YtaakjjefnjbabaaGreatQ04
set_option maxRecDepth 100000
namespace Go.Proofs.YtaakjjefnjbabaaGreat.Sx
def ev : Nat → Tb → Nat → (Nat → Bool) → Bool
 | 0, _, f, _ => f == 1
 | k + 1, T, f, σ => if f = 0 then false else if f = 1 then true else match T.rows[f]? with
   | some r => ev k T (if σ r.about.toNat then r.high else r.low) σ
   | none => false
def vl (n : Nat) (T : Tb) (f : Nat) (σ : Nat → Bool) : Bool := ev (n + 1) T f σ
theorem ev_zero (k : Nat) (T : Tb) (σ : Nat → Bool) : ev k T 0 σ = false := by cases k <;> rfl
theorem ev_one (k : Nat) (T : Tb) (σ : Nat → Bool) : ev k T 1 σ = true := by cases k <;> rfl
theorem ev_node {k : Nat} {T : Tb} {f : Nat} {r : Rw} (σ : Nat → Bool) (h2 : 2 ≤ f) (hr : T.rows[f]? = some r) : ev (k + 1) T f σ = ev k T (if σ r.about.toNat then r.high else r.low) σ := by
 rw [ev, if_neg (by omega), if_neg (by omega), hr]
section
variable {n : Nat} {ρ p : Nat → Nat} {T T' : Tb}
theorem ev_stable (h : Inv n ρ p T) (hb : ∀ x, Live T x → ρ x ≤ n) (σ : Nat → Bool) : ∀ (k j f : Nat), Live T f → n < ρ f + k → n < ρ f + j → ev k T f σ = ev j T f σ
 | 0, j, f, hf, h1, h2 => by have := hb f hf; omega
 | k + 1, 0, f, hf, h1, h2 => by have := hb f hf; omega
 | k + 1, j + 1, f, hf, h1, h2 => by
   by_cases e0 : f = 0
   · subst e0; rw [ev_zero, ev_zero]
   by_cases e1 : f = 1
   · subst e1; rw [ev_one, ev_one]
   obtain ⟨r, hr, hd⟩ := hf
   have h2f : 2 ≤ f := by omega
   rw [ev_node σ h2f hr, ev_node σ h2f hr]
   obtain ⟨_, _, _, a4, a5, a6, a7⟩ := h.nd f r h2f hr hd
   split
   · exact ev_stable h hb σ k j _ a5 (by omega) (by omega)
   · exact ev_stable h hb σ k j _ a4 (by omega) (by omega)
theorem vl_zero (σ : Nat → Bool) : vl n T 0 σ = false := ev_zero _ _ _
theorem vl_one (σ : Nat → Bool) : vl n T 1 σ = true := ev_one _ _ _
theorem vl_node (h : Inv n ρ p T) (hb : ∀ x, Live T x → ρ x ≤ n) {f : Nat} {r : Rw} (σ : Nat → Bool) (h2 : 2 ≤ f) (hr : T.rows[f]? = some r) (hd : r.about ≠ -1) : vl n T f σ = vl n T (if σ r.about.toNat then r.high else r.low) σ := by
 unfold vl
 rw [ev_node σ h2 hr]
 obtain ⟨_, _, _, a4, a5, a6, a7⟩ := h.nd f r h2 hr hd
 have hl : Live T (if σ r.about.toNat then r.high else r.low) := by split <;> assumption
 refine ev_stable h hb σ _ _ _ hl ?_ (by omega)
 split <;> omega
theorem ev_more (h : Inv n ρ p T) (k : More T T') (σ : Nat → Bool) : ∀ (m f : Nat), Live T f → ev m T' f σ = ev m T f σ
 | 0, f, _ => rfl
 | m + 1, f, hf => by
   by_cases e0 : f = 0
   · subst e0; rw [ev_zero, ev_zero]
   by_cases e1 : f = 1
   · subst e1; rw [ev_one, ev_one]
   obtain ⟨r, hr, hd⟩ := hf
   have h2f : 2 ≤ f := by omega
   obtain ⟨r', g1, g2, g3, g4, _⟩ := k.keep f r hr hd
   obtain ⟨_, _, _, a4, a5, _⟩ := h.nd f r h2f hr hd
   rw [ev_node σ h2f hr, ev_node σ h2f g1, g2, g3, g4]
   split
   · exact ev_more h k σ m _ a5
   · exact ev_more h k σ m _ a4
theorem vl_more (h : Inv n ρ p T) (k : More T T') {f : Nat} (hf : Live T f) : vl n T' f = vl n T f := funext fun σ => ev_more h k σ _ f hf
theorem ev_less (h : Inv n ρ p T') (k : Less T T') (σ : Nat → Bool) : ∀ (m f : Nat), Live T' f → ev m T' f σ = ev m T f σ
 | 0, f, _ => rfl
 | m + 1, f, hf => by
   by_cases e0 : f = 0
   · subst e0; rw [ev_zero, ev_zero]
   by_cases e1 : f = 1
   · subst e1; rw [ev_one, ev_one]
   obtain ⟨r, hr, hd⟩ := hf
   have h2f : 2 ≤ f := by omega
   obtain ⟨r', g1, g2, g3, g4, _⟩ := k.keep f r hr hd
   obtain ⟨_, _, _, a4, a5, _⟩ := h.nd f r h2f hr hd
   rw [ev_node σ h2f hr, ev_node σ h2f g1, g2, g3, g4]
   split
   · exact ev_less h k σ m _ a5
   · exact ev_less h k σ m _ a4
theorem vl_less (h : Inv n ρ p T') (k : Less T T') {f : Nat} (hf : Live T' f) : vl n T' f = vl n T f := funext fun σ => ev_less h k σ _ f hf
structure Lv (n : Nat) (lv : Nat → Nat) : Prop where
 lt : ∀ v, v < n → lv v < n
 inj : ∀ v u, v < n → u < n → lv v = lv u → v = u
 top : lv n = n
theorem Lv.le {lv : Nat → Nat} (h : Lv n lv) {v : Nat} (hv : v ≤ n) : lv v ≤ n := by
 by_cases e : v = n
 · subst e; rw [h.top]; exact Nat.le_refl _
 · exact Nat.le_of_lt (h.lt v (by omega))
def rk (lv : Nat → Nat) (T : Tb) (f : Nat) : Nat := match T.rows[f]? with
 | some r => lv r.about.toNat
 | none => 0
theorem rk_at {lv : Nat → Nat} {f : Nat} {r : Rw} (hr : T.rows[f]? = some r) : rk lv T f = lv r.about.toNat := by unfold rk; rw [hr]
structure Tbl (n : Nat) (lv p : Nat → Nat) (T : Tb) : Prop where
 lvo : Lv n lv
 inv : Inv n (rk lv T) p T
section
variable {lv : Nat → Nat}
theorem Tbl.rle (h : Tbl n lv p T) : ∀ x, Live T x → rk lv T x ≤ n := fun x ⟨r, hr, hd⟩ => by
 rw [rk_at hr]
 have := h.inv.ab hr
 exact h.lvo.le (by omega)
theorem Tbl.r0 (h : Tbl n lv p T) : rk lv T 0 = n := by obtain ⟨u, e⟩ := h.inv.e0; rw [rk_at e]; show lv (n : Int).toNat = n; rw [Int.toNat_natCast, h.lvo.top]
theorem Tbl.r1 (h : Tbl n lv p T) : rk lv T 1 = n := by obtain ⟨u, e⟩ := h.inv.e1; rw [rk_at e]; show lv (n : Int).toNat = n; rw [Int.toNat_natCast, h.lvo.top]
theorem Tbl.node (h : Tbl n lv p T) {f : Nat} {r : Rw} (σ : Nat → Bool) (h2 : 2 ≤ f) (hr : T.rows[f]? = some r) (hd : r.about ≠ -1) : vl n T f σ = vl n T (if σ r.about.toNat then r.high else r.low) σ := vl_node h.inv h.rle σ h2 hr hd
def upd (σ : Nat → Bool) (v : Nat) (b : Bool) (x : Nat) : Bool := if x = v then b else σ x
theorem Tbl.indep (h : Tbl n lv p T) {v : Nat} (b : Bool) : ∀ (m f : Nat), Live T f → n ≤ rk lv T f + m → lv v < rk lv T f → ∀ σ, vl n T f (upd σ v b) = vl n T f σ
 | m, f, hf, hm, hv, σ => by
   by_cases e0 : f = 0
   · subst e0; rw [vl_zero, vl_zero]
   by_cases e1 : f = 1
   · subst e1; rw [vl_one, vl_one]
   obtain ⟨r, hr, hd⟩ := hf
   have h2f : 2 ≤ f := by omega
   obtain ⟨a1, a2, _, a4, a5, a6, a7⟩ := h.inv.nd f r h2f hr hd
   rw [h.node σ h2f hr hd, h.node _ h2f hr hd]
   have hk := rk_at (lv := lv) hr
   have hne : r.about.toNat ≠ v := fun e => by rw [hk, e] at hv; omega
   have e2 : upd σ v b r.about.toNat = σ r.about.toNat := by unfold upd; rw [if_neg hne]
   rw [e2]
   have h4 := h.rle _ a4
   match m, hm with
   | 0, hm => omega
   | m + 1, hm =>
     split
     · exact h.indep b m _ a5 (by omega) (by omega) σ
     · exact h.indep b m _ a4 (by omega) (by omega) σ
theorem Tbl.low (h : Tbl n lv p T) {f : Nat} {r : Rw} (h2 : 2 ≤ f) (hr : T.rows[f]? = some r) (hd : r.about ≠ -1) (σ : Nat → Bool) : vl n T r.low σ = vl n T f (upd σ r.about.toNat false) ∧ vl n T r.high σ = vl n T f (upd σ r.about.toNat true) := by
 obtain ⟨a1, a2, _, a4, a5, a6, a7⟩ := h.inv.nd f r h2 hr hd
 have hk := rk_at (lv := lv) hr
 rw [h.node _ h2 hr hd, h.node _ h2 hr hd]
 have e1 : upd σ r.about.toNat false r.about.toNat = false := by unfold upd; rw [if_pos rfl]
 have e2 : upd σ r.about.toNat true r.about.toNat = true := by unfold upd; rw [if_pos rfl]
 rw [e1, e2]
 simp only [Bool.false_eq_true, if_false, if_true]
 exact ⟨(h.indep false n _ a4 (by omega) (by omega) σ).symm, (h.indep true n _ a5 (by omega) (by omega) σ).symm⟩
theorem Tbl.last (h : Tbl n lv p T) {f : Nat} (hf : Live T f) (hr : rk lv T f = n) : f = 0 ∨ f = 1 := by
 obtain ⟨r, h1, hd⟩ := hf
 by_cases h2 : 2 ≤ f
 · obtain ⟨a1, a2, _⟩ := h.inv.nd f r h2 h1 hd
   rw [rk_at h1] at hr
   have := h.lvo.lt r.about.toNat (by omega)
   omega
 · omega
theorem Tbl.apart (h : Tbl n lv p T) {f g : Nat} (hf : Live T f) (hg : Live T g) (hlt : rk lv T f < rk lv T g) (ih : ∀ a b, Live T a → Live T b → rk lv T f < rk lv T a → rk lv T f < rk lv T b → vl n T a = vl n T b → a = b) : vl n T f ≠ vl n T g := by
 intro he
 have hgn := h.rle g hg
 have h2 : 2 ≤ f := by
  by_cases e0 : f = 0
  · subst e0; rw [h.r0] at hlt; omega
  by_cases e1 : f = 1
  · subst e1; rw [h.r1] at hlt; omega
  omega
 obtain ⟨r, hr, hd⟩ := hf
 obtain ⟨a1, a2, a3, a4, a5, a6, a7⟩ := h.inv.nd f r h2 hr hd
 have hk := rk_at (lv := lv) hr
 have hlow : vl n T r.low = vl n T g := funext fun σ => by
  rw [(h.low h2 hr hd σ).1, he]
  exact h.indep false n g hg (by omega) (by omega) σ
 have hhigh : vl n T r.high = vl n T g := funext fun σ => by
  rw [(h.low h2 hr hd σ).2, he]
  exact h.indep true n g hg (by omega) (by omega) σ
 exact a3 (ih _ _ a4 a5 a6 a7 (hlow.trans hhigh.symm))
theorem Tbl.canon (h : Tbl n lv p T) : ∀ (m f g : Nat), Live T f → Live T g → n ≤ rk lv T f + m → n ≤ rk lv T g + m → vl n T f = vl n T g → f = g
 | m, f, g, hf, hg, hm1, hm2, he => by
   have hfn := h.rle f hf
   have hgn := h.rle g hg
   rcases Nat.lt_trichotomy (rk lv T f) (rk lv T g) with hlt | heq | hlt
   · match m, hm1 with
     | 0, hm1 => omega
     | m + 1, hm1 => exact absurd he (h.apart hf hg hlt fun a b ha hb h1 h2 => h.canon m a b ha hb (by omega) (by omega))
   · by_cases hl : rk lv T f = n
     · have e0 : vl n T 0 ≠ vl n T 1 := fun e => by
        have := congrFun e (fun _ => false)
        rw [vl_zero, vl_one] at this
        cases this
       rcases h.last hf hl with rfl | rfl
       · rcases h.last hg (by omega) with rfl | rfl
         · rfl
         · exact absurd he e0
       · rcases h.last hg (by omega) with rfl | rfl
         · exact absurd he.symm e0
         · rfl
     · have two : ∀ x, rk lv T x < n → 2 ≤ x := fun x hx => by
        by_cases e0 : x = 0
        · subst e0; rw [h.r0] at hx; omega
        by_cases e1 : x = 1
        · subst e1; rw [h.r1] at hx; omega
        omega
       have h2f := two f (by omega)
       have h2g := two g (by omega)
       obtain ⟨r, hr, hd⟩ := hf
       obtain ⟨q, hq, hdq⟩ := hg
       obtain ⟨a1, a2, a3, a4, a5, a6, a7⟩ := h.inv.nd f r h2f hr hd
       obtain ⟨b1, b2, b3, b4, b5, b6, b7⟩ := h.inv.nd g q h2g hq hdq
       have hv : r.about = q.about := by
        rw [rk_at hr, rk_at hq] at heq
        have := h.lvo.inj _ _ (by omega) (by omega) heq
        omega
       match m, hm1 with
       | 0, hm1 => omega
       | m + 1, hm1 =>
         have e1 : r.low = q.low := h.canon m _ _ a4 b4 (by omega) (by omega) (funext fun σ => by rw [(h.low h2f hr hd σ).1, (h.low h2g hq hdq σ).1, he, hv])
         have e2 : r.high = q.high := h.canon m _ _ a5 b5 (by omega) (by omega) (funext fun σ => by rw [(h.low h2f hr hd σ).2, (h.low h2g hq hdq σ).2, he, hv])
         have m1 := (h.inv.made (keyR r) f).2 ⟨h2f, r, hr, hd, rfl⟩
         have m2 := (h.inv.made (keyR q) g).2 ⟨h2g, q, hq, hdq, rfl⟩
         have e3 : keyR r = keyR q := by unfold keyR; rw [hv, e1, e2]
         rw [e3] at m1
         exact nodup_fst h.inv.mn m1 m2
   · match m, hm1 with
     | 0, hm1 => omega
     | m + 1, hm1 => exact absurd he.symm (h.apart hg hf hlt fun a b ha hb h1 h2 => h.canon m a b ha hb (by omega) (by omega))
theorem Tbl.same (h : Tbl n lv p T) {f g : Nat} (hf : Live T f) (hg : Live T g) : vl n T f = vl n T g ↔ f = g := ⟨fun e => h.canon n f g hf hg (by omega) (by omega) e, fun e => by rw [e]⟩
end
end
end Go.Proofs.YtaakjjefnjbabaaGreat.Sx
namespace Go.Proofs.YtaakjjefnjbabaaGreat.Sx
def iteF (f g h : (Nat → Bool) → Bool) (σ : Nat → Bool) : Bool := if f σ then g σ else h σ
structure Mid (n : Nat) (lv : Nat → Nat) (M A : Nat) (T : Tb) : Prop where
 t : Tbl n lv z0 T
 n24 : n ≤ 24
 ll : T.lev.length = n + 1
 la : ∀ a, a ≤ n → T.lev[a]? = some (lv a)
 ng : NG (· ∈ T.fresh) T
 fnd : T.fresh.Nodup
 fl : ∀ x ∈ T.fresh, 2 ≤ x ∧ Live T x
 fo : ∀ (y : Nat) (r : Rw), 2 ≤ y → T.rows[y]? = some r → r.about ≠ -1 → ∀ j : Nat, (T.fresh[j]? = some r.low ∨ T.fresh[j]? = some r.high) → ∃ i : Nat, T.fresh[i]? = some y ∧ j < i
 fk : (T.found.map Prod.fst).Nodup
 fs : ∀ (a b c x : Nat), ((a, b, c), x) ∈ T.found → Live T a ∧ Live T b ∧ Live T c ∧ Live T x ∧ vl n T x = iteF (vl n T a) (vl n T b) (vl n T c) ∧ ∀ m, m ≤ rk lv T a → m ≤ rk lv T b → m ≤ rk lv T c → m ≤ rk lv T x
 rl : T.rows.length ≤ M
 rm : M ≤ 274877906944
 lc : T.rows.length ≤ T.free.length + A + T.fresh.length
section
variable {n : Nat} {lv : Nat → Nat} {M A : Nat} {T T' : Tb}
theorem rk_more (k : More T T') {f : Nat} (hf : Live T f) : rk lv T' f = rk lv T f := by
 obtain ⟨r, hr, hd⟩ := hf
 obtain ⟨q, h1, h2, _⟩ := k.keep f r hr hd
 rw [rk_at hr, rk_at h1, h2]
theorem Mid.users (h : Mid n lv M A T) : ∀ r ∈ T.rows, r.users ≤ 549755813888 := fun r hr => by
 obtain ⟨f, hf⟩ := List.getElem?_of_mem hr
 have h1 := h.t.inv.us f r hf
 have h2 := lnk_le (n := n) T.rows f
 have h3 := h.rl
 have h4 := h.rm
 unfold z0 at h1
 omega
def Giv (T : Tb) (x : Nat) : Prop := ∃ r, T.rows[x]? = some r ∧ r.about ≠ -1 ∧ r.given = true
theorem Giv.live {T : Tb} {x : Nat} (h : Giv T x) : Live T x := by obtain ⟨r, h1, h2, _⟩ := h; exact ⟨r, h1, h2⟩
structure NodeP (n : Nat) (lv : Nat → Nat) (M A : Nat) (T : Tb) (ab lo hh : Nat) (T' : Tb) (x : Nat) : Prop where
 mid : Mid n lv M A T'
 more : More T T'
 live : Live T' x
 val : ∀ σ, vl n T' x σ = if σ ab then vl n T hh σ else vl n T lo σ
 rank : lv ab ≤ rk lv T' x
 cost : T'.fresh.length ≤ T.fresh.length + 1
 fnd : T'.found = T.found
 gv : ∀ y, Giv T' y → Giv T y
theorem NodeP.same (h : Mid n lv M A T) {ab lo : Nat} (hl : Live T lo) (hr : lv ab < rk lv T lo) : NodeP n lv M A T ab lo lo T lo :=
 ⟨h, More.refl T, hl, fun σ => by split <;> rfl, by omega, by omega, rfl, fun _ h => h⟩
theorem NodeP.hit (h : Mid n lv M A T) {ab lo hh f : Nat} (hm : (((ab : Int), lo, hh), f) ∈ T.made) : NodeP n lv M A T ab lo hh T f := by
 obtain ⟨h2, r, hr, hd, e⟩ := (h.t.inv.made _ f).1 hm
 have e1 : r.about = (ab : Int) := by unfold keyR at e; exact (congrArg Prod.fst e).symm
 have e2 : r.low = lo := by unfold keyR at e; exact (congrArg (fun x => x.2.1) e).symm
 have e3 : r.high = hh := by unfold keyR at e; exact (congrArg (fun x => x.2.2) e).symm
 refine ⟨h, More.refl T, ⟨r, hr, hd⟩, fun σ => ?_, ?_, by omega, rfl, fun _ h => h⟩
 · rw [h.t.node σ h2 hr hd, e1, e2, e3, Int.toNat_natCast]
   split <;> rfl
 · rw [rk_at hr, e1, Int.toNat_natCast]; exact Nat.le_refl _
theorem NodeP.miss (h : Mid n lv M A T) {ab lo hh : Nat} (ha : ab < n) (hl : Live T lo) (hu : Live T hh) (hne : lo ≠ hh) (hk : ∀ q ∈ T.made, q.1 ≠ ((ab : Int), lo, hh)) (r1 : lv ab < rk lv T lo) (r2 : lv ab < rk lv T hh) (hroom : A + T.fresh.length < M) : NodeP n lv M A T ab lo hh (nodeP T ab lo hh) (numberP T).2 := by
 have W0 := h.t.inv.nodeNew (ab : Int) hl hu hne
 have hrk' : rk lv (nodeP T ab lo hh) (numberP T).2 = lv ab := by rw [rk_at W0.row, Int.toNat_natCast]
 have hrkf : ∀ x, Live T x → rk lv (nodeP T ab lo hh) x = rk lv T x := fun x ⟨q, hq, hd⟩ => by
  have hx : x ≠ (numberP T).2 := fun e => W0.num.dead (e ▸ ⟨q, hq, hd⟩)
  rw [rk_at hq, rk_at (by rw [W0.get x hx, hq]; rfl : (nodeP T ab lo hh).rows[x]? = some { q with users := q.users + i1 lo x + i1 hh x })]
 obtain ⟨I, MO, FR, FO, W⟩ := h.t.inv.node (ρ' := rk lv (nodeP T ab lo hh)) (by omega) (by omega : ((ab : Nat) : Int) < (n : Int)) hl hu hne hk hrkf (by rw [hrk']; exact ⟨r1, r2⟩)
 have N := W.num
 have tT : Tbl n lv z0 (nodeP T ab lo hh) := ⟨h.t.lvo, I⟩
 have hlx : Live (nodeP T ab lo hh) (numberP T).2 := ⟨_, W.row, by show (ab : Int) ≠ -1; omega⟩
 have hfrom : ∀ (x : Nat) (z : Rw), x ≠ (numberP T).2 → (nodeP T ab lo hh).rows[x]? = some z → ∃ q : Rw, T.rows[x]? = some q ∧ z = { q with users := q.users + i1 lo x + i1 hh x } := fun x z hx hz => by
  rw [W.get x hx] at hz
  cases q : T.rows[x]? with
  | none => rw [q] at hz; cases hz
  | some r => rw [q] at hz; exact ⟨r, rfl, (Option.some.inj hz).symm⟩
 have hnf : (numberP T).2 ∉ T.fresh := fun hm => N.dead (h.fl _ hm).2
 refine ⟨⟨tT, h.n24, ?_, ?_, ?_, ?_, ?_, ?_, ?_, ?_, ?_, h.rm, ?_⟩, MO, hlx, fun σ => ?_, by rw [hrk']; exact Nat.le_refl _, by rw [FR]; simp, FO, fun y ⟨z, hz, hd, hg⟩ => ?_⟩
 · show (numberP T).1.lev.length = _; rw [N.rest.2.1]; exact h.ll
 · show ∀ a, a ≤ n → (numberP T).1.lev[a]? = _; rw [N.rest.2.1]; exact h.la
 · intro x z hx hz hd hns
   rw [FR] at hns
   have hx2 : x ≠ (numberP T).2 := fun e => hns (by rw [e]; simp)
   obtain ⟨q, hq, rfl⟩ := hfrom x z hx2 hz
   rcases h.ng x q hx hq hd (fun hm => hns (by simp [hm])) with e | e
   · exact .inl e
   · exact .inr (by show 0 < q.users + i1 lo x + i1 hh x; omega)
 · rw [FR]
   refine List.nodup_append.2 ⟨h.fnd, by simp, fun a ha b hb => ?_⟩
   rw [List.mem_singleton.1 hb]
   exact fun e => hnf (e ▸ ha)
 · intro x hx
   rw [FR] at hx
   rcases List.mem_append.1 hx with hx | hx
   · exact ⟨(h.fl x hx).1, MO.live (h.fl x hx).2⟩
   · rw [List.mem_singleton.1 hx]; exact ⟨N.two, hlx⟩
 · intro y z hy hz hd j hj
   rw [FR] at hj ⊢
   by_cases e : y = (numberP T).2
   · subst e
     refine ⟨T.fresh.length, by simp, ?_⟩
     rw [W.row] at hz; cases hz
     have hjl : j < (T.fresh ++ [(numberP T).2]).length := by rcases hj with q | q <;> exact lt_of_at q
     by_cases hjj : j < T.fresh.length
     · exact hjj
     · have hje : j = T.fresh.length := by simp at hjl; omega
       subst hje
       rcases hj with q | q
       · simp only [List.getElem?_concat_length, Option.some.injEq] at q
         exact absurd (q ▸ hl) N.dead
       · simp only [List.getElem?_concat_length, Option.some.injEq] at q
         exact absurd (q ▸ hu) N.dead
   · obtain ⟨q, hq, rfl⟩ := hfrom y z e hz
     obtain ⟨_, _, _, a4, a5, _⟩ := h.t.inv.nd y q hy hq hd
     have hjl : j < T.fresh.length := by
      have hjl : j < (T.fresh ++ [(numberP T).2]).length := by rcases hj with q | q <;> exact lt_of_at q
      by_cases hjj : j < T.fresh.length
      · exact hjj
      · have hje : j = T.fresh.length := by simp at hjl; omega
        subst hje
        rcases hj with q | q
        · simp only [List.getElem?_concat_length, Option.some.injEq] at q
          exact absurd (q ▸ a4) N.dead
        · simp only [List.getElem?_concat_length, Option.some.injEq] at q
          exact absurd (q ▸ a5) N.dead
     rw [List.getElem?_append_left hjl] at hj
     obtain ⟨i, hi, hji⟩ := h.fo y q hy hq hd j hj
     exact ⟨i, by rw [List.getElem?_append_left (lt_of_at hi)]; exact hi, hji⟩
 · rw [FO]; exact h.fk
 · intro a b c x hm
   rw [FO] at hm
   obtain ⟨l1, l2, l3, l4, l5, l6⟩ := h.fs a b c x hm
   refine ⟨MO.live l1, MO.live l2, MO.live l3, MO.live l4, ?_, fun m m1 m2 m3 => ?_⟩
   · rw [vl_more h.t.inv MO l1, vl_more h.t.inv MO l2, vl_more h.t.inv MO l3, vl_more h.t.inv MO l4]; exact l5
   · rw [hrkf _ l1] at m1
     rw [hrkf _ l2] at m2
     rw [hrkf _ l3] at m3
     rw [hrkf _ l4]; exact l6 m m1 m2 m3
 · rw [W.len]
   by_cases hf : T.free = []
   · have := h.lc
     rw [hf] at this
     have := N.len.2.1
     simp at *
     omega
   · have e : (numberP T).1.rows = T.rows := by
      unfold numberP
      cases q : T.free.getLast? with
      | some f => rfl
      | none => exact absurd (List.getLast?_eq_none_iff.1 q) hf
     rw [e]; exact h.rl
 · rw [W.len, FR]
   show (numberP T).1.rows.length ≤ (numberP T).1.free.length + A + (T.fresh ++ [(numberP T).2]).length
   have := h.lc
   by_cases hf : T.free = []
   · have h1 := N.len.2.1
     rw [hf] at this
     simp at *
     omega
   · have e : (numberP T).1.rows = T.rows ∧ (numberP T).1.free.length + 1 = T.free.length := by
      unfold numberP
      cases q : T.free.getLast? with
      | some f =>
        refine ⟨rfl, ?_⟩
        show T.free.dropLast.length + 1 = _
        have := List.length_pos_iff.2 hf
        rw [List.length_dropLast]; omega
      | none => exact absurd (List.getLast?_eq_none_iff.1 q) hf
     rw [e.1]
     have := e.2
     simp
     omega
 · rw [tT.node σ N.two W.row (by show (ab : Int) ≠ -1; omega)]
   simp only [Int.toNat_natCast]
   split
   · rw [vl_more h.t.inv MO hu]
   · rw [vl_more h.t.inv MO hl]
 · by_cases e : y = (numberP T).2
   · subst e; rw [W.row] at hz; cases hz; cases hg
   · obtain ⟨q, hq, rfl⟩ := hfrom y z e hz
     exact ⟨q, hq, hd, hg⟩
end
end Go.Proofs.YtaakjjefnjbabaaGreat.Sx
namespace Go.Proofs.YtaakjjefnjbabaaGreat.Sx
open Go.RowKit Go.Sort Go.Maps Go.WideMaps
def Post (w : World) (tb : Nat) (L : Ly) (x : Nat) (T' : Tb) (e : Ending) (w' : World) : Prop := e = .returned (.int .i64 (x : Int)) ∧ ∃ L', TAt w' tb L' T' ∧ FrT L L' w w'
theorem node_any {w : World} {tb : Nat} {L : Ly} {T : Tb} {n : Nat} {lv : Nat → Nat} {M A : Nat} (h : TAt w tb L T) (hm : Mid n lv M A T) {ab lo hh : Nat} (ha : ab < n) (hl : Live T lo) (hu : Live T hh) (r1 : lv ab < rk lv T lo) (r2 : lv ab < rk lv T hh) (hroom : A + T.fresh.length < M) :
 Calls Tryz.prog 64 #[.pointer (some ⟨tb, 0, none⟩), .int .i64 (ab : Int), .int .i64 (lo : Int), .int .i64 (hh : Int)] w fun e w' => ∃ x T', NodeP n lv M A T ab lo hh T' x ∧ Post w tb L x T' e w' := by
 have hrm := hm.rm
 have hrl := hm.rl
 have h24 := hm.n24
 have hlo := hl.lt
 have hhi := hu.lt
 by_cases hne : lo = hh
 · subst hne
   refine (node_same (w := w) (tb := tb) (ab : Int) lo).mono ?_
   rintro e w' ⟨rfl, hf⟩
   exact ⟨lo, T, NodeP.same hm hl r1, rfl, L, h.grew hf, FrT.of hf fun _ _ _ => trivial⟩
 by_cases hk : ∃ q ∈ T.made, q.1 = ((ab : Int), lo, hh)
 · obtain ⟨⟨k, f⟩, hq, rfl⟩ := hk
   refine (node_hit h (ab : Int) lo hh f ⟨by omega, by omega⟩ (by unfold Sm; omega) (by unfold Sm; omega) hne hq fun p hp e => ?_).mono ?_
   · obtain ⟨k2, f2⟩ := p
     exact nodup_fst hm.t.inv.mn (show (_, f2) ∈ T.made from by rw [← show k2 = ((ab : Int), lo, hh) from e]; exact hp) hq
   · rintro e w' ⟨rfl, hf⟩
     exact ⟨f, T, NodeP.hit hm hq, rfl, L, h.grew hf, FrT.of hf fun _ _ _ => trivial⟩
 · have hk2 : ∀ q ∈ T.made, q.1 ≠ ((ab : Int), lo, hh) := fun q hq e => hk ⟨q, hq, e⟩
   have hfr : T.fresh.length ≤ T.rows.length := nodup_len _ _ hm.fnd fun x hx => (hm.fl x hx).2.lt
   refine (node_miss h (ab : Int) lo hh ⟨by omega, by omega⟩ hne hk2 (by unfold Sm; omega) (by unfold Sm; omega) hlo hhi (fun x hx => ?_) hm.users).mono ?_
   · obtain ⟨q, hq, _⟩ := (hm.t.inv.free x).1 hx
     exact lt_of_at hq
   · rintro e w' ⟨rfl, L', hT, hf⟩
     exact ⟨_, _, NodeP.miss hm ha hl hu hne hk2 r1 r2 hroom, rfl, L', hT, hf⟩
structure IteP (n : Nat) (lv : Nat → Nat) (M A m : Nat) (T : Tb) (f g h : Nat) (T' : Tb) (x : Nat) : Prop where
 mid : Mid n lv M A T'
 more : More T T'
 live : Live T' x
 val : vl n T' x = iteF (vl n T f) (vl n T g) (vl n T h)
 rank : ∀ k, k ≤ rk lv T f → k ≤ rk lv T g → k ≤ rk lv T h → k ≤ rk lv T' x
 cost : T'.fresh.length + 1 ≤ T.fresh.length + 2 ^ m
 fnew : ∀ a b c y, ((a, b, c), y) ∈ T'.found → ((a, b, c), y) ∈ T.found ∨ ∀ k, k ≤ rk lv T f → k ≤ rk lv T g → k ≤ rk lv T h → k ≤ rk lv T' a ∧ k ≤ rk lv T' b ∧ k ≤ rk lv T' c
 gv : ∀ y, Giv T' y → Giv T y
def iteT (f g h : Nat) : Option Nat := if f = 1 then some g else if f = 0 then some h else if g = h then some g else if g = 1 ∧ h = 0 then some f else none
set_option maxHeartbeats 1000000 in
theorem ite_triv (w : World) (p : Value) (f g h x : Nat) (hx : iteT f g h = some x) :
 Calls Tryz.prog 65 #[p, .int .i64 (f : Int), .int .i64 (g : Int), .int .i64 (h : Int)] w fun e w' => e = .returned (.int .i64 (x : Int)) ∧ w' = w := by
 have mo := follows
 unfold iteT at hx
 by_cases h1 : f = 1
 · subst h1
   obtain rfl : g = x := by simpa using hx
   go_enter Tryz.func65, Tryz.ntmps65
   go_wp2_with fail
   go_ret
   exact ⟨rfl, rfl⟩
 have n1 : ((f : Int) == 1) = false := by simp; omega
 by_cases h2 : f = 0
 · subst h2
   obtain rfl : h = x := by simpa using hx
   go_enter Tryz.func65, Tryz.ntmps65
   go_wp2_with fail
   go_ret
   exact ⟨rfl, rfl⟩
 have n2 : ((f : Int) == 0) = false := by simp; omega
 by_cases h3 : g = h
 · subst h3
   obtain rfl : g = x := by simpa [h1, h2] using hx
   go_enter Tryz.func65, Tryz.ntmps65
   go_wp2_with fail
   go_ret
   exact ⟨rfl, rfl⟩
 have n3 : ((g : Int) == (h : Int)) = false := by simp; omega
 by_cases h4 : g = 1 ∧ h = 0
 · obtain ⟨rfl, rfl⟩ := h4
   obtain rfl : f = x := by simpa [h1, h2] using hx
   go_enter Tryz.func65, Tryz.ntmps65
   go_wp2_with fail
   go_ret
   exact ⟨rfl, rfl⟩
 · simp [h1, h2, h3, h4] at hx
theorem IteP.triv {n : Nat} {lv : Nat → Nat} {M A : Nat} {T : Tb} {f g h x : Nat} (m : Nat) (hm : Mid n lv M A T) (hf : Live T f) (hg : Live T g) (hh : Live T h) (hx : iteT f g h = some x) : IteP n lv M A m T f g h T x := by
 have hp : 0 < 2 ^ m := Nat.two_pow_pos m
 have key : Live T x ∧ vl n T x = iteF (vl n T f) (vl n T g) (vl n T h) ∧ (x = f ∨ x = g ∨ x = h) := by
  unfold iteT at hx
  split at hx
  · rename_i e; subst e; cases hx
    exact ⟨hg, funext fun σ => by unfold iteF; rw [vl_one]; rfl, .inr (.inl rfl)⟩
  split at hx
  · rename_i e; subst e; cases hx
    exact ⟨hh, funext fun σ => by unfold iteF; rw [vl_zero]; rfl, .inr (.inr rfl)⟩
  split at hx
  · rename_i e; subst e; cases hx
    exact ⟨hg, funext fun σ => by unfold iteF; split <;> rfl, .inr (.inl rfl)⟩
  split at hx
  · rename_i e; obtain ⟨rfl, rfl⟩ := e; cases hx
    exact ⟨hf, funext fun σ => by unfold iteF; rw [vl_one, vl_zero]; cases vl n T f σ <;> rfl, .inl rfl⟩
  · cases hx
 exact ⟨hm, More.refl T, key.1, key.2.1, fun k k1 k2 k3 => by rcases key.2.2 with e | e | e <;> rw [e] <;> assumption, by omega, fun _ _ _ _ h => .inl h, fun _ h => h⟩
theorem IteP.found {n : Nat} {lv : Nat → Nat} {M A : Nat} {T : Tb} {f g h x : Nat} (m : Nat) (hm : Mid n lv M A T) (hx : ((f, g, h), x) ∈ T.found) : IteP n lv M A m T f g h T x := by
 have hp : 0 < 2 ^ m := Nat.two_pow_pos m
 obtain ⟨_, _, _, l4, l5, l6⟩ := hm.fs f g h x hx
 exact ⟨hm, More.refl T, l4, l5, l6, by omega, fun _ _ _ _ h => .inl h, fun _ h => h⟩
theorem foundL_mem {M : List ((Nat × Nat × Nat) × Nat)} {k : Nat × Nat × Nat} {x : Nat} (h : (k, x) ∈ M) : (triV k, Value.int .i64 (x : Int)) ∈ foundL M := List.mem_map.2 ⟨_, h, rfl⟩
theorem foundL_push (M : List ((Nat × Nat × Nat) × Nat)) (k : Nat × Nat × Nat) (f : Nat) : foundL (M ++ [(k, f)]) = foundL M ++ [(triV k, .int .i64 (f : Int))] := by simp [foundL]
theorem foundL_ne {M : List ((Nat × Nat × Nat) × Nat)} {k : Nat × Nat × Nat} (hk : ∀ p ∈ M, p.1 ≠ k) : ∀ p ∈ foundL M, p.1 ≠ triV k := by
 intro p hp q
 obtain ⟨x, hx, rfl⟩ := List.mem_map.1 hp
 exact hk x hx (triV_inj q)
def noteT (T : Tb) (f g h x : Nat) : Tb := { T with found := T.found ++ [((f, g, h), x)] }
theorem Mid.note {n : Nat} {lv : Nat → Nat} {M A : Nat} {T : Tb} {f g h x : Nat} (hm : Mid n lv M A T) (hf : Live T f) (hg : Live T g) (hh : Live T h) (hx : Live T x) (hv : vl n T x = iteF (vl n T f) (vl n T g) (vl n T h)) (hr : ∀ k, k ≤ rk lv T f → k ≤ rk lv T g → k ≤ rk lv T h → k ≤ rk lv T x) (hk : ∀ p ∈ T.found, p.1 ≠ (f, g, h)) : Mid n lv M A (noteT T f g h x) := by
 have hvl : ∀ (k y : Nat) (σ : Nat → Bool), ev k (noteT T f g h x) y σ = ev k T y σ := by
  intro k
  induction k with
  | zero => intros; rfl
  | succ k ih => intro y σ; unfold ev; split; rfl; split; rfl; show (match T.rows[y]? with | some r => _ | none => _) = _; cases T.rows[y]? with
    | none => rfl
    | some r => exact ih _ _
 have hvl2 : ∀ y, vl n (noteT T f g h x) y = vl n T y := fun y => funext fun σ => hvl _ _ _
 have hinv : ∀ {ρ p : Nat → Nat}, Inv n ρ p T → Inv n ρ p (noteT T f g h x) := fun H => ⟨H.on, H.e0, H.e1, H.nd, H.made, H.mn, H.free, H.fn, H.us, H.dg, H.lh⟩
 refine ⟨⟨hm.t.lvo, hinv hm.t.inv⟩, hm.n24, hm.ll, hm.la, hm.ng, hm.fnd, hm.fl, hm.fo, nodup_push hm.fk hk, fun a b c y hy => ?_, hm.rl, hm.rm, hm.lc⟩
 rw [hvl2, hvl2, hvl2, hvl2]
 have hy : ((a, b, c), y) ∈ T.found ++ [((f, g, h), x)] := hy
 rcases List.mem_append.1 hy with hy | hy
 · exact hm.fs a b c y hy
 · have hy := List.mem_singleton.1 hy
   cases hy
   exact ⟨hf, hg, hh, hx, hv, hr⟩
structure PartsP (n : Nat) (lv : Nat → Nat) (T : Tb) (t f pl ph : Nat) : Prop where
 l : Live T pl
 h : Live T ph
 rl : lv t < rk lv T pl
 rh : lv t < rk lv T ph
 val : ∀ σ, vl n T f σ = if σ t then vl n T ph σ else vl n T pl σ
theorem Mid.parts {n : Nat} {lv : Nat → Nat} {M A : Nat} {T : Tb} (hm : Mid n lv M A T) {f t : Nat} {r : Rw} (hr : T.rows[f]? = some r) (hd : r.about ≠ -1) (ht : t < n) (hle : lv t ≤ rk lv T f) {b : Bool} (hb : (r.about == (t : Int)) = b) : PartsP n lv T t f (if b then r.low else f) (if b then r.high else f) := by
 cases b with
 | true =>
   have e : r.about = (t : Int) := by simpa using hb
   have h2 : 2 ≤ f := by
    match f, hr with
    | 0, hr => obtain ⟨u, e0⟩ := hm.t.inv.e0; rw [e0] at hr; cases hr; exact absurd (show (n : Int) = t from e) (by omega)
    | 1, hr => obtain ⟨u, e0⟩ := hm.t.inv.e1; rw [e0] at hr; cases hr; exact absurd (show (n : Int) = t from e) (by omega)
    | f + 2, _ => omega
   obtain ⟨_, _, _, a4, a5, a6, a7⟩ := hm.t.inv.nd f r h2 hr hd
   have hk : rk lv T f = lv t := by rw [rk_at hr, e, Int.toNat_natCast]
   simp only [if_true]
   refine ⟨a4, a5, by omega, by omega, fun σ => ?_⟩
   rw [hm.t.node σ h2 hr hd, e, Int.toNat_natCast]
   split <;> rfl
 | false =>
   have e : r.about ≠ (t : Int) := by simpa using hb
   have hl : Live T f := ⟨r, hr, hd⟩
   have hab := hm.t.inv.ab hr
   have hlt : lv t < rk lv T f := by
    rw [rk_at hr] at hle ⊢
    by_cases hn : r.about.toNat = n
    · rw [hn, hm.t.lvo.top]; exact hm.t.lvo.lt t ht
    · rcases Nat.lt_or_eq_of_le hle with q | q
      · exact q
      · have := hm.t.lvo.inj t r.about.toNat ht (by omega) q
        omega
   simp only [Bool.false_eq_true, if_false]
   exact ⟨hl, hl, hlt, hlt, fun σ => by split <;> rfl⟩
theorem upr_lv (lv : Nat → Nat) (t a : Nat) : lv (upr lv t a) ≤ lv t ∧ lv (upr lv t a) ≤ lv a ∧ (lv (upr lv t a) = lv t ∨ lv (upr lv t a) = lv a) := by
 unfold upr
 split
 · exact ⟨by omega, Nat.le_refl _, .inr rfl⟩
 · exact ⟨Nat.le_refl _, by omega, .inl rfl⟩
theorem IteP.absent {n : Nat} {lv : Nat → Nat} {M A m : Nat} {T T1 T2 T3 : Tb} {f g h t : Nat} {f0 f1 g0 g1 h0 h1 x1 x2 x : Nat} (hf : Live T f) (hg : Live T g) (hh : Live T h) (hnf : ∀ p ∈ T.found, p.1 ≠ (f, g, h))
 (Pf : PartsP n lv T t f f0 f1) (Pg : PartsP n lv T t g g0 g1) (Ph : PartsP n lv T t h h0 h1) (hmin : rk lv T f = lv t ∨ rk lv T g = lv t ∨ rk lv T h = lv t)
 (H1 : IteP n lv M A m T f0 g0 h0 T1 x1) (H2 : IteP n lv M A m T1 f1 g1 h1 T2 x2) (H3 : NodeP n lv M A T2 t x1 x2 T3 x) : ∀ p ∈ T3.found, p.1 ≠ (f, g, h) := by
 have m12 := H1.more.trans H2.more
 intro p hp e
 rw [H3.fnd] at hp
 obtain ⟨⟨a, b, c⟩, y⟩ := p
 have e : (a, b, c) = (f, g, h) := e
 cases e
 rcases H2.fnew f g h y hp with hp | hq
 · rcases H1.fnew f g h y hp with hp | hq
   · exact hnf _ hp rfl
   · obtain ⟨q1, q2, q3⟩ := hq (lv t + 1) Pf.rl Pg.rl Ph.rl
     rw [rk_more H1.more hf] at q1
     rw [rk_more H1.more hg] at q2
     rw [rk_more H1.more hh] at q3
     omega
 · obtain ⟨q1, q2, q3⟩ := hq (lv t + 1) (by rw [rk_more H1.more Pf.h]; exact Pf.rh) (by rw [rk_more H1.more Pg.h]; exact Pg.rh) (by rw [rk_more H1.more Ph.h]; exact Ph.rh)
   rw [rk_more m12 hf] at q1
   rw [rk_more m12 hg] at q2
   rw [rk_more m12 hh] at q3
   omega
theorem IteP.main {n : Nat} {lv : Nat → Nat} {M A m : Nat} {T T1 T2 T3 : Tb} {f g h t : Nat} {f0 f1 g0 g1 h0 h1 x1 x2 x : Nat} (hm : Mid n lv M A T) (hf : Live T f) (hg : Live T g) (hh : Live T h) (hnf : ∀ p ∈ T.found, p.1 ≠ (f, g, h))
 (Pf : PartsP n lv T t f f0 f1) (Pg : PartsP n lv T t g g0 g1) (Ph : PartsP n lv T t h h0 h1) (hmin : rk lv T f = lv t ∨ rk lv T g = lv t ∨ rk lv T h = lv t)
 (H1 : IteP n lv M A m T f0 g0 h0 T1 x1) (H2 : IteP n lv M A m T1 f1 g1 h1 T2 x2) (H3 : NodeP n lv M A T2 t x1 x2 T3 x) : IteP n lv M A (m + 1) T f g h (noteT T3 f g h x) x := by
 have m12 := H1.more.trans H2.more
 have m13 := m12.trans H3.more
 have iT := hm.t.inv
 have i1 := H1.mid.t.inv
 have i2 := H2.mid.t.inv
 have hv : vl n T3 x = iteF (vl n T f) (vl n T g) (vl n T h) := funext fun σ => by
  rw [H3.val σ, vl_more i1 H2.more H1.live, H1.val, H2.val, vl_more iT H1.more Pf.h, vl_more iT H1.more Pg.h, vl_more iT H1.more Ph.h]
  unfold iteF
  rw [Pf.val σ, Pg.val σ, Ph.val σ]
  by_cases q : σ t = true
  · simp [q]
  · simp [q]
 have hk := IteP.absent hf hg hh hnf Pf Pg Ph hmin H1 H2 H3
 have hle : ∀ k, k ≤ rk lv T f → k ≤ rk lv T g → k ≤ rk lv T h → k ≤ lv t := fun k k1 k2 k3 => by omega
 have hN : Mid n lv M A (noteT T3 f g h x) := H3.mid.note (m13.live hf) (m13.live hg) (m13.live hh) H3.live (by rw [vl_more iT m13 hf, vl_more iT m13 hg, vl_more iT m13 hh]; exact hv) (fun k k1 k2 k3 => by
  rw [rk_more m13 hf] at k1
  rw [rk_more m13 hg] at k2
  rw [rk_more m13 hh] at k3
  have := hle k k1 k2 k3
  have := H3.rank
  omega) hk
 have hvl : ∀ y, vl n (noteT T3 f g h x) y = vl n T3 y := by
  intro y
  have hM : More T3 (noteT T3 f g h x) := ⟨rfl, rfl, fun x q hq _ => ⟨q, hq, rfl, rfl, rfl, rfl⟩⟩
  funext σ
  unfold vl
  have : ∀ (k y : Nat) (σ : Nat → Bool), ev k (noteT T3 f g h x) y σ = ev k T3 y σ := by
   intro k
   induction k with
   | zero => intros; rfl
   | succ k ih => intro y σ; unfold ev; split; rfl; split; rfl; show (match T3.rows[y]? with | some r => _ | none => _) = _; cases T3.rows[y]? with
     | none => rfl
     | some r => exact ih _ _
  exact this _ _ _
 refine ⟨hN, ⟨m13.ord, m13.lev, m13.keep⟩, H3.live, by rw [hvl]; exact hv, fun k k1 k2 k3 => ?_, ?_, fun a b c y hy => ?_, fun y hy => H1.gv y (H2.gv y (H3.gv y hy))⟩
 · have := hle k k1 k2 k3
   have := H3.rank
   show k ≤ rk lv T3 x
   omega
 · show T3.fresh.length + 1 ≤ _
   have c1 := H1.cost
   have c2 := H2.cost
   have c3 := H3.cost
   rw [Nat.pow_succ]
   omega
 · have hy : ((a, b, c), y) ∈ T3.found ++ [((f, g, h), x)] := hy
   rcases List.mem_append.1 hy with hy | hy
   · rw [H3.fnd] at hy
     rcases H2.fnew a b c y hy with hy | hq
     · rcases H1.fnew a b c y hy with hy | hq
       · exact .inl hy
       · refine .inr fun k k1 k2 k3 => ?_
         have hlt := hle k k1 k2 k3
         have := H1.mid.fs a b c y hy
         obtain ⟨q1, q2, q3⟩ := hq k (by have := Pf.rl; omega) (by have := Pg.rl; omega) (by have := Ph.rl; omega)
         have m23 := H2.more.trans H3.more
         show k ≤ rk lv T3 a ∧ k ≤ rk lv T3 b ∧ k ≤ rk lv T3 c
         rw [rk_more m23 this.1, rk_more m23 this.2.1, rk_more m23 this.2.2.1]
         exact ⟨q1, q2, q3⟩
     · refine .inr fun k k1 k2 k3 => ?_
       have hlt := hle k k1 k2 k3
       have := H2.mid.fs a b c y hy
       obtain ⟨q1, q2, q3⟩ := hq k (by rw [rk_more H1.more Pf.h]; have := Pf.rh; omega) (by rw [rk_more H1.more Pg.h]; have := Pg.rh; omega) (by rw [rk_more H1.more Ph.h]; have := Ph.rh; omega)
       show k ≤ rk lv T3 a ∧ k ≤ rk lv T3 b ∧ k ≤ rk lv T3 c
       rw [rk_more H3.more this.1, rk_more H3.more this.2.1, rk_more H3.more this.2.2.1]
       exact ⟨q1, q2, q3⟩
   · have hy := List.mem_singleton.1 hy
     cases hy
     refine .inr fun k k1 k2 k3 => ?_
     show k ≤ rk lv T3 f ∧ k ≤ rk lv T3 g ∧ k ≤ rk lv T3 h
     rw [rk_more m13 hf, rk_more m13 hg, rk_more m13 hh]
     exact ⟨k1, k2, k3⟩
end Go.Proofs.YtaakjjefnjbabaaGreat.Sx
