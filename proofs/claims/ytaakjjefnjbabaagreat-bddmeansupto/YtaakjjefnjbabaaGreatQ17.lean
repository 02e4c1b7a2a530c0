/- Turning (plain): a node is turned. -/
import Derived.Test.YtaakjjefnjbabaaGreatQ16
set_option maxRecDepth 100000
namespace Go.Proofs.YtaakjjefnjbabaaGreat.Sx
section
variable {n : Nat} {lv : Nat → Nat} {u l k : Nat} {T : Tb} {f : Nat} {r : Rw}
theorem Trn.rl (h : Trn n lv u l k z0 T) {low high : Nat} (hr : T.rows[f]? = some r) (hd : r.about ≠ -1) (hf : (ky T f).1 = (u : Int)) (hp : hasP T f l) (ll : Live T low) (lh : Live T high) (hne : low ≠ high)
 (q1 : (ky T low).1 = (u : Int) ∧ ¬ hasP T low l ∨ k + 1 < rt lv u l k T low) (q2 : (ky T high).1 = (u : Int) ∧ ¬ hasP T high l ∨ k + 1 < rt lv u l k T high)
 (hv : ∀ σ, vl n T f σ = vl n T (if σ l then high else low) σ) :
 (∀ q ∈ T.made, q.1 ≠ ((l : Int), low, high)) ∧ Relay T f r (l : Int) low high ∧ Trn n lv u l k (bump (bump z0 r.high) r.low) (relay T f r (l : Int) low high) ∧ (∀ x, Live T x → vl n (relay T f r (l : Int) low high) x = vl n T x) := by
 have hul := h.ul
 have lf : Live T f := ky_live hf
 have h2 : 2 ≤ f := h.inv.k2 h.un hf
 have rf : rt lv u l k T f = k := (rt_u hf).1 hp
 have hrk : ∀ {x}, ((ky T x).1 = (u : Int) ∧ ¬ hasP T x l ∨ k + 1 < rt lv u l k T x) → k + 1 ≤ rt lv u l k T x ∧ (ky T x).1 ≠ (l : Int) := fun {x} q => by
  rcases q with ⟨a, b⟩ | q
  · rw [(rt_u a).2 b]; exact ⟨Nat.le_refl _, by omega⟩
  · exact ⟨by omega, (h.hi q).2⟩
 obtain ⟨k1, n1⟩ := hrk q1
 obtain ⟨k2, n2⟩ := hrk q2
 have e1 : low ≠ f := fun e => by rw [e] at k1; omega
 have e2 : high ≠ f := fun e => by rw [e] at k2; omega
 have R := relay_rows (ab := (l : Int)) hr hne e1 e2
 have hk : ∀ q ∈ T.made, q.1 ≠ ((l : Int), low, high) := fun q hq e => by
  obtain ⟨g2, z, hz, hzd, hkz⟩ := (h.inv.made q.1 q.2).1 hq
  have lz : Live T q.2 := ⟨z, hz, hzd⟩
  have kz : ky T q.2 = ((l : Int), low, high) := by rw [ky_at hz, ← hkz, e]
  have : q.2 = f := h.inj _ _ lz lf (funext fun σ => by
   rw [vl_ky h.inv h.rle σ g2 lz, kz, hv σ, Int.toNat_natCast])
  rw [this] at kz
  rw [kz] at hf
  have hf : (l : Int) = u := hf
  omega
 have hpf : ∀ x, Live T x → ((ky T x).1 = (u : Int) ∨ (ky T x).1 = (l : Int)) → (ky T x).2.1 ≠ f ∧ (ky T x).2.2 ≠ f := fun x lx q => by
  have g2 : 2 ≤ x := q.elim (h.inv.k2 h.un) (h.inv.k2 h.ln)
  obtain ⟨_, _, _, _, _, r6, r7⟩ := h.inv.nk g2 lx
  have key : (ky T x).2.1 = f ∨ (ky T x).2.2 = f → False := fun e => by
   rcases q with q | q
   · refine h.uu x q ?_
     unfold hasP
     rcases e with e | e
     · left; rw [e]; exact hf
     · right; rw [e]; exact hf
   · have hpu : hasP T x u := by
      unfold hasP
      rcases e with e | e
      · left; rw [e]; exact hf
      · right; rw [e]; exact hf
     have := (h.rtl q).1 hpu
     rcases e with e | e
     · rw [e] at r6; omega
     · rw [e] at r7; omega
  exact ⟨fun e => key (.inl e), fun e => key (.inr e)⟩
 have hrt : ∀ x, x ≠ f → Live T x → rt lv u l k (Sx.relay T f r (l : Int) low high) x = rt lv u l k T x := fun x hx lx => by
  refine rt_congr (R.kn hx) fun q => ?_
  obtain ⟨p1, p2⟩ := hpf x lx q
  rw [R.kn p1, R.kn p2]; exact ⟨rfl, rfl⟩
 have hpx : ∀ x v, x ≠ f → Live T x → ((ky T x).1 = (u : Int) ∨ (ky T x).1 = (l : Int)) → (hasP (Sx.relay T f r (l : Int) low high) x v ↔ hasP T x v) := fun x v hx lx q => by
  obtain ⟨p1, p2⟩ := hpf x lx q
  unfold hasP
  rw [R.kn hx, R.kn p1, R.kn p2]
 have kf := R.kf
 have hkf : (ky (Sx.relay T f r (l : Int) low high) f).1 = (l : Int) := by rw [kf]
 have hpfu : ∀ v : Nat, hasP (Sx.relay T f r (l : Int) low high) f v ↔ (ky T low).1 = (v : Int) ∨ (ky T high).1 = (v : Int) := fun v => by
  unfold hasP
  rw [kf]
  show (ky _ low).1 = _ ∨ (ky _ high).1 = _ ↔ _
  rw [R.kn e1, R.kn e2]
 have hrtf : (hasP (Sx.relay T f r (l : Int) low high) f u → rt lv u l k (Sx.relay T f r (l : Int) low high) f = k) ∧ (¬ hasP (Sx.relay T f r (l : Int) low high) f u → rt lv u l k (Sx.relay T f r (l : Int) low high) f = k + 1) := by
  unfold rt
  rw [if_neg (by rw [hkf]; omega), if_pos hkf]
  exact ⟨fun q => if_pos q, fun q => if_neg q⟩
 have hrf : rt lv u l k (Sx.relay T f r (l : Int) low high) f < rt lv u l k T low ∧ rt lv u l k (Sx.relay T f r (l : Int) low high) f < rt lv u l k T high ∧ k ≤ rt lv u l k (Sx.relay T f r (l : Int) low high) f := by
  by_cases q : hasP (Sx.relay T f r (l : Int) low high) f u
  · rw [hrtf.1 q]; omega
  · rw [hrtf.2 q]
    rw [hpfu] at q
    have c1 := q1.resolve_left fun w => q (.inl w.1)
    have c2 := q2.resolve_left fun w => q (.inr w.1)
    omega
 have I : Inv n (rt lv u l k (Sx.relay T f r (l : Int) low high)) (bump (bump z0 r.high) r.low) (Sx.relay T f r (l : Int) low high) :=
  h.inv.relay hr h2 hd (by omega) (by have := h.ln; omega) ll lh hne e1 e2 hk hrt ⟨hrf.1, hrf.2.1⟩ (by rw [rf]; exact hrf.2.2)
 have hlv : ∀ x, Live T x → Live (Sx.relay T f r (l : Int) low high) x := fun x hx => (R.live (by omega)).2 (.inr hx)
 have hlv2 : ∀ x, Live (Sx.relay T f r (l : Int) low high) x → Live T x := fun x hx => ((R.live (by omega)).1 hx).elim (fun e => e ▸ lf) id
 have hrle : ∀ x, Live (Sx.relay T f r (l : Int) low high) x → rt lv u l k (Sx.relay T f r (l : Int) low high) x ≤ n := fun x hx => rt_le h.lvo I h.kn hx
 have hval : ∀ (m x : Nat), Live T x → n ≤ rt lv u l k (Sx.relay T f r (l : Int) low high) x + m → ∀ σ, vl n (Sx.relay T f r (l : Int) low high) x σ = vl n T x σ := by
  intro m
  induction m with
  | zero =>
    intro x lx hm σ
    have g2 : ¬ 2 ≤ x := fun g2 => by
     obtain ⟨_, _, _, b4, _, b6, _⟩ := I.nk g2 (hlv x lx)
     have := hrle _ b4
     omega
    match x, g2 with
    | 0, _ => rw [vl_zero, vl_zero]
    | 1, _ => rw [vl_one, vl_one]
    | x + 2, g2 => omega
  | succ m ih =>
    intro x lx hm σ
    by_cases g2 : 2 ≤ x
    · obtain ⟨_, _, _, b4, b5, b6, b7⟩ := I.nk g2 (hlv x lx)
      rw [vl_ky I hrle σ g2 (hlv x lx)]
      by_cases e : x = f
      · subst e
        rw [hv σ, kf]
        rw [kf] at b4 b5 b6 b7
        simp only [Int.toNat_natCast]
        split
        · exact ih _ lh (by have b7 : _ < rt lv u l k _ high := b7; omega) σ
        · exact ih _ ll (by have b6 : _ < rt lv u l k _ low := b6; omega) σ
      · rw [R.kn e] at b4 b5 b6 b7 ⊢
        rw [vl_ky h.inv h.rle σ g2 lx]
        split
        · exact ih _ (hlv2 _ b5) (by omega) σ
        · exact ih _ (hlv2 _ b4) (by omega) σ
    · match x, g2 with
      | 0, _ => rw [vl_zero, vl_zero]
      | 1, _ => rw [vl_one, vl_one]
      | x + 2, g2 => omega
 have hvl : ∀ x, Live T x → vl n (Sx.relay T f r (l : Int) low high) x = vl n T x := fun x lx => funext fun σ => hval n x lx (by omega) σ
 refine ⟨hk, R, ⟨h.lvo, h.kn, h.lu, h.ll, h.un, h.ln, I, fun x e => ?_, fun x e => ?_, fun x y lx ly e => ?_⟩, hvl⟩
 · have hx : x ≠ f := fun q => by rw [q, hkf] at e; omega
   have lx := hlv2 x (ky_live e)
   rw [R.kn hx] at e
   rw [hpx x u hx lx (.inl e)]
   exact h.uu x e
 · by_cases hx : x = f
   · subst hx
     rw [hpfu]
     exact fun q => q.elim n1 n2
   · have lx := hlv2 x (ky_live e)
     rw [R.kn hx] at e
     rw [hpx x l hx lx (.inr e)]
     exact h.lll x e
 · rw [hvl x (hlv2 x lx), hvl y (hlv2 y ly)] at e
   exact h.inj x y (hlv2 x lx) (hlv2 y ly) e
theorem Trn.prs (h : Trn n lv u l k z0 T) {y : Nat} (e : (ky T f).1 = (u : Int)) (hy : y = (ky T f).2.1 ∨ y = (ky T f).2.2) : Live T y ∧ Live T (pr T l y).1 ∧ Live T (pr T l y).2 ∧ k + 1 < rt lv u l k T (pr T l y).1 ∧ k + 1 < rt lv u l k T (pr T l y).2 := by
 have h2 := h.inv.k2 h.un e
 obtain ⟨_, _, _, l4, l5, r6, r7⟩ := h.inv.nk h2 (ky_live e)
 have ly : Live T y := by rcases hy with rfl | rfl <;> assumption
 have hr : rt lv u l k T f < rt lv u l k T y := by rcases hy with rfl | rfl <;> assumption
 refine ⟨ly, ?_⟩
 rcases h.partU e ly hy hr with ⟨q1, q2, _⟩ | ⟨_, q2, q3⟩
 · obtain ⟨_, _, _, m4, m5, s6, s7⟩ := h.inv.nk (h.inv.k2 h.ln q1) ly
   unfold pr
   rw [if_pos q1]
   exact ⟨m4, m5, by omega, by omega⟩
 · unfold pr
   rw [if_neg q2]
   exact ⟨ly, ly, q3, q3⟩
structure TnP (n : Nat) (lv : Nat → Nat) (u l k : Nat) (T : Tb) (f : Nat) (T' : Tb) : Prop where
 trn : Trn n lv u l k z0 T'
 ng : NG (fun _ => False) T'
 giv : ∀ y, Giv T y → Giv T' y ∧ vl n T' y = vl n T y
 only : ∀ y, Giv T' y → Giv T y
 rest : T'.ord = T.ord ∧ T'.lev = T.lev ∧ T'.found = T.found
 fresh : T'.fresh.length ≤ T.fresh.length + 2
 done : ∀ x, (ky T' x).1 = (u : Int) → hasP T' x l → (ky T x).1 = (u : Int) ∧ hasP T x l ∧ x ≠ f
 len : T'.rows.length ≤ max T.rows.length (cnt T + 2)
 lenle : T.rows.length ≤ T'.rows.length
structure TnW (n : Nat) (T : Tb) (u l f lo hi : Nat) (T1 : Tb) (low : Nat) (T2 : Tb) (high : Nat) (r : Rw) (T4 T5 : Tb) : Prop where
 n1 : NodeR T u (pr T l lo).1 (pr T l hi).1 T1 low
 n2 : NodeR T1 u (pr T l lo).2 (pr T l hi).2 T2 high
 hr : T2.rows[f]? = some r
 hk : keyR r = ((u : Int), lo, hi)
 no : ∀ q ∈ T2.made, q.1 ≠ ((l : Int), low, high)
 lt : low < T2.rows.length ∧ high < T2.rows.length
 c4 : Leaves (n + 1) (relay T2 f r (l : Int) low high) lo T4
 c5 : Leaves (n + 1) T4 hi T5
 us : (∀ z ∈ T.rows, z.users ≤ 549755813888) ∧ (∀ z ∈ T1.rows, z.users ≤ 549755813888) ∧ ∀ z ∈ T2.rows, z.users ≤ 549755813888
 ls : T1.rows.length ≤ 274877906944 ∧ T2.rows.length ≤ 274877906944
 fr : (∀ x ∈ T.free, x < T.rows.length) ∧ ∀ x ∈ T1.free, x < T1.rows.length
 i1 : (∃ ρ1, Inv n ρ1 z0 T1) ∧ T1.fresh.length ≤ T.fresh.length + 1
 lp : ((pr T l lo).1 < T.rows.length ∧ (pr T l hi).1 < T.rows.length) ∧ (pr T l lo).2 < T1.rows.length ∧ (pr T l hi).2 < T1.rows.length
theorem Inv.usB {ρ : Nat → Nat} (h : Inv n ρ z0 T) (hl : T.rows.length ≤ 274877906944) : ∀ z ∈ T.rows, z.users ≤ 549755813888 := fun z hz => by
 obtain ⟨x, hx⟩ := List.getElem?_of_mem hz
 have h1 := h.us x z hx
 have h2 := lnk_le (n := n) T.rows x
 unfold z0 at h1
 omega
theorem Inv.frB {ρ p : Nat → Nat} (h : Inv n ρ p T) : ∀ x ∈ T.free, x < T.rows.length := fun x hx => by
 obtain ⟨q, hq, _⟩ := (h.free x).1 hx
 exact lt_of_at hq
theorem Trn.tn (h : Trn n lv u l k z0 T) (n24 : n ≤ 24) (ng : NG (fun _ => False) T) {lo hi : Nat} (hf : ky T f = ((u : Int), lo, hi)) (hp : hasP T f l) (hl : T.rows.length ≤ 274877906944) (hc : cnt T + 2 ≤ 274877906944) :
 ∃ T1 low T2 high r T4 T5, TnW n T u l f lo hi T1 low T2 high r T4 T5 ∧ TnP n lv u l k T f T5 := by
 have e : (ky T f).1 = (u : Int) := by rw [hf]
 have elo : lo = (ky T f).2.1 := by rw [hf]
 have ehi : hi = (ky T f).2.2 := by rw [hf]
 have lf := ky_live e
 have h2 := h.inv.k2 h.un e
 have hul := h.ul
 obtain ⟨ylo, a1, a2, a3, a4⟩ := h.prs e (.inl elo)
 obtain ⟨yhi, b1, b2, b3, b4⟩ := h.prs e (.inr ehi)
 obtain ⟨T1, low, R1, Q1, t1, p1, v1⟩ := h.node a1 b1 a3 b3
 have hrt1 : ∀ y, Live T y → rt lv u l k T1 y = rt lv u l k T y := fun y hy => rt_more h.un h.ln h.inv Q1.more hy
 obtain ⟨T2, high, R2, Q2, t2, p2, v2⟩ := t1.node (Q1.more.live a2) (Q1.more.live b2) (by rw [hrt1 _ a2]; exact a4) (by rw [hrt1 _ b2]; exact b4)
 have M2 := Q1.more.trans Q2.more
 have V2 : ∀ y, Live T y → vl n T2 y = vl n T y := fun y hy => vl_more h.inv M2 hy
 have hrt2 : ∀ y, Live T1 y → rt lv u l k T2 y = rt lv u l k T1 y := fun y hy => rt_more h.un h.ln t1.inv Q2.more hy
 obtain ⟨r, hr, hd⟩ := M2.live lf
 have kf2 : ky T2 f = ((u : Int), lo, hi) := by rw [M2.ky lf, hf]
 have hkr : keyR r = ((u : Int), lo, hi) := by rw [← ky_at hr]; exact kf2
 have elr : r.low = lo := congrArg (fun x => x.2.1) hkr
 have ehr : r.high = hi := congrArg (fun x => x.2.2) hkr
 have hp2 : hasP T2 f l := by
  unfold hasP
  rw [kf2]
  unfold hasP at hp
  rw [hf] at hp
  show (ky T2 lo).1 = _ ∨ (ky T2 hi).1 = _
  rw [M2.ky ylo, M2.ky yhi]; exact hp
 have ll2 := Q2.more.live Q1.live
 have lh2 := Q2.live
 have vlow : ∀ σ, vl n T2 low σ = if σ u then vl n T (pr T l hi).1 σ else vl n T (pr T l lo).1 σ := fun σ => by
  rw [congrFun (vl_more t1.inv Q2.more Q1.live) σ, v1]
 have vhigh : ∀ σ, vl n T2 high σ = if σ u then vl n T (pr T l hi).2 σ else vl n T (pr T l lo).2 σ := fun σ => by
  rw [v2, vl_more h.inv Q1.more a2, vl_more h.inv Q1.more b2]
 have hv : ∀ σ, vl n T2 f σ = vl n T2 (if σ l then high else low) σ := fun σ => by
  rw [V2 f lf, vl_ky h.inv h.rle σ h2 lf, e, Int.toNat_natCast, ← elo, ← ehi]
  have c1 := vl_pr h.inv h.rle σ ylo h.ln
  have c2 := vl_pr h.inv h.rle σ yhi h.ln
  cases su : σ u <;> cases sl : σ l <;> simp only [sl, Bool.false_eq_true, if_false, if_true] at c1 c2 ⊢
  · rw [vlow, su]; simpa using c1
  · rw [vhigh, su]; simpa using c1
  · rw [vlow, su]; simpa using c2
  · rw [vhigh, su]; simpa using c2
 have hne : low ≠ high := fun q => by
  have key : ∀ σ, vl n T (pr T l hi).1 σ = vl n T (pr T l hi).2 σ ∧ vl n T (pr T l lo).1 σ = vl n T (pr T l lo).2 σ := fun σ => by
   have i1 := (h.indB (.inl rfl) a1 a3)
   have i2 := (h.indB (.inl rfl) a2 a4)
   have i3 := (h.indB (.inl rfl) b1 b3)
   have i4 := (h.indB (.inl rfl) b2 b4)
   have w1 := vlow (upd σ u true)
   have w2 := vhigh (upd σ u true)
   have w3 := vlow (upd σ u false)
   have w4 := vhigh (upd σ u false)
   rw [upd_at] at w1 w2 w3 w4
   simp only [Bool.false_eq_true, if_false, if_true] at w1 w2 w3 w4
   rw [q] at w1 w3
   rw [i3] at w1
   rw [i4] at w2
   rw [i1] at w3
   rw [i2] at w4
   exact ⟨w1.symm.trans w2, w3.symm.trans w4⟩
  have g1 : (pr T l hi).1 = (pr T l hi).2 := h.inj _ _ b1 b2 (funext fun σ => (key σ).1)
  have g2 : (pr T l lo).1 = (pr T l lo).2 := h.inj _ _ a1 a2 (funext fun σ => (key σ).2)
  have no : ∀ y, Live T y → (pr T l y).1 = (pr T l y).2 → (ky T y).1 ≠ (l : Int) := fun y ly hq hy => by
   unfold pr at hq
   rw [if_pos hy] at hq
   exact (h.inv.nk (h.inv.k2 h.ln hy) ly).2.2.1 hq
  unfold hasP at hp
  rw [hf] at hp
  exact hp.elim (no lo ylo g2) (no hi yhi g1)
 have kind : ∀ {Ta Tb' : Tb} {x a b : Nat}, pr Tb' u x = (a, b) → ¬ hasP Tb' x l → k + 1 < rt lv u l k Tb' a → ((ky Tb' x).1 = (u : Int) ∧ ¬ hasP Tb' x l ∨ k + 1 < rt lv u l k Tb' x) := fun {Ta Tb' x a b} hpr hn hrk => by
  by_cases q : (ky Tb' x).1 = (u : Int)
  · exact .inl ⟨q, hn⟩
  · unfold pr at hpr
    rw [if_neg q] at hpr
    obtain rfl : x = a := congrArg Prod.fst hpr
    exact .inr hrk
 have hlowP : (ky T2 low).1 = (u : Int) ∧ ¬ hasP T2 low l ∨ k + 1 < rt lv u l k T2 low := by
  rcases kind (Ta := T) Q1.pr p1 (by rw [hrt1 _ a1]; exact a3) with ⟨c1, c2⟩ | c
  · refine .inl ⟨by rw [Q2.more.ky Q1.live]; exact c1, fun q => c2 ?_⟩
    obtain ⟨_, _, _, l4, l5, _⟩ := t1.inv.nk (t1.inv.k2 h.un c1) Q1.live
    unfold hasP at q ⊢
    rw [Q2.more.ky Q1.live, Q2.more.ky l4, Q2.more.ky l5] at q
    exact q
  · exact .inr (by rw [hrt2 _ Q1.live]; exact c)
 have hhighP : (ky T2 high).1 = (u : Int) ∧ ¬ hasP T2 high l ∨ k + 1 < rt lv u l k T2 high :=
  kind (Ta := T) Q2.pr p2 (by rw [hrt2 _ (Q1.more.live a2), hrt1 _ a2]; exact a4)
 obtain ⟨hno, R, t3, V3⟩ := t2.rl hr hd (by rw [kf2]) hp2 ll2 lh2 hne hlowP hhighP hv
 rw [elr, ehr] at t3
 have c1 := Q1.len
 have c2 := Q2.len
 have c3 := Q1.cnt
 have len1 : T1.rows.length ≤ 274877906944 := by omega
 have len2 : T2.rows.length ≤ 274877906944 := by omega
 have u2 := t2.inv.usB len2
 have hl3 : (Sx.relay T2 f r (l : Int) low high).rows.length ≤ 549755813888 := by rw [R.len]; omega
 have u3 : ∀ z ∈ (Sx.relay T2 f r (l : Int) low high).rows, Sm z.users := fun z hz => by
  obtain ⟨x, hx⟩ := List.getElem?_of_mem hz
  have g1 := t3.inv.us x z hx
  have g2 := lnk_le (n := n) (Sx.relay T2 f r (l : Int) low high).rows x
  rw [R.len] at g2
  have g3 : bump (bump z0 hi) lo x ≤ 2 := by unfold bump z0; split <;> split <;> omega
  unfold Sm
  omega
 have llo3 : Live (Sx.relay T2 f r (l : Int) low high) lo := (R.live (by omega)).2 (.inr (M2.live ylo))
 obtain ⟨T4, C4, I4, L4, G4⟩ := leave_plain n24 t3.inv llo3 t3.rle hl3 u3
 have t4 := t3.less I4 L4
 have lhi4 : Live T4 hi := t4.inv.held (by unfold bump; rw [if_pos rfl]; omega) (by rw [L4.len, R.len]; exact (M2.live yhi).lt)
 obtain ⟨T5, C5, I5, L5, G5⟩ := leave_plain n24 t4.inv lhi4 t4.rle (by rw [L4.len]; exact hl3) (L4.smU u3)
 have t5 := t4.less I5 L5
 have LL := L4.trans L5
 have hgive3 : ∀ x (z : Rw), (Sx.relay T2 f r (l : Int) low high).rows[x]? = some z → ∃ q : Rw, T2.rows[x]? = some q ∧ z.given = q.given ∧ q.users ≤ z.users ∧ (q.about = -1 → z.about = -1) ∧ (z.about = -1 → q.about = -1) := fun x z hz => by
  by_cases ex : x = f
  · rw [ex] at hz ⊢
    rw [R.own] at hz; cases hz
    exact ⟨r, hr, rfl, Nat.le_refl _, fun q => absurd q hd, fun q => absurd q (by show (l : Int) ≠ -1; omega)⟩
  · rw [R.get x ex] at hz
    cases q : T2.rows[x]? with
    | none => rw [q] at hz; cases hz
    | some s => rw [q] at hz; cases hz; exact ⟨s, by first | rfl | exact q, rfl, by show s.users ≤ s.users + _ + _; omega, id, id⟩
 have ng2 := Q2.ng _ (Q1.ng _ ng)
 have ng3 : NG (fun _ => False) (Sx.relay T2 f r (l : Int) low high) := fun x z hx hz hzd _ => by
  obtain ⟨q, hq, e1, e2, e3, _⟩ := hgive3 x z hz
  by_cases hx1 : x = low ∨ x = high
  · right
    have hxf : x ≠ f := fun e => by
     have hrf := (rt_u (lv := lv) (k := k) (l := l) (by rw [kf2] : (ky T2 f).1 = (u : Int))).1 hp2
     have : k + 1 ≤ rt lv u l k T2 x := by
      rcases hx1 with rfl | rfl
      · rcases hlowP with ⟨w1, w2⟩ | w
        · rw [(rt_u w1).2 w2]; exact Nat.le_refl _
        · omega
      · exact Q2.rank
     rw [e] at this
     omega
    rw [R.get x hxf, hq] at hz
    cases hz
    show 0 < q.users + i1 low x + i1 high x
    unfold i1
    rcases hx1 with rfl | rfl
    · rw [if_pos rfl]; omega
    · rw [if_pos rfl]; omega
  · rcases ng2 x q hx hq (fun w => hzd (e3 w)) (fun w => by
     rcases w with (w | w) | w
     · exact w
     · exact hx1 (.inl w)
     · exact hx1 (.inr w)) with w | w
    · exact .inl (by rw [e1]; exact w)
    · exact .inr (by omega)
 have hgiv3 : ∀ y, Giv T y → Giv (Sx.relay T2 f r (l : Int) low high) y := fun y ⟨q, hq, hqd, hqg⟩ => by
  obtain ⟨q', w1, w2, _, _, w5⟩ := M2.keep y q hq hqd
  obtain ⟨z, hz, hzd⟩ := (R.live (by omega)).2 (.inr ⟨q', w1, by rw [w2]; exact hqd⟩ : y = f ∨ Live T2 y)
  obtain ⟨s, hs, x1, _⟩ := hgive3 y z hz
  rw [w1] at hs; cases hs
  exact ⟨z, hz, hzd, by rw [x1, w5]; exact hqg⟩
 refine ⟨T1, low, T2, high, r, T4, T5, ⟨R1, R2, hr, hkr, hno, ⟨ll2.lt, lh2.lt⟩, C4, C5, ⟨h.inv.usB hl, t1.inv.usB len1, u2⟩, ⟨len1, len2⟩, ⟨h.inv.frB, t1.inv.frB⟩, ⟨⟨_, t1.inv⟩, Q1.fresh⟩, ⟨a1.lt, b1.lt⟩, (Q1.more.live a2).lt, (Q1.more.live b2).lt⟩, ⟨t5, G5 _ (G4 _ ng3), fun y hy => ?_, fun y hy => ?_, ?_, ?_, fun x hx hpx => ?_, ?_, ?_⟩⟩
 · obtain ⟨z, hz, hzd, hzg⟩ := hgiv3 y hy
   have l5 := LL.giv y z hz hzd hzg
   obtain ⟨s, hs, hsd⟩ := l5
   obtain ⟨q, w1, _, _, _, w5⟩ := LL.keep y s hs hsd
   rw [hz] at w1; cases w1
   refine ⟨⟨s, hs, hsd, by rw [← w5]; exact hzg⟩, ?_⟩
   rw [vl_less t5.inv LL ⟨s, hs, hsd⟩, V3 y (M2.live hy.live), V2 y hy.live]
 · obtain ⟨s, hs, hsd, hsg⟩ := hy
   obtain ⟨z, w1, w2, _, _, w5⟩ := LL.keep y s hs hsd
   obtain ⟨q, hq, x1, _, x3, _⟩ := hgive3 y z w1
   have : Giv T2 y := ⟨q, hq, fun w => by rw [← w2] at hsd; exact hsd (x3 w), by rw [← x1, w5]; exact hsg⟩
   exact Q1.gv y (Q2.gv y this)
 · refine ⟨LL.ord.trans M2.ord, LL.lev.trans M2.lev, ?_⟩
   rw [LL.found]; exact Q2.found.trans Q1.found
 · rw [LL.fresh]
   have w1 := Q1.fresh
   have w2 := Q2.fresh
   show T2.fresh.length ≤ _
   omega
 · have lx5 := ky_live hx
   have kx : ky T5 x = ky (Sx.relay T2 f r (l : Int) low high) x := LL.ky lx5
   have hx3 : (ky (Sx.relay T2 f r (l : Int) low high) x).1 = (u : Int) := by rw [← kx]; exact hx
   have hxf : x ≠ f := fun q => by rw [q, R.kf] at hx3; have : (l : Int) = u := hx3; omega
   have hx2 : (ky T2 x).1 = (u : Int) := by rw [← R.kn hxf]; exact hx3
   have lx2 := ky_live hx2
   have nf : ∀ y, y = (ky T2 x).2.1 ∨ y = (ky T2 x).2.2 → y ≠ f := fun y hy q => by
    refine t2.uu x hx2 ?_
    unfold hasP
    rcases hy with hy | hy
    · left; rw [← hy, q, kf2]
    · right; rw [← hy, q, kf2]
   have hp2x : hasP T2 x l := by
    obtain ⟨_, _, _, l4, l5, _⟩ := t5.inv.nk (t5.inv.k2 h.un hx) lx5
    unfold hasP at hpx ⊢
    rw [LL.ky l4, LL.ky l5, kx, R.kn hxf, R.kn (nf _ (.inl rfl)), R.kn (nf _ (.inr rfl))] at hpx
    exact hpx
   have back : ∀ {Ta Tb' : Tb} {w a b : Nat}, Inv n (rt lv u l k Ta) z0 Ta → NodeQ n lv u l k Ta u a b Tb' w → ¬ hasP Tb' w l → (ky Tb' x).1 = (u : Int) → hasP Tb' x l → (ky Ta x).1 = (u : Int) ∧ hasP Ta x l := fun {Ta Tb' w a b} hi Q hn c1 c2 => by
    rcases Q.frm x (ky_live c1) with lx | ⟨q, _⟩
    · have ek := Q.more.ky lx
      rw [ek] at c1
      obtain ⟨_, _, _, l4, l5, _⟩ := hi.nk (hi.k2 h.un c1) lx
      refine ⟨c1, ?_⟩
      unfold hasP at c2 ⊢
      rw [ek, Q.more.ky l4, Q.more.ky l5] at c2
      exact c2
    · rw [q] at c2; exact absurd c2 hn
   obtain ⟨d1, d2⟩ := back t1.inv Q2 p2 hx2 hp2x
   obtain ⟨d3, d4⟩ := back h.inv Q1 p1 d1 d2
   exact ⟨d3, d4, hxf⟩
 · rw [LL.len, R.len]; omega
 · rw [LL.len, R.len]; have := Q1.lenle; have := Q2.lenle; omega
end
end Go.Proofs.YtaakjjefnjbabaaGreat.Sx
namespace Go.Proofs.YtaakjjefnjbabaaGreat.Sx
open Go.RowKit Go.Sort Go.Maps Go.WideMaps
theorem zeroS (w : World) : (zeroValue 110).run Tryz.prog w = .ok (.agg #[]) w := by kernel_rfl
def seenL (s : List Nat) : List (Value × Value) := s.map fun x : Nat => (.int .i64 (x : Int), .agg #[])
theorem seenL_ne {s : List Nat} {f : Nat} (h : f ∉ s) : ∀ p ∈ seenL s, p.1 ≠ .int .i64 (f : Int) := by
 intro p hp q
 obtain ⟨x, hx, rfl⟩ := List.mem_map.1 hp
 have q : Value.int .i64 (x : Int) = .int .i64 (f : Int) := q
 injection q with _ q
 exact h (by rw [← Int.ofNat_inj.1 q]; exact hx)
theorem seenL_hit {s : List Nat} {f : Nat} (h : f ∈ s) : (Value.int .i64 (f : Int), Value.agg #[]) ∈ seenL s ∧ ∀ p ∈ seenL s, p.1 = .int .i64 (f : Int) → p.2 = .agg #[] := by
 refine ⟨List.mem_map.2 ⟨f, h, rfl⟩, fun p hp _ => ?_⟩
 obtain ⟨x, hx, rfl⟩ := List.mem_map.1 hp
 rfl
theorem seenL_push (s : List Nat) (f : Nat) : seenL (s ++ [f]) = seenL s ++ [(.int .i64 (f : Int), .agg #[])] := by simp [seenL]
theorem i64C_push (l : List Nat) (f : Nat) : i64C (l ++ [f]) = i64C l ++ [.int .i64 (f : Int)] := by simp [i64C]
def visV (bs bv bt bl : Nat) : Value := .func (.func 86) #[] #[.pointer (some ⟨bs, 0, none⟩), .pointer (some ⟨bv, 0, none⟩), .pointer (some ⟨bt, 0, none⟩), .pointer (some ⟨bl, 0, none⟩)]
structure VE (w0 : World) (tb : Nat) (L : Ly) (T : Tb) (lo3 bs bv bt bl mm : Nat) (w : World) (sn ls : List Nat) (sl : Value) : Prop where
 t0 : TAt w0 tb L T
 fr : Fr (· < w0.heap.size) w0 w
 s : w.heap[bs]? = some (.cells #[.map (some mm)] 111 (0, 0))
 v : w.heap[bv]? = some (.cells #[visV bs bv bt bl] 92 (0, 0))
 t : w.heap[bt]? = some (.cells #[.pointer (some ⟨tb, 0, none⟩)] 36 (0, 0))
 l : w.heap[bl]? = some (.cells #[sl] 35 (0, 0))
 map : MapIs 32 w mm (seenL sn)
 own : w.ownsRow lo3 32 1 sl ls.length (i64C ls)
 h1 : bs < lo3
 h2 : bv < lo3
 h3 : bt < lo3
 h4 : bl < lo3
 h5 : mm < lo3
 h9 : lo3 ≤ w.heap.size
 g4 : w0.heap.size ≤ bl
 g5 : w0.heap.size ≤ mm
 g6 : w0.heap.size ≤ lo3
theorem ownsG_of {w w' : World} {base sz n : Nat} {e : TypeId} {sl : Value} {vs : List Value} (h : w.ownsRow base e sz sl n vs) (hb : ∀ g, sl.ownBlock = some g → base ≤ g → g < w.heap.size → w'.heap[g]? = w.heap[g]?) : w'.ownsRow base e sz sl n vs := by
 refine ⟨h.1, ?_⟩
 rcases h.2 with h' | ⟨g, cap, cur, e', hg, hq, r⟩
 · exact .inl h'
 · exact .inr ⟨g, cap, cur, e', hg, (hb g (by rw [e']; rfl) hg (block_lt hq)).trans hq, r⟩
section
variable {w0 w w' : World} {tb : Nat} {L : Ly} {T : Tb} {lo3 bs bv bt bl mm : Nat} {sn sn' ls : List Nat} {sl : Value}
theorem map_ne {w : World} {m b : Nat} {l : List (Value × Value)} (hm : MapIs 32 w m l) {vs : Array Value} {t : TypeId} {z : Nat × Nat} (hb : w.heap[b]? = some (.cells vs t z)) : b ≠ m := by
 rintro rfl
 obtain ⟨es, c, q, _⟩ := hm
 rw [hb] at q; cases q
theorem VE.at' (h : VE w0 tb L T lo3 bs bv bt bl mm w sn ls sl) : TAt w tb L T := h.t0.fr h.fr fun _ hb _ => hb
theorem VE.put (h : VE w0 tb L T lo3 bs bv bt bl mm w sn ls sl) (f : Fr (· ≠ mm) w w') (hm : MapIs 32 w' mm (seenL sn')) : VE w0 tb L T lo3 bs bv bt bl mm w' sn' ls sl := by
 have g5 := h.g5
 have h5 := h.h5
 exact { h with
  fr := h.fr.trans (f.mono fun q hq => by show q ≠ mm; have : q < w0.heap.size := hq; omega)
  s := (f.block _ (block_lt h.s) (map_ne h.map h.s)).trans h.s
  v := (f.block _ (block_lt h.v) (map_ne h.map h.v)).trans h.v
  t := (f.block _ (block_lt h.t) (map_ne h.map h.t)).trans h.t
  l := (f.block _ (block_lt h.l) (map_ne h.map h.l)).trans h.l
  map := hm
  own := ownsG_of h.own fun q _ hb hl => f.block q hl (by omega)
  h9 := Nat.le_trans h.h9 f.size }
theorem VE.grew (h : VE w0 tb L T lo3 bs bv bt bl mm w sn ls sl) (f : Fr (fun _ => True) w w') : VE w0 tb L T lo3 bs bv bt bl mm w' sn ls sl := h.put (f.mono fun _ _ => trivial) (h.map.of (f.block _ h.map.lt trivial))
theorem VE.push (h : VE w0 tb L T lo3 bs bv bt bl mm w sn ls sl) {wa w1 : World} {g' cap' f : Nat} (fa : Fr (fun _ => True) w wa) (ho : w1.ownsRow lo3 32 1 (.slice (some ⟨g', 0, none⟩) (ls.length + 1) cap') (ls.length + 1) (i64C ls ++ [.int .i64 (f : Int)])) (hg : wa.grownBy w1 sl.ownBlock) :
 w1.heap[bl]? = some (.cells #[sl] 35 (0, 0)) ∧ VE w0 tb L T lo3 bs bv bt bl mm (w1.setCell ⟨bl, 0, none⟩ (.slice (some ⟨g', 0, none⟩) (ls.length + 1) cap')) sn (ls ++ [f]) (.slice (some ⟨g', 0, none⟩) (ls.length + 1) cap') := by
 have f1 : Fr (fun q => sl.ownBlock ≠ some q) w w1 := (fa.mono fun _ _ => trivial).trans ⟨hg.os, hg.tape, hg.output, hg.size, fun q hq hp => hg.block q hq (fun e => hp e.symm)⟩
 have hlow : ∀ q, q < lo3 → sl.ownBlock ≠ some q := fun q hq e => by have := (h.own.lt q e).1; omega
 have f2 : Fr (· ≠ bl) w1 (w1.setCell ⟨bl, 0, none⟩ (.slice (some ⟨g', 0, none⟩) (ls.length + 1) cap')) := (Fr.refl _ w1).set (by simp) _
 have c1 := h.h1
 have c2 := h.h2
 have c3 := h.h3
 have c4 := h.h4
 have c5 := h.h5
 have e1 := h.g4
 have e3 := h.g6
 have l1 := (f1.block bl (block_lt h.l) (hlow _ c4)).trans h.l
 have m1 : MapIs 32 w1 mm (seenL sn) := h.map.of (f1.block _ h.map.lt (hlow _ c5))
 have n1 : bl ≠ mm := map_ne m1 l1
 have ty : ∀ {b : Nat} {vs : Array Value} {t : TypeId} {z : Nat × Nat}, w1.heap[b]? = some (.cells vs t z) → t ≠ 35 → b ≠ bl := by
  rintro b vs t z hb ht rfl
  rw [l1] at hb; cases hb; exact ht rfl
 have s1 := (f1.block bs (block_lt h.s) (hlow _ c1)).trans h.s
 have v1 := (f1.block bv (block_lt h.v) (hlow _ c2)).trans h.v
 have u1 := (f1.block bt (block_lt h.t) (hlow _ c3)).trans h.t
 exact ⟨l1, { h with
  fr := h.fr.trans ((f1.mono fun q hq => hlow q (by have : q < w0.heap.size := hq; omega)).trans (f2.mono fun q hq => by show q ≠ bl; have : q < w0.heap.size := hq; omega))
  s := (f2.block _ (block_lt s1) (ty s1 (by decide))).trans s1
  v := (f2.block _ (block_lt v1) (ty v1 (by decide))).trans v1
  t := (f2.block _ (block_lt u1) (ty u1 (by decide))).trans u1
  l := set_block l1 0 _
  map := m1.of (f2.block _ m1.lt (Ne.symm n1))
  own := by
   rw [List.length_append, List.length_singleton, i64C_push]
   exact ownsG_of ho fun q e hb hl => f2.block q hl (by omega)
  h9 := Nat.le_trans h.h9 (Nat.le_trans f1.size f2.size) }⟩
end
end Go.Proofs.YtaakjjefnjbabaaGreat.Sx
