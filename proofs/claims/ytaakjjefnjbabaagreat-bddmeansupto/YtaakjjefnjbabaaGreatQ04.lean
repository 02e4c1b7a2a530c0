/- Tables (plain): nodes are let go. -/
import Derived.Test.YtaakjjefnjbabaaGreatQ03
set_option maxRecDepth 100000
namespace Go.Proofs.YtaakjjefnjbabaaGreat.Sx
theorem nodup_len : ∀ (N : Nat) (l : List Nat), l.Nodup → (∀ x ∈ l, x < N) → l.length ≤ N
 | 0, l, _, h => by
   cases l with
   | nil => simp
   | cons a l => exact absurd (h a (by simp)) (by omega)
 | N + 1, l, hn, h => by
   by_cases hm : N ∈ l
   · have h1 := nodup_len N (l.erase N) (hn.erase N) fun x hx => by
      have := h x (List.mem_of_mem_erase hx)
      have h2 : x ≠ N := ((List.Nodup.mem_erase_iff hn).1 hx).1
      omega
     rw [List.length_erase_of_mem hm] at h1
     omega
   · have := nodup_len N l hn fun x hx => by
      have h1 := h x hx
      have : x ≠ N := fun e => hm (e ▸ hx)
      omega
     omega
def bump (p : Nat → Nat) (g : Nat) (x : Nat) : Nat := p x + if g = x then 1 else 0
section
variable {n : Nat} {ρ p : Nat → Nat} {T : Tb} {f : Nat} {r : Rw}
theorem Inv.noLink (h : Inv n ρ p T) (hr : T.rows[f]? = some r) (hu : r.users = 0) {g : Nat} {q : Rw} (hg : T.rows[g]? = some q) : lw n f q = 0 := by
 have h1 := h.us f r hr
 have h2 : lnk n T.rows f = 0 := by omega
 have h3 := @lnk_pos n T.rows g q f hg
 omega
theorem Inv.noPart (h : Inv n ρ p T) (hr : T.rows[f]? = some r) (hu : r.users = 0) {g : Nat} {q : Rw} (h2 : 2 ≤ g) (hg : T.rows[g]? = some q) (hl : q.about ≠ -1) : q.low ≠ f ∧ q.high ≠ f := by
 have h1 := h.noLink hr hu hg
 obtain ⟨a1, a2, _⟩ := h.nd g q h2 hg hl
 unfold lw at h1
 rw [if_pos ⟨a1, a2⟩] at h1
 constructor
 · intro e; rw [if_pos e] at h1; omega
 · intro e; rw [if_pos e] at h1; omega
theorem Inv.struck (h : Inv n ρ p T) (h2 : 2 ≤ f) (hr : T.rows[f]? = some r) (hd : r.about ≠ -1) (hu : r.users = 0) (hg : r.given = false) : Inv n ρ (bump (bump p r.high) r.low) (strike T f r) := by
 have hfl := lt_of_at hr
 have hget : ∀ x, x ≠ f → (strike T f r).rows[x]? = T.rows[x]? := fun x hx => by
  show (T.rows.set f (goneR r))[x]? = _
  rw [List.getElem?_set_ne (Ne.symm hx)]
 have hgf : (strike T f r).rows[f]? = some (goneR r) := by
  show (T.rows.set f (goneR r))[f]? = _
  rw [List.getElem?_set_self hfl]
 have hlive : ∀ x, x ≠ f → Live T x → Live (strike T f r) x := fun x hx ⟨q, hq, hl⟩ => ⟨q, by rw [hget x hx]; exact hq, hl⟩
 obtain ⟨b1, b2, b3, b4, b5, b6, b7⟩ := h.nd f r h2 hr hd
 refine ⟨h.on, ?_, ?_, ?_, ?_, nodup_filter h.mn, ?_, ?_, ?_, ?_, ?_⟩
 · obtain ⟨u, e⟩ := h.e0; exact ⟨u, by rw [hget 0 (by omega)]; exact e⟩
 · obtain ⟨u, e⟩ := h.e1; exact ⟨u, by rw [hget 1 (by omega)]; exact e⟩
 · intro x q hx hq hl
   by_cases e : x = f
   · subst e; rw [hgf] at hq; cases hq; exact absurd rfl hl
   · rw [hget x e] at hq
     obtain ⟨a1, a2, a3, a4, a5, a6, a7⟩ := h.nd x q hx hq hl
     have hnp := h.noPart hr hu hx hq hl
     exact ⟨a1, a2, a3, hlive _ hnp.1 a4, hlive _ hnp.2 a5, a6, a7⟩
 · intro k x
   show (k, x) ∈ T.made.filter _ ↔ _
   rw [List.mem_filter]
   constructor
   · rintro ⟨hm, hk⟩
     have hk : k ≠ keyR r := by simpa using hk
     obtain ⟨hx, q, hq, hl, e⟩ := (h.made k x).1 hm
     have hne : x ≠ f := fun e2 => hk (by rw [e2, hr] at hq; cases hq; exact e)
     exact ⟨hx, q, by rw [hget x hne]; exact hq, hl, e⟩
   · rintro ⟨hx, q, hq, hl, e⟩
     by_cases e2 : x = f
     · subst e2; rw [hgf] at hq; cases hq; exact absurd rfl hl
     · rw [hget x e2] at hq
       have hm := (h.made k x).2 ⟨hx, q, hq, hl, e⟩
       refine ⟨hm, ?_⟩
       simp only [decide_eq_true_eq]
       intro e3
       have hm2 := (h.made (keyR r) f).2 ⟨h2, r, hr, hd, rfl⟩
       have := nodup_fst h.mn hm (e3 ▸ hm2 : (k, f) ∈ T.made)
       exact e2 this
 · intro x
   show x ∈ T.free ++ [f] ↔ _
   rw [List.mem_append, List.mem_singleton, h.free x]
   constructor
   · rintro (⟨q, hq, hl⟩ | rfl)
     · have hne : x ≠ f := fun e => by rw [e, hr] at hq; cases hq; exact hd hl
       exact ⟨q, by rw [hget x hne]; exact hq, hl⟩
     · exact ⟨_, hgf, rfl⟩
   · rintro ⟨q, hq, hl⟩
     by_cases e : x = f
     · exact .inr e
     · rw [hget x e] at hq; exact .inl ⟨q, hq, hl⟩
 · show (T.free ++ [f]).Nodup
   refine List.nodup_append.2 ⟨h.fn, by simp, fun a ha b hb => ?_⟩
   rw [List.mem_singleton.1 hb]
   rintro rfl
   obtain ⟨q, hq, hl⟩ := (h.free a).1 ha
   rw [hr] at hq; cases hq; exact hd hl
 · intro x q hq
   have hl1 := lnk_set (n := n) x (goneR r) hr
   have e1 : lw n x (goneR r) = 0 := by unfold lw goneR; rw [if_neg (by simp)]
   have e2 : lw n x r = (if r.low = x then 1 else 0) + (if r.high = x then 1 else 0) := by unfold lw; rw [if_pos ⟨b1, b2⟩]
   show q.users = lnk n (T.rows.set f (goneR r)) x + bump (bump p r.high) r.low x
   unfold bump
   by_cases e : x = f
   · subst e
     rw [hgf] at hq; cases hq
     have := h.us x r hr
     show r.users = _
     have hz := h.noLink hr hu hr
     omega
   · rw [hget x e] at hq
     have := h.us x q hq
     omega
 · intro x q hq hl
   by_cases e : x = f
   · subst e; rw [hgf] at hq; cases hq; exact ⟨hg, hu⟩
   · rw [hget x e] at hq; exact h.dg x q hq hl
 · intro x q hq
   have hll : (strike T f r).rows.length = T.rows.length := by show (T.rows.set f (goneR r)).length = _; simp
   rw [hll]
   by_cases e : x = f
   · subst e; rw [hgf] at hq; cases hq; exact h.lh x r hr
   · rw [hget x e] at hq; exact h.lh x q hq
theorem Inv.other (h : Inv n ρ p T) {p' : Nat → Nat} {q : Rw} (hr : T.rows[f]? = some r) (ha : q.about = r.about) (hlo : q.low = r.low) (hhi : q.high = r.high) (hgi : q.given = r.given) (hu : q.users = lnk n T.rows f + p' f) (hp : ∀ x, x ≠ f → p' x = p x) (hdu : r.about = -1 → q.users = 0) : Inv n ρ p' { T with rows := T.rows.set f q } := by
 have hfl := lt_of_at hr
 have hget : ∀ x, x ≠ f → (T.rows.set f q)[x]? = T.rows[x]? := fun x hx => by rw [List.getElem?_set_ne (Ne.symm hx)]
 have hgf : (T.rows.set f q)[f]? = some q := by rw [List.getElem?_set_self hfl]
 have hfrom : ∀ (x : Nat) (z : Rw), (T.rows.set f q)[x]? = some z → ∃ z' : Rw, T.rows[x]? = some z' ∧ z.about = z'.about ∧ z.low = z'.low ∧ z.high = z'.high ∧ z.given = z'.given := fun x z hz => by
  by_cases e : x = f
  · subst e; rw [hgf] at hz; cases hz; exact ⟨r, hr, ha, hlo, hhi, hgi⟩
  · rw [hget x e] at hz; exact ⟨z, hz, rfl, rfl, rfl, rfl⟩
 have hto : ∀ (x : Nat) (z : Rw), T.rows[x]? = some z → ∃ z' : Rw, (T.rows.set f q)[x]? = some z' ∧ z'.about = z.about ∧ z'.low = z.low ∧ z'.high = z.high ∧ z'.given = z.given := fun x z hz => by
  by_cases e : x = f
  · subst e; rw [hr] at hz; cases hz; exact ⟨q, hgf, ha, hlo, hhi, hgi⟩
  · exact ⟨z, by rw [hget x e]; exact hz, rfl, rfl, rfl, rfl⟩
 have hlive : ∀ x, Live T x → Live { T with rows := T.rows.set f q } x := fun x ⟨z, hz, hl⟩ => by
  obtain ⟨z', h1, h2, _⟩ := hto x z hz
  exact ⟨z', h1, by rw [h2]; exact hl⟩
 have hlw : ∀ x, lw n x q = lw n x r := fun x => by unfold lw; rw [ha, hlo, hhi]
 have hln : ∀ x, lnk n (T.rows.set f q) x = lnk n T.rows x := fun x => by
  have := lnk_set (n := n) x q hr
  rw [hlw x] at this
  omega
 refine ⟨h.on, ?_, ?_, ?_, ?_, h.mn, ?_, h.fn, ?_, ?_, ?_⟩
 · obtain ⟨u, e⟩ := h.e0
   obtain ⟨⟨a, b, c, d, g⟩, h1, h2, h3, h4, h5⟩ := hto 0 _ e
   simp only at h2 h3 h4 h5
   subst h2 h3 h4 h5
   exact ⟨d, h1⟩
 · obtain ⟨u, e⟩ := h.e1
   obtain ⟨⟨a, b, c, d, g⟩, h1, h2, h3, h4, h5⟩ := hto 1 _ e
   simp only at h2 h3 h4 h5
   subst h2 h3 h4 h5
   exact ⟨d, h1⟩
 · intro x z hx hz hl
   obtain ⟨z', h1, h2, h3, h4, _⟩ := hfrom x z hz
   rw [h2] at hl ⊢
   rw [h3, h4]
   obtain ⟨a1, a2, a3, a4, a5, a6, a7⟩ := h.nd x z' hx h1 hl
   exact ⟨a1, a2, a3, hlive _ a4, hlive _ a5, a6, a7⟩
 · intro k x
   show (k, x) ∈ T.made ↔ _
   rw [h.made k x]
   constructor
   · rintro ⟨hx, z, hz, hl, e⟩
     obtain ⟨z', h1, h2, h3, h4, _⟩ := hto x z hz
     exact ⟨hx, z', h1, by rw [h2]; exact hl, by rw [e]; unfold keyR; rw [h2, h3, h4]⟩
   · rintro ⟨hx, z, hz, hl, e⟩
     obtain ⟨z', h1, h2, h3, h4, _⟩ := hfrom x z hz
     exact ⟨hx, z', h1, by rw [← h2]; exact hl, by rw [e]; unfold keyR; rw [h2, h3, h4]⟩
 · intro x
   show x ∈ T.free ↔ _
   rw [h.free x]
   constructor
   · rintro ⟨z, hz, hl⟩
     obtain ⟨z', h1, h2, _⟩ := hto x z hz
     exact ⟨z', h1, by rw [h2]; exact hl⟩
   · rintro ⟨z, hz, hl⟩
     obtain ⟨z', h1, h2, _⟩ := hfrom x z hz
     exact ⟨z', h1, by rw [← h2]; exact hl⟩
 · intro x z hz
   show z.users = lnk n (T.rows.set f q) x + p' x
   rw [hln x]
   by_cases e : x = f
   · subst e; rw [hgf] at hz; cases hz; exact hu
   · rw [hget x e] at hz; rw [hp x e]; exact h.us x z hz
 · intro x z hz hl
   by_cases e : x = f
   · subst e
     rw [hgf] at hz; cases hz
     rw [ha] at hl
     exact ⟨by rw [hgi]; exact (h.dg x r hr hl).1, hdu hl⟩
   · rw [hget x e] at hz; exact h.dg x z hz hl
 · intro x z hz
   obtain ⟨z', h1, _, h3, h4, _⟩ := hfrom x z hz
   show z.low < (T.rows.set f q).length ∧ z.high < (T.rows.set f q).length
   rw [h3, h4, List.length_set]
   exact h.lh x z' h1
theorem Inv.lightened {g : Nat} {l : Rw} (h : Inv n ρ (bump p g) T) (hr : T.rows[g]? = some l) : 0 < l.users ∧ Inv n ρ p (lighten T g l) := by
 have h1 := h.us g l hr
 unfold bump at h1
 rw [if_pos rfl] at h1
 refine ⟨by omega, h.other hr rfl rfl rfl rfl (by show l.users - 1 = _; omega) (fun x hx => by unfold bump; rw [if_neg (Ne.symm hx)]; omega) fun hd => ?_⟩
 have := (h.dg g l hr hd).2
 omega
end
end Go.Proofs.YtaakjjefnjbabaaGreat.Sx
namespace Go.Proofs.YtaakjjefnjbabaaGreat.Sx
def NG (S : Nat → Prop) (T : Tb) : Prop := ∀ (x : Nat) (r : Rw), 2 ≤ x → T.rows[x]? = some r → r.about ≠ -1 → ¬ S x → r.given = true ∨ 0 < r.users
theorem NG.mono {S S' : Nat → Prop} {T : Tb} (h : NG S T) (hs : ∀ x, S x → S' x) : NG S' T := fun x r h2 hr hl hn => h x r h2 hr hl fun q => hn (hs x q)
structure Less (T T' : Tb) : Prop where
 ord : T'.ord = T.ord
 lev : T'.lev = T.lev
 found : T'.found = T.found
 fresh : T'.fresh = T.fresh
 len : T'.rows.length = T.rows.length
 keep : ∀ (x : Nat) (q' : Rw), T'.rows[x]? = some q' → q'.about ≠ -1 → ∃ q : Rw, T.rows[x]? = some q ∧ q.about = q'.about ∧ q.low = q'.low ∧ q.high = q'.high ∧ q.given = q'.given
 giv : ∀ (x : Nat) (q : Rw), T.rows[x]? = some q → q.about ≠ -1 → q.given = true → Live T' x
 us : ∀ (x : Nat) (q' : Rw), T'.rows[x]? = some q' → ∃ q : Rw, T.rows[x]? = some q ∧ q'.users ≤ q.users
theorem Less.refl (T : Tb) : Less T T := ⟨rfl, rfl, rfl, rfl, rfl, fun _ q h _ => ⟨q, h, rfl, rfl, rfl, rfl⟩, fun _ q h hl _ => ⟨q, h, hl⟩, fun _ q h => ⟨q, h, Nat.le_refl _⟩⟩
theorem Less.trans {A B C : Tb} (h : Less A B) (k : Less B C) : Less A C :=
 ⟨k.ord.trans h.ord, k.lev.trans h.lev, k.found.trans h.found, k.fresh.trans h.fresh, k.len.trans h.len,
  fun x q' hq hl => by
   obtain ⟨q, h1, h2, h3, h4, h5⟩ := k.keep x q' hq hl
   obtain ⟨z, g1, g2, g3, g4, g5⟩ := h.keep x q h1 (by rw [h2]; exact hl)
   exact ⟨z, g1, g2.trans h2, g3.trans h3, g4.trans h4, g5.trans h5⟩,
  fun x q hq hl hg => by
   obtain ⟨z, hz, hzl⟩ := h.giv x q hq hl hg
   obtain ⟨y, h1, h2, h3, h4, h5⟩ := h.keep x z hz hzl
   rw [hq] at h1; cases h1
   exact k.giv x z hz hzl (by rw [← h5]; exact hg),
  fun x q' hq => by
   obtain ⟨q, h1, h2⟩ := k.us x q' hq
   obtain ⟨z, g1, g2⟩ := h.us x q h1
   exact ⟨z, g1, Nat.le_trans h2 g2⟩⟩
theorem Less.live {T T' : Tb} (h : Less T T') {x : Nat} (hl : Live T' x) : Live T x := by
 obtain ⟨q, hq, hd⟩ := hl
 obtain ⟨z, h1, h2, _⟩ := h.keep x q hq hd
 exact ⟨z, h1, by rw [h2]; exact hd⟩
theorem Less.set {T : Tb} {f : Nat} {r q : Rw} (hr : T.rows[f]? = some r) (ha : q.about = r.about) (hlo : q.low = r.low) (hhi : q.high = r.high) (hgi : q.given = r.given) (hu : q.users ≤ r.users) : Less T { T with rows := T.rows.set f q } := by
 have hfl := lt_of_at hr
 have hget : ∀ x, x ≠ f → (T.rows.set f q)[x]? = T.rows[x]? := fun x hx => by rw [List.getElem?_set_ne (Ne.symm hx)]
 have hgf : (T.rows.set f q)[f]? = some q := by rw [List.getElem?_set_self hfl]
 refine ⟨rfl, rfl, rfl, rfl, by simp, fun x z hz hl => ?_, fun x z hz hl hg => ?_, fun x z hz => ?_⟩
 · by_cases e : x = f
   · subst e
     have hz : (T.rows.set x q)[x]? = some z := hz
     rw [hgf] at hz; cases hz; exact ⟨r, hr, ha.symm, hlo.symm, hhi.symm, hgi.symm⟩
   · have hz : (T.rows.set f q)[x]? = some z := hz
     rw [hget x e] at hz; exact ⟨z, hz, rfl, rfl, rfl, rfl⟩
 · by_cases e : x = f
   · subst e; rw [hr] at hz; cases hz; exact ⟨q, hgf, by rw [ha]; exact hl⟩
   · exact ⟨z, by show (T.rows.set f q)[x]? = _; rw [hget x e]; exact hz, hl⟩
 · by_cases e : x = f
   · subst e
     have hz : (T.rows.set x q)[x]? = some z := hz
     rw [hgf] at hz; cases hz; exact ⟨r, hr, hu⟩
   · have hz : (T.rows.set f q)[x]? = some z := hz
     rw [hget x e] at hz; exact ⟨z, hz, Nat.le_refl _⟩
theorem Less.strike {T : Tb} {f : Nat} {r : Rw} (hr : T.rows[f]? = some r) (hg : r.given = false) : Less T (strike T f r) := by
 have hfl := lt_of_at hr
 have hget : ∀ x, x ≠ f → (T.rows.set f (goneR r))[x]? = T.rows[x]? := fun x hx => by rw [List.getElem?_set_ne (Ne.symm hx)]
 have hgf : (T.rows.set f (goneR r))[f]? = some (goneR r) := by rw [List.getElem?_set_self hfl]
 refine ⟨rfl, rfl, rfl, rfl, by simp [Sx.strike], fun x z hz hl => ?_, fun x z hz hl hg2 => ?_, fun x z hz => ?_⟩
 · have hz : (T.rows.set f (goneR r))[x]? = some z := hz
   by_cases e : x = f
   · subst e; rw [hgf] at hz; cases hz; exact absurd rfl hl
   · rw [hget x e] at hz; exact ⟨z, hz, rfl, rfl, rfl, rfl⟩
 · by_cases e : x = f
   · subst e; rw [hr] at hz; cases hz; rw [hg] at hg2; cases hg2
   · exact ⟨z, by show (T.rows.set f (goneR r))[x]? = _; rw [hget x e]; exact hz, hl⟩
 · have hz : (T.rows.set f (goneR r))[x]? = some z := hz
   by_cases e : x = f
   · subst e; rw [hgf] at hz; cases hz; exact ⟨r, hr, Nat.le_refl _⟩
   · rw [hget x e] at hz; exact ⟨z, hz, Nat.le_refl _⟩
theorem Less.lighten {T : Tb} {g : Nat} {l : Rw} (hr : T.rows[g]? = some l) : Less T (lighten T g l) := Less.set hr rfl rfl rfl rfl (Nat.sub_le _ _)
def Up (P : Nat → Prop) (T : Tb) : Prop := ∀ (x : Nat) (r : Rw), 2 ≤ x → T.rows[x]? = some r → r.about ≠ -1 → ¬ P x → ¬ P r.low ∧ ¬ P r.high
theorem Up.less {P : Nat → Prop} {T T' : Tb} (h : Up P T) (k : Less T T') : Up P T' := fun x r h2 hr hl hp => by
 obtain ⟨q, h1, e1, e2, e3, _⟩ := k.keep x r hr hl
 rw [← e2, ← e3]
 exact h x q h2 h1 (by rw [e1]; exact hl) hp
structure DropPost (n : Nat) (ρ p : Nat → Nat) (T : Tb) (f : Nat) (T' : Tb) : Prop where
 inv : Inv n ρ p T'
 less : Less T T'
 prot : ∀ P : Nat → Prop, ¬ P f → Up P T → ∀ (x : Nat) (r : Rw), P x → T.rows[x]? = some r → T'.rows[x]? = some r
 ng : ∀ S : Nat → Prop, NG S T → NG (fun x => S x ∧ x ≠ f) T'
theorem Inv.okR2 {n : Nat} {ρ p : Nat → Nat} {T : Tb} (h : Inv n ρ p T) (hn : n ≤ 24) (hl : Sm T.rows.length) (hu : ∀ r ∈ T.rows, Sm r.users) {f : Nat} {r : Rw} (hr : T.rows[f]? = some r) : OkR r := by
 have h1 := h.ab hr
 have h2 := h.lh f r hr
 unfold Sm at hl
 exact ⟨h1.1, by omega, by unfold Sm; omega, by unfold Sm; omega, hu r (List.mem_of_getElem? hr)⟩
theorem Less.smU {T T' : Tb} (h : Less T T') (hu : ∀ r ∈ T.rows, Sm r.users) : ∀ r ∈ T'.rows, Sm r.users := fun r hr => by
 obtain ⟨x, hx⟩ := List.getElem?_of_mem hr
 obtain ⟨q, h1, h2⟩ := h.us x r hx
 have := hu q (List.mem_of_getElem? h1)
 unfold Sm at this ⊢
 omega
theorem drop_plain {n : Nat} {ρ : Nat → Nat} (hn : n ≤ 24) (B : Nat) : ∀ (m : Nat) (T : Tb) (f : Nat) (p : Nat → Nat), Inv n ρ p T → Live T f → (∀ x, Live T x → ρ x ≤ B) → B ≤ ρ f + m → T.rows.length ≤ 549755813888 → (∀ r ∈ T.rows, Sm r.users) → ∃ T', Drops (m + 1) T f T' ∧ DropPost n ρ p T f T' := by
 intro m
 induction m with
 | zero =>
   intro T f p h hf hB hm hl hu
   obtain ⟨r, hr, hd⟩ := hf
   by_cases hc : 0 < r.users ∨ r.given = true
   · exact ⟨T, ⟨r, hr, .inl ⟨hc, rfl⟩⟩, h, Less.refl T, fun _ _ _ _ _ _ hx => hx, fun S hS x q h2 hq hql hns => by
      by_cases e : x = f
      · subst e; rw [hr] at hq; cases hq; exact hc.symm
      · exact hS x q h2 hq hql fun q => hns ⟨q, e⟩⟩
   · have h2 : 2 ≤ f := by
      match f, hr with
      | 0, hr => obtain ⟨u, e⟩ := h.e0; rw [e] at hr; cases hr; exact absurd (.inr rfl) hc
      | 1, hr => obtain ⟨u, e⟩ := h.e1; rw [e] at hr; cases hr; exact absurd (.inr rfl) hc
      | f + 2, _ => omega
     obtain ⟨_, _, _, a4, _, a6, _⟩ := h.nd f r h2 hr hd
     have := hB _ a4
     omega
 | succ m ih =>
   intro T f p h hf hB hm hl hu
   obtain ⟨r, hr, hd⟩ := hf
   by_cases hc : 0 < r.users ∨ r.given = true
   · exact ⟨T, ⟨r, hr, .inl ⟨hc, rfl⟩⟩, h, Less.refl T, fun _ _ _ _ _ _ hx => hx, fun S hS x q h2 hq hql hns => by
      by_cases e : x = f
      · subst e; rw [hr] at hq; cases hq; exact hc.symm
      · exact hS x q h2 hq hql fun q => hns ⟨q, e⟩⟩
   · have h2 : 2 ≤ f := by
      match f, hr with
      | 0, hr => obtain ⟨u, e⟩ := h.e0; rw [e] at hr; cases hr; exact absurd (.inr rfl) hc
      | 1, hr => obtain ⟨u, e⟩ := h.e1; rw [e] at hr; cases hr; exact absurd (.inr rfl) hc
      | f + 2, _ => omega
     have hu0 : r.users = 0 := by
      have : ¬ 0 < r.users := fun q => hc (.inl q)
      omega
     have hg0 : r.given = false := by
      cases q : r.given with
      | true => exact absurd (.inr q) hc
      | false => rfl
     obtain ⟨a1, a2, a3, a4, a5, a6, a7⟩ := h.nd f r h2 hr hd
     have hnp := h.noPart hr hu0 h2 hr hd
     have hS := h.struck h2 hr hd hu0 hg0
     have L1 := Less.strike hr hg0
     have hget : ∀ x, x ≠ f → (strike T f r).rows[x]? = T.rows[x]? := fun x hx => by
      show (T.rows.set f (goneR r))[x]? = _
      rw [List.getElem?_set_ne (Ne.symm hx)]
     obtain ⟨l, hl1, hl2⟩ := a4
     have hl1' : (strike T f r).rows[r.low]? = some l := by rw [hget _ hnp.1]; exact hl1
     obtain ⟨hl3, I1⟩ := hS.lightened hl1'
     have L2 := L1.trans (Less.lighten hl1')
     have hsl : Sm T.rows.length := by unfold Sm; omega
     have hok1 : OkR l := hS.okR2 hn (by rw [L1.len]; exact hsl) (L1.smU hu) hl1'
     have hlive1 : Live (lighten (strike T f r) r.low l) r.low := ⟨lessR l, by show ((strike T f r).rows.set r.low (lessR l))[r.low]? = _; rw [List.getElem?_set_self (lt_of_at hl1')], hl2⟩
     obtain ⟨T2, D1, P1⟩ := ih (lighten (strike T f r) r.low l) r.low _ I1 hlive1 (fun x hx => hB x (L2.live hx)) (by omega) (by rw [L2.len]; exact hl) (L2.smU hu)
     have L3 := L2.trans P1.less
     obtain ⟨h', hh1⟩ : ∃ h', T2.rows[r.high]? = some h' := ⟨_, List.getElem?_eq_getElem (by rw [L3.len]; exact (h.lh f r hr).2)⟩
     obtain ⟨hh3, I2⟩ := P1.inv.lightened hh1
     have hhd : h'.about ≠ -1 := fun e => by have := (P1.inv.dg _ _ hh1 e).2; omega
     have hok2 : OkR h' := P1.inv.okR2 hn (by rw [L3.len]; exact hsl) (L3.smU hu) hh1
     have L4 := L3.trans (Less.lighten hh1)
     have hlive2 : Live (lighten T2 r.high h') r.high := ⟨lessR h', by show (T2.rows.set r.high (lessR h'))[r.high]? = _; rw [List.getElem?_set_self (lt_of_at hh1)], hhd⟩
     obtain ⟨T', D2, P2⟩ := ih (lighten T2 r.high h') r.high _ I2 hlive2 (fun x hx => hB x (L4.live hx)) (by omega) (by rw [L4.len]; exact hl) (L4.smU hu)
     have hfree : T.free.length ≤ T.rows.length := nodup_len _ _ h.fn fun x hx => by
      obtain ⟨q, hq, _⟩ := (h.free x).1 hx
      exact lt_of_at hq
     have hfl := lt_of_at hr
     refine ⟨T', ⟨r, hr, .inr ⟨hc, h.okR2 hn hsl hu hr, by unfold Sm; omega, by unfold Sm; omega, l, T2, h', hl1', hl3, hok1, D1, hh1, hh3, hok2, D2⟩⟩, P2.inv, L4.trans P2.less, fun P hPf hU x q hPx hq => ?_, fun S hNG => ?_⟩
     · have hnlh := hU f r h2 hr hd hPf
       have hxf : x ≠ f := fun e => hPf (e ▸ hPx)
       have hxl : x ≠ r.low := fun e => hnlh.1 (e ▸ hPx)
       have hxh : x ≠ r.high := fun e => hnlh.2 (e ▸ hPx)
       have q1 : (lighten (strike T f r) r.low l).rows[x]? = some q := by
        show ((strike T f r).rows.set r.low (lessR l))[x]? = _
        rw [List.getElem?_set_ne (Ne.symm hxl), hget x hxf]; exact hq
       have q2 := P1.prot P hnlh.1 (hU.less L2) x q hPx q1
       have q3 : (lighten T2 r.high h').rows[x]? = some q := by
        show (T2.rows.set r.high (lessR h'))[x]? = _
        rw [List.getElem?_set_ne (Ne.symm hxh)]; exact q2
       exact P2.prot P hnlh.2 (hU.less L4) x q hPx q3
     · have n1 : NG (fun x => (S x ∧ x ≠ f) ∨ x = r.low) (lighten (strike T f r) r.low l) := by
        intro x q hx hq hql hns
        have hxl : x ≠ r.low := fun e => hns (.inr e)
        have hq : ((strike T f r).rows.set r.low (lessR l))[x]? = some q := hq
        rw [List.getElem?_set_ne (Ne.symm hxl)] at hq
        have hxf : x ≠ f := fun e => by
         rw [e] at hq
         have hq : (T.rows.set f (goneR r))[f]? = some q := hq
         rw [List.getElem?_set_self hfl] at hq
         cases hq; exact hql rfl
        rw [hget x hxf] at hq
        exact hNG x q hx hq hql fun hs => hns (.inl ⟨hs, hxf⟩)
       have n2 := (P1.ng _ n1).mono (S' := fun x => S x ∧ x ≠ f) fun x hx => hx.1.resolve_right hx.2
       have n3 : NG (fun x => (S x ∧ x ≠ f) ∨ x = r.high) (lighten T2 r.high h') := by
        intro x q hx hq hql hns
        have hxl : x ≠ r.high := fun e => hns (.inr e)
        have hq : (T2.rows.set r.high (lessR h'))[x]? = some q := hq
        rw [List.getElem?_set_ne (Ne.symm hxl)] at hq
        exact n2 x q hx hq hql fun hs => hns (.inl hs)
       exact (P2.ng _ n3).mono fun x hx => hx.1.resolve_right hx.2
end Go.Proofs.YtaakjjefnjbabaaGreat.Sx
namespace Go.Proofs.YtaakjjefnjbabaaGreat.Sx
def z0 (_ : Nat) : Nat := 0
def i1 (a x : Nat) : Nat := if a = x then 1 else 0
theorem lnk_modify {n : Nat} {R : List Rw} {i : Nat} {r : Rw} (k : Rw → Rw) (g : Nat) (h : R[i]? = some r) : lnk n (R.modify i k) g + lw n g r = lnk n R g + lw n g (k r) := by
 rw [modify_set k h]; exact lnk_set g _ h
theorem lnk_more {n : Nat} {R : List Rw} {i : Nat} (g : Nat) : lnk n (R.modify i moreR) g = lnk n R g := by
 cases h : R[i]? with
 | none =>
   have : R.modify i moreR = R := List.ext_getElem? fun j => by
    rw [get_modify]
    split
    · rename_i e; subst e; rw [h]; rfl
    · rfl
   rw [this]
 | some r =>
   have h1 := lnk_modify (n := n) moreR g h
   have h2 : lw n g (moreR r) = lw n g r := rfl
   omega
structure NewNum (n : Nat) (T : Tb) : Prop where
 two : 2 ≤ (numberP T).2
 dead : ¬ Live T (numberP T).2
 old : ∀ r, T.rows[(numberP T).2]? = some r → r.users = 0 ∧ r.given = false ∧ r.about = -1
 row : ∃ r0, (numberP T).1.rows[(numberP T).2]? = some r0 ∧ r0.users = 0 ∧ r0.given = false ∧ ∀ g, lnk n (numberP T).1.rows g = lnk n T.rows g + lw n g r0
 get : ∀ x, x ≠ (numberP T).2 → (numberP T).1.rows[x]? = T.rows[x]?
 len : T.rows.length ≤ (numberP T).1.rows.length ∧ (numberP T).1.rows.length ≤ T.rows.length + 1 ∧ (numberP T).2 < (numberP T).1.rows.length
 free : ∀ x, x ∈ (numberP T).1.free ↔ x ∈ T.free ∧ x ≠ (numberP T).2
 fn : (numberP T).1.free.Nodup
 rest : (numberP T).1.ord = T.ord ∧ (numberP T).1.lev = T.lev ∧ (numberP T).1.made = T.made ∧ (numberP T).1.found = T.found ∧ (numberP T).1.fresh = T.fresh
section
variable {n : Nat} {ρ p : Nat → Nat} {T : Tb}
theorem Inv.num (h : Inv n ρ p T) : NewNum n T := by
 cases q : T.free.getLast? with
 | some f =>
   have e : numberP T = ({ T with free := T.free.dropLast }, f) := by unfold numberP; rw [q]
   have hm : f ∈ T.free := List.mem_of_getLast? q
   obtain ⟨r, hr, hd⟩ := (h.free f).1 hm
   have hg := h.dg f r hr hd
   have hsplit : T.free = T.free.dropLast ++ [f] := by
    obtain ⟨ys, hy⟩ := List.getLast?_eq_some_iff.1 q
    rw [hy]; simp
   have hnd := h.fn
   rw [hsplit] at hnd
   obtain ⟨n1, _, n3⟩ := List.nodup_append.1 hnd
   refine ⟨?_, ?_, ?_, ⟨r, ?_⟩, ?_, ?_, ?_, ?_, ?_⟩ <;> rw [e]
   · match f, hr with
     | 0, hr => obtain ⟨u, e⟩ := h.e0; rw [e] at hr; cases hr; exact absurd hd (by show (n : Int) ≠ -1; omega)
     | 1, hr => obtain ⟨u, e⟩ := h.e1; rw [e] at hr; cases hr; exact absurd hd (by show (n : Int) ≠ -1; omega)
     | f + 2, _ => exact Nat.le_add_left _ _
   · rintro ⟨z, hz, hl⟩
     have hz : T.rows[f]? = some z := hz
     rw [hr] at hz; cases hz; exact hl hd
   · intro z hz
     have hz : T.rows[f]? = some z := hz
     rw [hr] at hz; cases hz; exact ⟨hg.2, hg.1, hd⟩
   · exact ⟨hr, hg.2, hg.1, fun g => by show lnk n T.rows g = _; unfold lw; rw [if_neg (by rw [hd]; omega)]; rfl⟩
   · exact fun x _ => rfl
   · exact ⟨Nat.le_refl _, Nat.le_succ _, lt_of_at hr⟩
   · intro x
     show x ∈ T.free.dropLast ↔ x ∈ T.free ∧ x ≠ f
     constructor
     · intro hx
       exact ⟨by rw [hsplit]; exact List.mem_append.2 (.inl hx), fun e => n3 x hx f (by simp) e⟩
     · rintro ⟨hx, hne⟩
       rw [hsplit] at hx
       rcases List.mem_append.1 hx with hx | hx
       · exact hx
       · exact absurd (List.mem_singleton.1 hx) hne
   · exact n1
   · exact ⟨rfl, rfl, rfl, rfl, rfl⟩
 | none =>
   have e : numberP T = ({ T with rows := T.rows ++ [newRow] }, T.rows.length) := by unfold numberP; rw [q]
   have hnil : T.free = [] := List.getLast?_eq_none_iff.1 q
   refine ⟨?_, ?_, ?_, ⟨newRow, ?_⟩, ?_, ?_, ?_, ?_, ?_⟩ <;> rw [e]
   · exact h.two
   · rintro ⟨z, hz, hl⟩
     have := lt_of_at hz
     exact absurd this (Nat.lt_irrefl _)
   · intro z hz
     have := lt_of_at hz
     exact absurd this (Nat.lt_irrefl _)
   · exact ⟨by simp, rfl, rfl, fun g => lnk_push n T.rows newRow g⟩
   · intro x hx
     show (T.rows ++ [newRow])[x]? = T.rows[x]?
     by_cases hl : x < T.rows.length
     · rw [List.getElem?_append_left hl]
     · have hx : x ≠ T.rows.length := hx
       rw [List.getElem?_eq_none (by simp; omega), List.getElem?_eq_none (by omega)]
   · exact ⟨by simp, by simp, by simp⟩
   · intro x
     show x ∈ T.free ↔ x ∈ T.free ∧ _
     rw [hnil]; simp
   · exact h.fn
   · exact ⟨rfl, rfl, rfl, rfl, rfl⟩
structure NodeNew (n : Nat) (T : Tb) (ab : Int) (lo hh : Nat) : Prop where
 num : NewNum n T
 row : (nodeP T ab lo hh).rows[(numberP T).2]? = some ⟨ab, lo, hh, 0, false⟩
 get : ∀ x, x ≠ (numberP T).2 → (nodeP T ab lo hh).rows[x]? = T.rows[x]?.map fun r => { r with users := r.users + i1 lo x + i1 hh x }
 len : (nodeP T ab lo hh).rows.length = (numberP T).1.rows.length
 lnk : 0 ≤ ab → ab < (n : Int) → ∀ g, lnk n (nodeP T ab lo hh).rows g = lnk n T.rows g + (i1 lo g + i1 hh g)
theorem Inv.nodeNew (h : Inv n ρ p T) (ab : Int) {lo hh : Nat} (hl : Live T lo) (hu : Live T hh) (hne : lo ≠ hh) : NodeNew n T ab lo hh := by
 have N := h.num
 obtain ⟨r0, k1, k2, k3, k4⟩ := N.row
 have hlf : lo ≠ (numberP T).2 := fun e => N.dead (e ▸ hl)
 have huf : hh ≠ (numberP T).2 := fun e => N.dead (e ▸ hu)
 have e1 : ∀ x : Nat, (nodeP T ab lo hh).rows[x]? = (((numberP T).1.rows.modify (numberP T).2 (askR ab lo hh)).modify lo moreR |>.modify hh moreR)[x]? := fun x => rfl
 refine ⟨N, ?_, fun x hx => ?_, ?_, fun a1 a2 g => ?_⟩
 · rw [e1, get_modify, if_neg huf, get_modify, if_neg hlf, get_modify, if_pos rfl, k1]
   simp only [Option.map_some, askR, k2, k3]
 · rw [e1, get_modify, get_modify, get_modify, if_neg (Ne.symm hx), N.get x hx]
   cases q : T.rows[x]? with
   | none => simp
   | some r =>
     unfold i1
     by_cases q1 : lo = x
     · have q2 : hh ≠ x := fun e => hne (q1.trans e.symm)
       simp [q1, q2, moreR]
     · by_cases q2 : hh = x
       · simp [q1, q2, moreR]
       · simp [q1, q2]
 · show (layM _ _ _ _ _).length = _
   unfold layM; simp
 · have e2 : lnk n (nodeP T ab lo hh).rows g = lnk n ((numberP T).1.rows.modify (numberP T).2 (askR ab lo hh)) g := by
    show Sx.lnk n (layM _ _ _ _ _) g = _
    unfold layM
    rw [lnk_more, lnk_more]
   rw [e2]
   have h1 := lnk_modify (n := n) (askR ab lo hh) g k1
   have h2 := k4 g
   have h3 : lw n g (askR ab lo hh r0) = i1 lo g + i1 hh g := by unfold lw askR; rw [if_pos ⟨a1, a2⟩]; rfl
   omega
structure More (T T' : Tb) : Prop where
 ord : T'.ord = T.ord
 lev : T'.lev = T.lev
 keep : ∀ (x : Nat) (q : Rw), T.rows[x]? = some q → q.about ≠ -1 → ∃ q' : Rw, T'.rows[x]? = some q' ∧ q'.about = q.about ∧ q'.low = q.low ∧ q'.high = q.high ∧ q'.given = q.given
theorem More.refl (T : Tb) : More T T := ⟨rfl, rfl, fun _ q h _ => ⟨q, h, rfl, rfl, rfl, rfl⟩⟩
theorem More.trans {A B C : Tb} (h : More A B) (k : More B C) : More A C :=
 ⟨k.ord.trans h.ord, k.lev.trans h.lev, fun x q hq hl => by
   obtain ⟨q', h1, h2, h3, h4, h5⟩ := h.keep x q hq hl
   obtain ⟨z, g1, g2, g3, g4, g5⟩ := k.keep x q' h1 (by rw [h2]; exact hl)
   exact ⟨z, g1, g2.trans h2, g3.trans h3, g4.trans h4, g5.trans h5⟩⟩
theorem More.live {A B : Tb} (h : More A B) {x : Nat} (hl : Live A x) : Live B x := by
 obtain ⟨q, hq, hd⟩ := hl
 obtain ⟨q', h1, h2, _⟩ := h.keep x q hq hd
 exact ⟨q', h1, by rw [h2]; exact hd⟩
theorem Inv.node (h : Inv n ρ z0 T) {ab : Int} {lo hh : Nat} (a1 : 0 ≤ ab) (a2 : ab < (n : Int)) (hl : Live T lo) (hu : Live T hh) (hne : lo ≠ hh) (hk : ∀ q ∈ T.made, q.1 ≠ (ab, lo, hh)) {ρ' : Nat → Nat} (hρ : ∀ x, Live T x → ρ' x = ρ x) (hlt : ρ' (numberP T).2 < ρ lo ∧ ρ' (numberP T).2 < ρ hh) :
 Inv n ρ' z0 (nodeP T ab lo hh) ∧ More T (nodeP T ab lo hh) ∧ (nodeP T ab lo hh).fresh = T.fresh ++ [(numberP T).2] ∧ (nodeP T ab lo hh).found = T.found ∧ NodeNew n T ab lo hh := by
 have W := h.nodeNew ab hl hu hne
 have N := W.num
 obtain ⟨s1, s2, s3, s4, s5⟩ := N.rest
 have hM : More T (nodeP T ab lo hh) := ⟨s1, s2, fun x q hq hd => by
  have hx : x ≠ (numberP T).2 := fun e => N.dead (e ▸ ⟨q, hq, hd⟩)
  exact ⟨{ q with users := q.users + i1 lo x + i1 hh x }, by rw [W.get x hx, hq]; rfl, rfl, rfl, rfl, rfl⟩⟩
 have hfrom : ∀ (x : Nat) (z : Rw), x ≠ (numberP T).2 → (nodeP T ab lo hh).rows[x]? = some z → ∃ q : Rw, T.rows[x]? = some q ∧ z = { q with users := q.users + i1 lo x + i1 hh x } := fun x z hx hz => by
  rw [W.get x hx] at hz
  cases q : T.rows[x]? with
  | none => rw [q] at hz; cases hz
  | some r => rw [q] at hz; exact ⟨r, rfl, (Option.some.inj hz).symm⟩
 have hk2 : ∀ k, k ∉ T.made.map Prod.fst ↔ ∀ q ∈ T.made, q.1 ≠ k := fun k => by
  constructor
  · exact fun q x hx e => q (List.mem_map.2 ⟨x, hx, e⟩)
  · rintro q hm
    obtain ⟨x, hx, e⟩ := List.mem_map.1 hm
    exact q x hx e
 refine ⟨⟨by show (numberP T).1.ord.length = n; rw [s1]; exact h.on, ?_, ?_, ?_, ?_, ?_, ?_, N.fn, ?_, ?_, ?_⟩, hM, ?_, s4, W⟩
 · obtain ⟨u, e⟩ := h.e0
   exact ⟨u + i1 lo 0 + i1 hh 0, by rw [W.get 0 (by have := N.two; omega), e]; rfl⟩
 · obtain ⟨u, e⟩ := h.e1
   exact ⟨u + i1 lo 1 + i1 hh 1, by rw [W.get 1 (by have := N.two; omega), e]; rfl⟩
 · intro x z hx hz hd
   by_cases e : x = (numberP T).2
   · subst e
     rw [W.row] at hz; cases hz
     exact ⟨a1, a2, hne, hM.live hl, hM.live hu, by rw [hρ lo hl]; exact hlt.1, by rw [hρ hh hu]; exact hlt.2⟩
   · obtain ⟨q, hq, rfl⟩ := hfrom x z e hz
     obtain ⟨b1, b2, b3, b4, b5, b6, b7⟩ := h.nd x q hx hq hd
     exact ⟨b1, b2, b3, hM.live b4, hM.live b5, by rw [hρ x ⟨q, hq, hd⟩, hρ _ b4]; exact b6, by rw [hρ x ⟨q, hq, hd⟩, hρ _ b5]; exact b7⟩
 · intro k x
   show (k, x) ∈ (numberP T).1.made ++ [((ab, lo, hh), (numberP T).2)] ↔ _
   rw [List.mem_append, s3, List.mem_singleton, h.made k x]
   constructor
   · rintro (⟨hx, q, hq, hd, e⟩ | e)
     · obtain ⟨q', g1, g2, g3, g4, _⟩ := hM.keep x q hq hd
       exact ⟨hx, q', g1, by rw [g2]; exact hd, by rw [e]; unfold keyR; rw [g2, g3, g4]⟩
     · cases e
       exact ⟨N.two, _, W.row, by show ab ≠ -1; omega, rfl⟩
   · rintro ⟨hx, z, hz, hd, e⟩
     by_cases e2 : x = (numberP T).2
     · subst e2
       rw [W.row] at hz; cases hz
       exact .inr (by rw [e]; rfl)
     · obtain ⟨q, hq, rfl⟩ := hfrom x z e2 hz
       exact .inl ⟨hx, q, hq, hd, e⟩
 · show (((numberP T).1.made ++ [((ab, lo, hh), (numberP T).2)]).map Prod.fst).Nodup
   rw [s3]; exact nodup_push h.mn hk
 · intro x
   show x ∈ (numberP T).1.free ↔ _
   rw [N.free x, h.free x]
   constructor
   · rintro ⟨⟨q, hq, hd⟩, hne2⟩
     exact ⟨{ q with users := q.users + i1 lo x + i1 hh x }, by rw [W.get x hne2, hq]; rfl, hd⟩
   · rintro ⟨z, hz, hd⟩
     by_cases e2 : x = (numberP T).2
     · subst e2
       rw [W.row] at hz; cases hz
       exact absurd hd (by show ab ≠ -1; omega)
     · obtain ⟨q, hq, rfl⟩ := hfrom x z e2 hz
       exact ⟨⟨q, hq, hd⟩, e2⟩
 · intro x z hz
   rw [W.lnk a1 a2 x]
   by_cases e2 : x = (numberP T).2
   · subst e2
     rw [W.row] at hz; cases hz
     have hz0 : lnk n T.rows (numberP T).2 = 0 := by
      cases q : T.rows[(numberP T).2]? with
      | some r =>
        have := (N.old r q).1
        have h2 := h.us _ r q
        unfold z0 at h2
        omega
      | none =>
        refine lnk_zero fun r hr => ?_
        obtain ⟨y, hy⟩ := List.getElem?_of_mem hr
        have hlt := h.lh y r hy
        have hge : T.rows.length ≤ (numberP T).2 := List.getElem?_eq_none_iff.1 q
        unfold lw
        split
        · rw [if_neg (by omega), if_neg (by omega)]
        · rfl
     have hlf : lo ≠ (numberP T).2 := fun e => N.dead (e ▸ hl)
     have huf : hh ≠ (numberP T).2 := fun e => N.dead (e ▸ hu)
     show 0 = _
     unfold i1 z0
     rw [if_neg hlf, if_neg huf]
     omega
   · obtain ⟨q, hq, rfl⟩ := hfrom x z e2 hz
     have := h.us x q hq
     unfold z0 at this ⊢
     show q.users + i1 lo x + i1 hh x = _
     omega
 · intro x z hz hd
   by_cases e2 : x = (numberP T).2
   · subst e2
     rw [W.row] at hz; cases hz
     exact absurd hd (by show ab ≠ -1; omega)
   · obtain ⟨q, hq, rfl⟩ := hfrom x z e2 hz
     have hg := h.dg x q hq hd
     refine ⟨hg.1, ?_⟩
     have hlx : lo ≠ x := fun e => by obtain ⟨y, hy, hyd⟩ := hl; rw [e, hq] at hy; cases hy; exact hyd hd
     have hux : hh ≠ x := fun e => by obtain ⟨y, hy, hyd⟩ := hu; rw [e, hq] at hy; cases hy; exact hyd hd
     show q.users + i1 lo x + i1 hh x = 0
     unfold i1
     rw [if_neg hlx, if_neg hux, hg.2]
 · intro x z hz
   rw [W.len]
   have hle := N.len.1
   by_cases e2 : x = (numberP T).2
   · subst e2
     rw [W.row] at hz; cases hz
     have h1 := hl.lt
     have h2 := hu.lt
     exact ⟨by show lo < _; omega, by show hh < _; omega⟩
   · obtain ⟨q, hq, rfl⟩ := hfrom x z e2 hz
     have := h.lh x q hq
     exact ⟨by show q.low < _; omega, by show q.high < _; omega⟩
 · show (numberP T).1.fresh ++ [(numberP T).2] = _
   rw [s5]
end
end Go.Proofs.YtaakjjefnjbabaaGreat.Sx
