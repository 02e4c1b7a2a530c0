/- Turning (plain): a turn, from its start to its end. -/
import Derived.Test.YtaakjjefnjbabaaGreatQ21
set_option maxRecDepth 100000
namespace Go.Proofs.YtaakjjefnjbabaaGreat.Sx
def Ords (n : Nat) (lv : Nat → Nat) (T : Tb) : Prop := ∀ i, i < n → ∃ v, T.ord[i]? = some v ∧ v < n ∧ lv v = i
def swapL (lv : Nat → Nat) (u l v : Nat) : Nat := if v = u then lv l else if v = l then lv u else lv v
theorem Inv.rank {n : Nat} {ρ ρ' p : Nat → Nat} {T : Tb} (h : Inv n ρ p T) (e : ∀ x, 2 ≤ x → Live T x → ρ' x < ρ' (ky T x).2.1 ∧ ρ' x < ρ' (ky T x).2.2) : Inv n ρ' p T :=
 ⟨h.on, h.e0, h.e1, fun f r h2 hr hd => by
   obtain ⟨a1, a2, a3, a4, a5, _, _⟩ := h.nd f r h2 hr hd
   have := e f h2 ⟨r, hr, hd⟩
   rw [ky_at hr] at this
   exact ⟨a1, a2, a3, a4, a5, this.1, this.2⟩, h.made, h.mn, h.free, h.fn, h.us, h.dg, h.lh⟩
theorem rk_ky {lv : Nat → Nat} {T : Tb} {x : Nat} (h : Live T x) : rk lv T x = lv (ky T x).1.toNat := by
 obtain ⟨r, hr, hd⟩ := h
 rw [rk_at hr, ky_at hr]; rfl
section
variable {n : Nat} {lv : Nat → Nat} {u l k M : Nat} {T T' : Tb}
theorem swapL_lv (h : Lv n lv) (hu : u < n) (hl : l < n) : Lv n (swapL lv u l) := by
 refine ⟨fun v hv => ?_, fun v w hv hw e => ?_, ?_⟩
 · unfold swapL
   split
   · exact h.lt l hl
   · split
     · exact h.lt u hu
     · exact h.lt v hv
 · unfold swapL at e
   have i := h.inj
   split at e <;> split at e <;> (try split at e) <;> (try split at e)
   all_goals first
    | (subst_vars; rfl)
    | (have := i _ _ (by assumption) (by assumption) e; subst_vars; first | rfl | contradiction | omega)
 · unfold swapL
   rw [if_neg (by omega), if_neg (by omega)]; exact h.top
theorem Tbl.start (h : Tbl n lv z0 T) (hk : k + 1 < n) (hun : u < n) (hln : l < n) (hu : lv u = k) (hl : lv l = k + 1) : Trn n lv u l k z0 T := by
 have hul : u ≠ l := fun e => by rw [e] at hu; omega
 have hab : ∀ x, Live T x → 0 ≤ (ky T x).1 ∧ (ky T x).1 ≤ (n : Int) := fun x ⟨r, hr, hd⟩ => by
  rw [ky_at hr]
  have := h.inv.ab hr
  exact ⟨by show 0 ≤ r.about; omega, this.2⟩
 have ru : ∀ x, (ky T x).1 = (u : Int) → rk lv T x = k := fun x e => by rw [rk_ky (ky_live e), e, Int.toNat_natCast, hu]
 have rl : ∀ x, (ky T x).1 = (l : Int) → rk lv T x = k + 1 := fun x e => by rw [rk_ky (ky_live e), e, Int.toNat_natCast, hl]
 have re : ∀ x, Live T x → (ky T x).1 ≠ (u : Int) → (ky T x).1 ≠ (l : Int) → rt lv u l k T x = rk lv T x ∧ rk lv T x ≠ k ∧ rk lv T x ≠ k + 1 := fun x lx e1 e2 => by
  have hb := hab x lx
  rw [rk_ky lx]
  refine ⟨by unfold rt; rw [if_neg e1, if_neg e2], fun q => ?_, fun q => ?_⟩
  · by_cases en : (ky T x).1.toNat = n
    · rw [en, h.lvo.top] at q; omega
    · have := h.lvo.inj _ _ (by omega) hun (q.trans hu.symm); omega
  · by_cases en : (ky T x).1.toNat = n
    · rw [en, h.lvo.top] at q; omega
    · have := h.lvo.inj _ _ (by omega) hln (q.trans hl.symm); omega
 have part : ∀ x v, 2 ≤ x → Live T x → hasP T x v → v < n → rk lv T x < lv v := fun x v h2 lx hp _ => by
  obtain ⟨_, _, _, l4, l5, r6, r7⟩ := h.inv.nk h2 lx
  unfold hasP at hp
  rcases hp with e | e
  · rw [rk_ky l4, e, Int.toNat_natCast] at r6; exact r6
  · rw [rk_ky l5, e, Int.toNat_natCast] at r7; exact r7
 have tl : ∀ x, (ky T x).1 = (l : Int) → rt lv u l k T x = k + 1 := fun x e => by
  have h2 := h.inv.k2 hln e
  have lx := ky_live e
  have : ¬ hasP T x u := fun q => by have := part x u h2 lx q hun; rw [rl x e, hu] at this; omega
  unfold rt
  rw [if_neg (by omega), if_pos e]
  unfold hasP at this
  rw [if_neg this]
 have tu : ∀ x, (ky T x).1 = (u : Int) → rt lv u l k T x = k ∧ hasP T x l ∨ rt lv u l k T x = k + 1 ∧ ¬ hasP T x l := fun x e => by
  obtain ⟨a, b⟩ := rt_u (lv := lv) (l := l) (k := k) e
  by_cases q : hasP T x l
  · exact .inl ⟨a q, q⟩
  · exact .inr ⟨b q, q⟩
 have ge : ∀ x, Live T x → rk lv T x ≤ rt lv u l k T x := fun x lx => by
  by_cases e1 : (ky T x).1 = (u : Int)
  · rw [ru x e1]
    rcases tu x e1 with ⟨q, _⟩ | ⟨q, _⟩ <;> omega
  by_cases e2 : (ky T x).1 = (l : Int)
  · rw [rl x e2, tl x e2]; exact Nat.le_refl _
  · rw [(re x lx e1 e2).1]; exact Nat.le_refl _
 refine ⟨h.lvo, hk, hu, hl, hun, hln, h.inv.rank fun x h2 lx => ?_, fun x e q => ?_, fun x e q => ?_, fun x y lx ly e => (h.same lx ly).1 e⟩
 · obtain ⟨_, _, _, l4, l5, r6, r7⟩ := h.inv.nk h2 lx
   have key : ∀ y, (y = (ky T x).2.1 ∨ y = (ky T x).2.2) → Live T y → rk lv T x < rk lv T y → rt lv u l k T x < rt lv u l k T y := fun y hy ly hr => by
    have g := ge y ly
    by_cases e1 : (ky T x).1 = (u : Int)
    · have rx := ru x e1
      by_cases y2 : (ky T y).1 = (l : Int)
      · have : hasP T x l := by unfold hasP; rcases hy with rfl | rfl; exact .inl y2; exact .inr y2
        have := (rt_u (lv := lv) (k := k) e1).1 this
        have := tl y y2
        omega
      · by_cases y1 : (ky T y).1 = (u : Int)
        · have := ru y y1; omega
        · have := re y ly y1 y2
          rcases tu x e1 with ⟨q, _⟩ | ⟨q, _⟩ <;> omega
    by_cases e2 : (ky T x).1 = (l : Int)
    · have := rl x e2
      have := tl x e2
      omega
    · have := re x lx e1 e2
      omega
   exact ⟨key _ (.inl rfl) l4 r6, key _ (.inr rfl) l5 r7⟩
 · have := part x u (h.inv.k2 hun e) (ky_live e) q hun
   rw [ru x e, hu] at this; omega
 · have := part x l (h.inv.k2 hln e) (ky_live e) q hln
   rw [rl x e, hl] at this; omega
theorem Trn.done (h : Trn n lv u l k z0 T) (hp : ∀ x, (ky T x).1 = (u : Int) → ¬ hasP T x l) : Tbl n (swapL lv u l) z0 T := by
 have hul := h.ul
 have hun := h.un
 have hln := h.ln
 have ru : ∀ x, (ky T x).1 = (u : Int) → rk (swapL lv u l) T x = k + 1 := fun x e => by
  rw [rk_ky (ky_live e), e, Int.toNat_natCast]
  unfold swapL
  rw [if_pos rfl, h.ll]
 have rl : ∀ x, (ky T x).1 = (l : Int) → rk (swapL lv u l) T x = k := fun x e => by
  rw [rk_ky (ky_live e), e, Int.toNat_natCast]
  unfold swapL
  rw [if_neg (Ne.symm hul), if_pos rfl, h.lu]
 have re : ∀ x, Live T x → (ky T x).1 ≠ (u : Int) → (ky T x).1 ≠ (l : Int) → rk (swapL lv u l) T x = rt lv u l k T x := fun x lx e1 e2 => by
  have hb : 0 ≤ (ky T x).1 := by
   obtain ⟨r, hr, hd⟩ := lx
   rw [ky_at hr]
   have := h.inv.ab hr
   show 0 ≤ r.about
   omega
  rw [rk_ky lx, (h.els lx e1 e2).1]
  unfold swapL
  rw [if_neg (by omega), if_neg (by omega)]
 refine ⟨swapL_lv h.lvo hun hln, h.inv.rank fun x h2 lx => ?_⟩
 obtain ⟨_, _, _, l4, l5, r6, r7⟩ := h.inv.nk h2 lx
 have key : ∀ y, (y = (ky T x).2.1 ∨ y = (ky T x).2.2) → Live T y → rt lv u l k T x < rt lv u l k T y → rk (swapL lv u l) T x < rk (swapL lv u l) T y := fun y hy ly hr => by
  by_cases e1 : (ky T x).1 = (u : Int)
  · have := (rt_u (lv := lv) (l := l) (k := k) e1).2 (hp x e1)
    obtain ⟨y1, y2⟩ := h.hi (by omega : k + 1 < rt lv u l k T y)
    rw [ru x e1, re y ly y1 y2]; omega
  by_cases e2 : (ky T x).1 = (l : Int)
  · rw [rl x e2]
    rcases h.partL e2 ly hy hr with ⟨q, _⟩ | ⟨y1, y2, q⟩
    · rw [ru y q]; omega
    · rw [re y ly y1 y2]; omega
  · obtain ⟨_, q1, q2⟩ := h.els lx e1 e2
    rw [re x lx e1 e2]
    by_cases y1 : (ky T y).1 = (u : Int)
    · have := (rt_u (lv := lv) (l := l) (k := k) y1).2 (hp y y1)
      rw [ru y y1]; omega
    by_cases y2 : (ky T y).1 = (l : Int)
    · rw [rl y y2]
      obtain ⟨a, b⟩ := h.rtl y2
      by_cases q : hasP T y u
      · have := a q; omega
      · have := b q; omega
    · rw [re y ly y1 y2]; exact hr
 exact ⟨key _ (.inl rfl) l4 r6, key _ (.inr rfl) l5 r7⟩
structure TuI (n : Nat) (lv : Nat → Nat) (u l k M : Nat) (T0 : Tb) (f : Nat) (T : Tb) : Prop where
 trn : Trn n lv u l k z0 T
 ng : NG (fun _ => False) T
 giv : ∀ y, Giv T0 y → Giv T y ∧ vl n T y = vl n T0 y
 only : ∀ y, Giv T y → Giv T0 y
 rest : T.ord = T0.ord ∧ T.lev = T0.lev ∧ T.found = []
 fresh : T.fresh.length ≤ T0.fresh.length + 2 * f
 pend : ∀ x, (ky T x).1 = (u : Int) → hasP T x l → f ≤ x ∧ x < T0.rows.length
 len : T.rows.length ≤ M
 lenle : T0.rows.length ≤ T.rows.length
theorem Trn.unfresh (h : Trn n lv u l k z0 { T with fresh := [] }) : Trn n lv u l k z0 T := by
 have I := h.inv
 exact ⟨h.lvo, h.kn, h.lu, h.ll, h.un, h.ln, ⟨I.on, I.e0, I.e1, I.nd, I.made, I.mn, I.free, I.fn, I.us, I.dg, I.lh⟩, h.uu, h.lll, fun x y lx ly e => h.inj x y lx ly (by
  have e1 : ∀ z, vl n { T with fresh := [] } z = vl n T z := fun z => funext fun σ => ev_rows (T := T) (T' := { T with fresh := [] }) rfl σ (n + 1) z
  rw [e1, e1]; exact e)⟩
theorem Base.unfresh (h : Base n lv M T) : Base n lv M { T with fresh := [] } := by
 have e : ({ T with fresh := [] } : Tb) = T := by rw [← h.fresh]
 rw [e]; exact h
theorem TuI.start (hB : Base n lv M { T with fresh := [] }) (hk : k + 1 < n) (hun : u < n) (hln : l < n) (hu : lv u = k) (hl : lv l = k + 1) : TuI n lv u l k M T 0 T :=
 ⟨(hB.mid.t.start hk hun hln hu hl).unfresh, fun x r h2 hr hd _ => hB.mid.ng x r h2 hr hd (by simp), fun _ q => ⟨q, rfl⟩, fun _ q => q, ⟨rfl, rfl, hB.found⟩, Nat.le_refl _, fun x e _ => ⟨Nat.zero_le _, (ky_live e).lt⟩, hB.mid.rl, Nat.le_refl _⟩
theorem TuI.skip {T0 : Tb} {f : Nat} (h : TuI n lv u l k M T0 f T) (hs : ¬ ((ky T f).1 = (u : Int) ∧ hasP T f l)) : TuI n lv u l k M T0 (f + 1) T :=
 ⟨h.trn, h.ng, h.giv, h.only, h.rest, by have := h.fresh; omega, fun x e q => by
   obtain ⟨a, b⟩ := h.pend x e q
   have : x ≠ f := fun e2 => hs (e2 ▸ ⟨e, q⟩)
   omega, h.len, h.lenle⟩
theorem TuI.step {T0 : Tb} {f : Nat} (h : TuI n lv u l k M T0 f T) (ht : TnP n lv u l k T f T') (hc : cnt T + 2 ≤ M) : TuI n lv u l k M T0 (f + 1) T' :=
 ⟨ht.trn, ht.ng, fun y q => by
   obtain ⟨a, b⟩ := h.giv y q
   obtain ⟨c, d⟩ := ht.giv y a
   exact ⟨c, d.trans b⟩, fun y q => h.only y (ht.only y q), ⟨ht.rest.1.trans h.rest.1, ht.rest.2.1.trans h.rest.2.1, ht.rest.2.2.trans h.rest.2.2⟩, by have := h.fresh; have := ht.fresh; omega, fun x e q => by
   obtain ⟨a, b, c⟩ := ht.done x e q
   obtain ⟨d, g⟩ := h.pend x a b
   omega, by have := ht.len; have := h.len; omega, Nat.le_trans h.lenle ht.lenle⟩
theorem TuI.cnt {T0 : Tb} {f : Nat} (h : TuI n lv u l k M T0 f T) {gs : List Nat} (hgs : ∀ y, Giv T0 y → y ∈ gs) : cnt T ≤ gs.length * 3 ^ n := h.trn.cnt_le h.ng fun y q => hgs y (h.only y q)
structure TurnP (n : Nat) (lv : Nat → Nat) (u l k M : Nat) (T T' : Tb) : Prop where
 base : Base n (swapL lv u l) M T'
 ords : Ords n (swapL lv u l) T'
 giv : ∀ y, Giv T y → Giv T' y ∧ vl n T' y = vl n T y
 only : ∀ y, Giv T' y → Giv T y
 ord : T'.ord = (T.ord.set k l).set (k + 1) u
theorem TuI.done {T0 : Tb} {f : Nat} (h : TuI n lv u l k M T0 f T) (hB : Base n lv M { T0 with fresh := [] }) (hO : Ords n lv T0) (hf : T0.rows.length ≤ f) : TurnP n lv u l k M T0 { T with ord := (T.ord.set k l).set (k + 1) u, lev := (T.lev.set u (k + 1)).set l k, fresh := [] } := by
 have t := h.trn
 have hul := t.ul
 have hun := t.un
 have hln := t.ln
 have hkn := t.kn
 have D := t.done fun x e q => by have := h.pend x e q; omega
 have hol : T.ord.length = n := t.inv.on
 have hll : T.lev.length = n + 1 := by rw [h.rest.2.1]; exact hB.mid.ll
 have D2 : Tbl n (swapL lv u l) z0 { T with ord := (T.ord.set k l).set (k + 1) u, lev := (T.lev.set u (k + 1)).set l k, fresh := [] } := by
  have I := D.inv
  exact ⟨D.lvo, ⟨by show ((T.ord.set k l).set (k + 1) u).length = n; simpa using hol, I.e0, I.e1, I.nd, I.made, I.mn, I.free, I.fn, I.us, I.dg, I.lh⟩⟩
 refine ⟨⟨⟨D2, hB.mid.n24, by show ((T.lev.set u (k + 1)).set l k).length = n + 1; simpa using hll, fun a ha => ?_, fun x r h2 hr hd _ => h.ng x r h2 hr hd (fun q => q), List.nodup_nil, (fun x hx => by cases hx), (fun y r _ _ _ j hj => by simp at hj), ?_, (fun a b c x hx => ?_), h.len, hB.mid.rm, ?_⟩, rfl, h.rest.2.2⟩, fun i hi => ?_, fun y q => ⟨(h.giv y q).1, (funext fun σ => ev_rows (T := T) (T' := { T with ord := (T.ord.set k l).set (k + 1) u, lev := (T.lev.set u (k + 1)).set l k, fresh := [] }) rfl σ (n + 1) y : _ = vl n T y).trans (h.giv y q).2⟩, fun y q => h.only y q, by show (T.ord.set k l).set (k + 1) u = _; rw [h.rest.1]⟩
 · show ((T.lev.set u (k + 1)).set l k)[a]? = _
   unfold swapL
   by_cases e1 : a = u
   · rw [if_pos e1, List.getElem?_set_ne (by omega), e1, List.getElem?_set_self (by omega), t.ll]
   · by_cases e2 : a = l
     · rw [if_neg e1, if_pos e2, e2, List.getElem?_set_self (by rw [List.length_set]; omega), t.lu]
     · rw [if_neg e1, if_neg e2, List.getElem?_set_ne (by omega), List.getElem?_set_ne (by omega), h.rest.2.1]
       exact hB.mid.la a ha
 · show (T.found.map Prod.fst).Nodup; rw [h.rest.2.2]; exact List.nodup_nil
 · have hx : ((a, b, c), x) ∈ T.found := hx
   rw [h.rest.2.2] at hx; cases hx
 · show T.rows.length ≤ T.free.length + (T.rows.length - T.free.length) + 0; omega
 · show ∃ v, ((T.ord.set k l).set (k + 1) u)[i]? = some v ∧ v < n ∧ swapL lv u l v = i
   by_cases e1 : i = k + 1
   · exact ⟨u, by rw [e1, List.getElem?_set_self (by rw [List.length_set]; omega)], hun, by unfold swapL; rw [if_pos rfl, t.ll, e1]⟩
   · by_cases e2 : i = k
     · exact ⟨l, by rw [List.getElem?_set_ne (by omega), e2, List.getElem?_set_self (by omega)], hln, by unfold swapL; rw [if_neg (Ne.symm hul), if_pos rfl, t.lu, e2]⟩
     · obtain ⟨v, h1, h2, h3⟩ := hO i hi
       refine ⟨v, by rw [List.getElem?_set_ne (by omega), List.getElem?_set_ne (by omega), h.rest.1]; exact h1, h2, ?_⟩
       unfold swapL
       have hu := t.lu
       have hl := t.ll
       rw [if_neg (fun e => by rw [e] at h3; omega), if_neg (fun e => by rw [e] at h3; omega)]
       exact h3
end
end Go.Proofs.YtaakjjefnjbabaaGreat.Sx
namespace Go.Proofs.YtaakjjefnjbabaaGreat.Sx
open Go.RowKit Go.Sort Go.Maps Go.WideMaps
def mxP (l : List Nat) : Nat → Nat
 | 0 => 1
 | k + 1 => max (mxP l k) (l.getD k 0)
theorem mxP_ge (l : List Nat) : ∀ k, 1 ≤ mxP l k
 | 0 => Nat.le_refl _
 | k + 1 => by have := mxP_ge l k; unfold mxP; omega
theorem mxP_mem {l : List Nat} : ∀ {k j x : Nat}, l[j]? = some x → j < k → x ≤ mxP l k
 | 0, j, x, _, h => by omega
 | k + 1, j, x, hx, h => by
   unfold mxP
   by_cases e : j = k
   · subst e
     rw [List.getD_eq_getElem?_getD, hx]
     exact Nat.le_max_right _ _
   · have := mxP_mem hx (by omega : j < k)
     omega
theorem mxP_lt {l : List Nat} {N : Nat} (h1 : 1 < N) (h : ∀ x ∈ l, x < N) : ∀ k, mxP l k < N
 | 0 => h1
 | k + 1 => by
   have := mxP_lt h1 h k
   unfold mxP
   rw [List.getD_eq_getElem?_getD]
   cases q : l[k]? with
   | none => simp only [Option.getD_none]; omega
   | some x =>
     have := h x (List.mem_of_getElem? q)
     simp only [Option.getD_some]; omega
theorem add_blk (a : Addr) (n : Nat) : (a.add n).block = a.block := by unfold Addr.add; split <;> rfl
section
variable {w w' : World} {L L' : Ly} {T : Tb} {p : Option Addr} {vs : List Int} {g tb : Nat}
theorem IntsV.frT (h : IntsV w p vs) (hp : ∀ q : Addr, p = some q → L.own q.block = 0) (f : FrT L L' w w') : IntsV w' p vs := ⟨fun i x hx => by
 obtain ⟨q, e, hc⟩ := h.cell i x hx
 exact ⟨q, e, (World.cell?_of_block (w := w) (f.block _ (World.block_lt_of_cell? w _ hc) (by rw [add_blk]; exact hp q e))).trans hc⟩⟩
structure OldR (w : World) (T : Tb) (g : Nat) : Prop where
 cell : ∀ (i j : Nat) (r : Rw), T.rows[i]? = some r → j < 5 → w.cell? ⟨g, i * 5 + j, none⟩ = (rwV r)[j]?
 lt : g < w.heap.size
theorem OldR.of (h : OldR w T g) (f : w'.heap[g]? = w.heap[g]?) (hs : w.heap.size ≤ w'.heap.size) : OldR w' T g :=
 ⟨fun i j r hr hj => (World.cell?_of_block (w := w) f).trans (h.cell i j r hr hj), Nat.lt_of_lt_of_le h.lt hs⟩
theorem OldR.c0 {f : Nat} {r : Rw} (h : OldR w T g) (hr : T.rows[f]? = some r) : w.cell? ⟨g, f * 5, none⟩ = some (.int .i64 r.about) := h.cell f 0 r hr (by omega)
theorem OldR.c1 {f : Nat} {r : Rw} (h : OldR w T g) (hr : T.rows[f]? = some r) : w.cell? ⟨g, f * 5 + 1, none⟩ = some (.int .i64 (r.low : Int)) := h.cell f 1 r hr (by omega)
theorem OldR.c2 {f : Nat} {r : Rw} (h : OldR w T g) (hr : T.rows[f]? = some r) : w.cell? ⟨g, f * 5 + 2, none⟩ = some (.int .i64 (r.high : Int)) := h.cell f 2 r hr (by omega)
theorem OldR.c4 {f : Nat} {r : Rw} (h : OldR w T g) (hr : T.rows[f]? = some r) : w.cell? ⟨g, f * 5 + 4, none⟩ = some (.bool r.given) := h.cell f 4 r hr (by omega)
theorem TAt.retag0 (h : TAt w tb L T) (hg : g < w.heap.size) (h4 : L.own g = 4) {g' cap m : Nat} (hv : L.val 4 = .slice (some ⟨g', 0, none⟩) m cap) (hne : g ≠ g') : TAt w tb { L with own := tag1 L.own g 0 } T := by
 refine h.retag 0 hg (fun e => ?_) (fun t a b e => ?_) (fun e => ?_) (fun e => ?_)
 · have := (h.st trivial).2; rw [e, h4] at this; omega
 · by_cases ht : t = 4
   · subst ht; rw [hv] at e; exact hne (Option.some.inj e).symm
   · have := (h.sl t a b trivial).2 g e
     omega
 · have := (h.md trivial).2.1; rw [e, h4] at this; omega
 · have := (h.fd trivial).2.1; rw [e, h4] at this; omega
theorem TAt.retag4 (h : TAt w tb L T) (hg : g < w.heap.size) (h4 : L.own g = 0) : TAt w tb { L with own := tag1 L.own g 4 } T := by
 refine h.retag 4 hg (fun e => ?_) (fun t a b e => ?_) (fun e => ?_) (fun e => ?_)
 · have := (h.st trivial).2; rw [e, h4] at this; omega
 · have := (h.sl t a b trivial).2 g e
   omega
 · have := (h.md trivial).2.1; rw [e, h4] at this; omega
 · have := (h.fd trivial).2.1; rw [e, h4] at this; omega
theorem FrT.retag {w1 : World} {L1 Lf : Ly} (h1 : FrT L L1 w w1) (hg : g < w.heap.size) (h4 : L.own g = 4) (h2 : FrT { L1 with own := tag1 L1.own g 0 } Lf w1 w') : FrT L { Lf with own := tag1 Lf.own g 4 } w w' := by
 have key : ∀ b, b ≠ g → tag1 L1.own g 0 b = L1.own b := fun b hb => by unfold tag1; rw [if_neg hb]
 refine ⟨h2.os.trans h1.os, h2.tape.trans h1.tape, h2.output.trans h1.output, Nat.le_trans h1.size h2.size, fun b hb h0 => ?_, fun b hb => ?_⟩
 · have hbg : b ≠ g := fun e => by rw [e, h4] at h0; omega
   exact (h2.block b (Nat.lt_of_lt_of_le hb h1.size) ((key b hbg).trans ((h1.own b hb).trans h0))).trans (h1.block b hb h0)
 · show tag1 Lf.own g 4 b = L.own b
   by_cases hbg : b = g
   · subst hbg; unfold tag1; rw [if_pos rfl, h4]
   · have : tag1 Lf.own g 4 b = Lf.own b := by unfold tag1; rw [if_neg hbg]
     rw [this]
     exact (h2.own b (Nat.lt_of_lt_of_le hb h1.size)).trans ((key b hbg).trans (h1.own b hb))
end
end Go.Proofs.YtaakjjefnjbabaaGreat.Sx
