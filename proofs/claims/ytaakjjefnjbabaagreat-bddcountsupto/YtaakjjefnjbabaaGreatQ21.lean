/- Keep (plain): the nodes of some diagrams, laid anew. -/
import Derived.Test.YtaakjjefnjbabaaGreatQ20
set_option maxRecDepth 100000
namespace Go.Proofs.YtaakjjefnjbabaaGreat.Sx
section
variable {n : Nat} {ρ p : Nat → Nat} {T T' : Tb}
theorem Inv.re (h : Inv n ρ p T) (ho : T'.ord = T.ord) (hr : T'.rows = T.rows) (hm : T'.made = T.made) (hf : ∀ x, x ∈ T'.free ↔ x ∈ T.free) (hn : T'.free.Nodup) : Inv n ρ p T' := by
 obtain ⟨o1, l1, r1, f1, m1, d1, s1⟩ := T
 obtain ⟨o2, l2, r2, f2, m2, d2, s2⟩ := T'
 obtain rfl : o2 = o1 := ho
 obtain rfl : r2 = r1 := hr
 obtain rfl : m2 = m1 := hm
 exact ⟨h.on, h.e0, h.e1, h.nd, h.made, h.mn, fun f => (hf f).trans (h.free f), hn, h.us, h.dg, h.lh⟩
end
def isDead (R : List Rw) (x : Nat) : Bool := match R[x]? with
 | some r => r.about == -1
 | none => false
theorem isDead_iff {R : List Rw} {x : Nat} : isDead R x = true ↔ ∃ r, R[x]? = some r ∧ r.about = -1 := by
 unfold isDead
 cases h : R[x]? with
 | none => simp
 | some r => simp
def deadL (R : List Rw) : List Nat := (List.range R.length).filter (isDead R)
theorem deadL_mem {R : List Rw} {x : Nat} : x ∈ deadL R ↔ ∃ r, R[x]? = some r ∧ r.about = -1 := by
 unfold deadL
 rw [List.mem_filter, List.mem_range, isDead_iff]
 constructor
 · exact fun h => h.2
 · rintro ⟨r, hr, hd⟩; exact ⟨lt_of_at hr, r, hr, hd⟩
theorem deadL_nodup (R : List Rw) : (deadL R).Nodup := List.Nodup.sublist List.filter_sublist List.nodup_range
theorem list_set_same {α : Type} {l : List α} {i : Nat} {x : α} (h : l[i]? = some x) : l.set i x = l := List.ext_getElem? fun j => by
 by_cases e : i = j
 · subst e; rw [List.getElem?_set_self (lt_of_at h), h]
 · rw [List.getElem?_set_ne e]
structure KpI (n : Nat) (lv : Nat → Nat) (T : Tb) (ls : List Nat) (last j : Nat) (Tj : Tb) : Prop where
 inv : Inv n (rk lv Tj) z0 { Tj with free := deadL Tj.rows }
 len : Tj.rows.length = last + 1
 on : ∀ x ∈ ls.take j, ∃ r r', T.rows[x]? = some r ∧ Tj.rows[x]? = some r' ∧ r'.about = r.about ∧ r'.low = r.low ∧ r'.high = r.high ∧ r'.given = r.given
 off : ∀ x, 2 ≤ x → x < last + 1 → x ∉ ls.take j → ∃ r', Tj.rows[x]? = some r' ∧ r'.about = -1
 made : Tj.made.length = j
 rest : Tj.ord = T.ord ∧ Tj.lev = T.lev ∧ Tj.found = T.found ∧ Tj.fresh = T.fresh
section
variable {n : Nat} {lv : Nat → Nat} {T Tj : Tb} {ls : List Nat} {last j : Nat}
theorem bareR_two {x : Nat} (h2 : 2 ≤ x) (h : x < last + 1) : (bareR n last)[x]? = some dead := by
 obtain ⟨y, rfl⟩ : ∃ y, x = y + 2 := ⟨x - 2, by omega⟩
 show (List.replicate (last - 1) dead)[y]? = _
 rw [List.getElem?_replicate, if_pos (by omega)]
theorem bareR_len (h1 : 1 ≤ last) : (bareR n last).length = last + 1 := by
 show (List.replicate (last - 1) dead).length + 2 = _
 rw [List.length_replicate]; omega
theorem KpI.zero (hn : T.ord.length = n) (h1 : 1 ≤ last) : KpI n lv T ls last 0 { T with rows := bareR n last, made := [] } := by
 have hrow : ∀ (x : Nat) (r : Rw), (bareR n last)[x]? = some r → x < 2 ∧ r = endR n ∨ 2 ≤ x ∧ r = dead := fun x r hr => by
  match x, hr with
  | 0, hr => left; exact ⟨by omega, (Option.some.inj hr).symm⟩
  | 1, hr => left; exact ⟨by omega, (Option.some.inj hr).symm⟩
  | x + 2, hr =>
    right
    have hl := lt_of_at hr
    rw [bareR_len h1] at hl
    rw [bareR_two (by omega) hl] at hr
    exact ⟨by omega, (Option.some.inj hr).symm⟩
 have hlw : ∀ g, lnk n (bareR n last) g = 0 := fun g => lnk_zero fun r hr => by
  obtain ⟨x, hx⟩ := List.getElem?_of_mem hr
  rcases hrow x r hx with ⟨_, rfl⟩ | ⟨_, rfl⟩
  · unfold lw; rw [if_neg (by show ¬ (0 ≤ (n : Int) ∧ (n : Int) < (n : Int)); omega)]
  · unfold lw; rw [if_neg (by show ¬ (0 ≤ (-1 : Int) ∧ (-1 : Int) < (n : Int)); omega)]
 refine ⟨⟨hn, ⟨0, rfl⟩, ⟨0, rfl⟩, fun f r h2 hr hd => ?_, fun k f => ?_, List.nodup_nil, fun f => deadL_mem, deadL_nodup _, fun f r hr => ?_, fun f r hr hd => ?_, fun f r hr => ?_⟩, bareR_len h1, by simp, fun x h2 hx _ => ⟨dead, bareR_two h2 hx, rfl⟩, rfl, rfl, rfl, rfl, rfl⟩
 · rcases hrow f r hr with ⟨q, _⟩ | ⟨_, rfl⟩
   · omega
   · exact absurd rfl hd
 · constructor
   · intro q; exact absurd q (by simp)
   · rintro ⟨h2, r, hr, hd, _⟩
     rcases hrow f r hr with ⟨q, _⟩ | ⟨_, rfl⟩
     · omega
     · exact absurd rfl hd
 · show r.users = lnk n (bareR n last) f + 0
   rw [hlw f]
   rcases hrow f r hr with ⟨_, rfl⟩ | ⟨_, rfl⟩ <;> rfl
 · rcases hrow f r hr with ⟨_, rfl⟩ | ⟨_, rfl⟩
   · exact absurd hd (by show (n : Int) ≠ -1; omega)
   · exact ⟨rfl, rfl⟩
 · show r.low < (bareR n last).length ∧ r.high < (bareR n last).length
   rw [bareR_len h1]
   rcases hrow f r hr with ⟨_, rfl⟩ | ⟨_, rfl⟩
   · exact ⟨Nat.succ_pos _, Nat.succ_pos _⟩
   · exact ⟨Nat.succ_pos _, Nat.succ_pos _⟩
def keepT (Tj : Tb) (x : Nat) (r r' : Rw) : Tb := { Tj with rows := layM (Tj.rows.set x { r' with given := r.given }) x r.about r.low r.high, made := Tj.made ++ [(keyR r, x)] }
theorem KpI.live (h : KpI n lv T ls last j Tj) (ht : Inv n (rk lv T) z0 T) {y : Nat} (hy : y < 2 ∨ y ∈ ls.take j) (hl : ∀ y ∈ ls, 2 ≤ y ∧ Live T y) : Live Tj y ∧ rk lv Tj y = rk lv T y := by
 rcases hy with hy | hy
 · have h0 := h.inv.live0
   have h1 := h.inv.live1
   obtain ⟨u, a0⟩ := h.inv.e0
   obtain ⟨u', a1⟩ := h.inv.e1
   obtain ⟨v, b0⟩ := ht.e0
   obtain ⟨v', b1⟩ := ht.e1
   have a0 : Tj.rows[0]? = _ := a0
   have a1 : Tj.rows[1]? = _ := a1
   match y, hy with
   | 0, _ => exact ⟨h0, by rw [rk_at a0, rk_at b0]⟩
   | 1, _ => exact ⟨h1, by rw [rk_at a1, rk_at b1]⟩
 · obtain ⟨r, r', hr, hr', e, _⟩ := h.on y hy
   obtain ⟨_, q, hq, hd⟩ := hl y (List.mem_of_mem_take hy)
   rw [hr] at hq; cases hq
   exact ⟨⟨r', hr', by rw [e]; exact hd⟩, by rw [rk_at hr, rk_at hr', e]⟩
theorem KpI.step (h : KpI n lv T ls last j Tj) (ht : Inv n (rk lv T) z0 T) (hl : ∀ y ∈ ls, 2 ≤ y ∧ Live T y ∧ y < last + 1) (hnd0 : ls.Nodup) {x : Nat} (hx : ls[j]? = some x) (hclo : ∀ r, T.rows[x]? = some r → (r.low < 2 ∨ r.low ∈ ls.take j) ∧ (r.high < 2 ∨ r.high ∈ ls.take j)) :
 ∃ r r', T.rows[x]? = some r ∧ Tj.rows[x]? = some r' ∧ 0 ≤ r.about ∧ r.about < (n : Int) ∧ r.low < last + 1 ∧ r.high < last + 1 ∧ (∀ q ∈ Tj.made, q.1 ≠ keyR r) ∧ KpI n lv T ls last (j + 1) (keepT Tj x r r') := by
 have hxm : x ∈ ls := List.mem_of_getElem? hx
 obtain ⟨h2, ⟨r, hr, hd⟩, hxl⟩ := hl x hxm
 have hxt : x ∉ ls.take j := fun hm => by
  have hnd := hnd0
  have hjl := lt_of_at hx
  rw [← List.take_append_drop j ls] at hnd
  rw [List.getElem?_eq_getElem hjl] at hx
  exact (List.nodup_append.1 hnd).2.2 x hm x (by rw [List.drop_eq_getElem_cons hjl, Option.some.inj hx]; simp) rfl
 obtain ⟨r', hr', hd'⟩ := h.off x h2 hxl hxt
 obtain ⟨c1, c2⟩ := hclo r hr
 obtain ⟨a1, a2, a3, _, _, a6, a7⟩ := ht.nd x r h2 hr hd
 obtain ⟨l1, k1⟩ := h.live ht c1 fun y hy => ⟨(hl y hy).1, (hl y hy).2.1⟩
 obtain ⟨l2, k2⟩ := h.live ht c2 fun y hy => ⟨(hl y hy).1, (hl y hy).2.1⟩
 have hll := l1.lt
 have hlh := l2.lt
 rw [h.len] at hll hlh
 obtain ⟨A, hA⟩ : ∃ A : Tb, A = { Tj with free := (deadL Tj.rows).erase x ++ [x] } := ⟨_, rfl⟩
 have hxd : x ∈ deadL Tj.rows := deadL_mem.2 ⟨r', hr', hd'⟩
 have hAr : A.rows = Tj.rows := by rw [hA]
 have hAm : A.made = Tj.made := by rw [hA]
 have hAf : A.free = (deadL Tj.rows).erase x ++ [x] := by rw [hA]
 have iA : Inv n (rk lv Tj) z0 A := by
  rw [hA]
  refine h.inv.re rfl rfl rfl (fun y => ?_) ?_
  · show y ∈ (deadL Tj.rows).erase x ++ [x] ↔ y ∈ deadL Tj.rows
    rw [List.mem_append, List.mem_singleton]
    by_cases e : y = x
    · subst e; simp [hxd]
    · rw [List.mem_erase_of_ne e]; simp [e]
  · refine List.nodup_append.2 ⟨(deadL_nodup _).erase x, by simp, fun a ha b hb => ?_⟩
    rw [List.mem_singleton.1 hb]
    rintro rfl
    exact (List.Nodup.mem_erase_iff (deadL_nodup _)).1 ha |>.1 rfl
 have hnum : numberP A = ({ A with free := (deadL Tj.rows).erase x }, x) := by
  unfold numberP
  rw [hAf, List.getLast?_concat]
  simp
 have hk : ∀ q ∈ A.made, q.1 ≠ (r.about, r.low, r.high) := fun q hq e => by
  have hq : (q.1, q.2) ∈ A.made := hq
  obtain ⟨g2, z, hz, hzd, hk⟩ := (iA.made q.1 q.2).1 hq
  rw [hAr] at hz
  have hz2 : q.2 ∈ ls.take j := by
   by_cases hm : q.2 ∈ ls.take j
   · exact hm
   · obtain ⟨z', hz', hzd'⟩ := h.off q.2 g2 (by rw [← h.len]; exact lt_of_at hz) hm
     rw [hz] at hz'; cases hz'; exact absurd hzd' hzd
  obtain ⟨s, s', hs, hs', e1, e2, e3, _⟩ := h.on _ hz2
  rw [hz] at hs'; cases hs'
  have hsd : s.about ≠ -1 := by rw [← e1]; exact hzd
  have hks : keyR s = (r.about, r.low, r.high) := by rw [← e, hk]; unfold keyR; rw [e1, e2, e3]
  have m1 := (ht.made _ _).2 ⟨g2, s, hs, hsd, rfl⟩
  have m2 := (ht.made _ _).2 ⟨h2, r, hr, hd, rfl⟩
  rw [hks] at m1
  have := nodup_fst ht.mn m1 m2
  exact hxt (this ▸ hz2)
 have hLA1 : Live A r.low := by unfold Live; rw [hAr]; exact l1
 have hLA2 : Live A r.high := by unfold Live; rw [hAr]; exact l2
 have W0 := iA.nodeNew r.about hLA1 hLA2 a3
 obtain ⟨row, hrow⟩ : ∃ row : Rw, row = ⟨r.about, r.low, r.high, 0, false⟩ := ⟨_, rfl⟩
 have hnr : (nodeP A r.about r.low r.high).rows = layM Tj.rows x r.about r.low r.high := by
  unfold nodeP; rw [hnum]; show layM A.rows _ _ _ _ = _; rw [hAr]
 have hx0 : (layM Tj.rows x r.about r.low r.high)[x]? = some row := by
  have := W0.row
  rw [hnum, hnr] at this
  rw [hrow]; exact this
 have hget : ∀ y, y ≠ x → (layM Tj.rows x r.about r.low r.high)[y]? = Tj.rows[y]?.map fun z => { z with users := z.users + i1 r.low y + i1 r.high y } := fun y hy => by
  have := W0.get y (by rw [hnum]; exact hy)
  rw [hnr, hAr] at this
  exact this
 have hrows : (keepT Tj x r r').rows = (layM Tj.rows x r.about r.low r.high).set x { row with given := r.given } := by
  have hlx : r.low ≠ x := fun e => by
   rw [e] at l1; obtain ⟨z, hz, hzd⟩ := l1; rw [hr'] at hz; cases hz; exact hzd hd'
  have hhx : r.high ≠ x := fun e => by
   rw [e] at l2; obtain ⟨z, hz, hzd⟩ := l2; rw [hr'] at hz; cases hz; exact hzd hd'
  have hxL : x < (layM Tj.rows x r.about r.low r.high).length := lt_of_at hx0
  have hu : r'.users = 0 := (h.inv.dg x r' hr' hd').2
  refine List.ext_getElem? fun i => ?_
  show (((_ : List Rw).modify x _).modify _ _ |>.modify _ _)[i]? = _
  rw [get_modify, get_modify, get_modify]
  by_cases e : x = i
  · subst e
    rw [if_neg hhx, if_neg hlx, if_pos rfl, List.getElem?_set_self (by rw [h.len]; exact hxl), List.getElem?_set_self hxL, hrow]
    simp only [Option.map_some, askR, hu]
  · rw [if_neg e, List.getElem?_set_ne e, List.getElem?_set_ne e, hget i (Ne.symm e)]
    cases q : Tj.rows[i]? with
    | none => simp
    | some z =>
      unfold i1
      by_cases q1 : r.low = i
      · have q2 : r.high ≠ i := fun e => a3 (q1.trans e.symm)
        simp [q1, q2, moreR]
      · by_cases q2 : r.high = i
        · simp [q1, q2, moreR]
        · simp [q1, q2]
 have hab : ∀ y, y ≠ x → (keepT Tj x r r').rows[y]? = Tj.rows[y]?.map fun z => { z with users := z.users + i1 r.low y + i1 r.high y } := fun y hy => by
  rw [hrows, List.getElem?_set_ne (Ne.symm hy)]; exact hget y hy
 have hkx : (keepT Tj x r r').rows[x]? = some { row with given := r.given } := by rw [hrows, List.getElem?_set_self (lt_of_at hx0)]
 have hrk : ∀ y, Live A y → rk lv (keepT Tj x r r') y = rk lv Tj y := fun y ⟨z, hz, hzd⟩ => by
  rw [hAr] at hz
  have hy : y ≠ x := fun e => by rw [e, hr'] at hz; cases hz; exact hzd hd'
  rw [rk_at hz, rk_at (by rw [hab y hy, hz]; rfl : (keepT Tj x r r').rows[y]? = some { z with users := z.users + i1 r.low y + i1 r.high y })]
 have hrkx : rk lv (keepT Tj x r r') x = rk lv T x := by rw [rk_at hkx, rk_at hr, hrow]
 obtain ⟨I, MO, FR, FO, W⟩ := iA.node (ρ' := rk lv (keepT Tj x r r')) a1 a2 hLA1 hLA2 a3 hk hrk (by rw [hnum]; show rk lv (keepT Tj x r r') x < _ ∧ rk lv (keepT Tj x r r') x < _; rw [hrkx, k1, k2]; exact ⟨a6, a7⟩)
 have I2 : Inv n (rk lv (keepT Tj x r r')) z0 { nodeP A r.about r.low r.high with rows := (keepT Tj x r r').rows } := by
  rw [hrows, ← hnr]
  have hx1 : (nodeP A r.about r.low r.high).rows[x]? = some row := by rw [hnr]; exact hx0
  cases q : r.given with
  | true =>
    exact I.givn hx1 (by rw [hrow]; exact hd)
  | false =>
    have e : { row with given := false } = row := by rw [hrow]
    rw [e, list_set_same hx1]
    exact I
 have hmade : (nodeP A r.about r.low r.high).made = Tj.made ++ [((r.about, r.low, r.high), x)] := by
  unfold nodeP; rw [hnum]; show A.made ++ _ = _; rw [hAm]
 refine ⟨r, r', hr, hr', a1, a2, hll, hlh, by rw [← hAm]; exact hk, I2.re ?_ rfl ?_ (fun y => ?_) (deadL_nodup _), ?_, fun y hy => ?_, fun y hy2 hyl hy => ?_, ?_, h.rest⟩
 · show Tj.ord = (nodeP A r.about r.low r.high).ord
   unfold nodeP; rw [hnum]; show _ = A.ord; rw [hA]
 · rw [show ({ nodeP A r.about r.low r.high with rows := (keepT Tj x r r').rows } : Tb).made = (nodeP A r.about r.low r.high).made from rfl, hmade]; rfl
 · exact deadL_mem.trans (I2.free y).symm
 · rw [hrows, List.length_set, ← hnr, W0.len, hnum]; show A.rows.length = _; rw [hAr]; exact h.len
 · rw [List.take_add_one, hx] at hy
   rcases List.mem_append.1 hy with hy | hy
   · obtain ⟨s, s', hs, hs', e1, e2, e3, e4⟩ := h.on y hy
     have hyx : y ≠ x := fun e => hxt (e ▸ hy)
     exact ⟨s, { s' with users := s'.users + i1 r.low y + i1 r.high y }, hs, by rw [hab y hyx, hs']; rfl, e1, e2, e3, e4⟩
   · obtain rfl : y = x := by simpa using hy
     exact ⟨r, _, hr, hkx, by rw [hrow], by rw [hrow], by rw [hrow], rfl⟩
 · rw [List.take_add_one, hx] at hy
   have hyx : y ≠ x := fun e => hy (by simp [e])
   obtain ⟨z, hz, hzd⟩ := h.off y hy2 hyl fun hm => hy (List.mem_append.2 (.inl hm))
   exact ⟨{ z with users := z.users + i1 r.low y + i1 r.high y }, by rw [hab y hyx, hz]; rfl, hzd⟩
 · show (Tj.made ++ [(keyR r, x)]).length = _
   simp [h.made]
end
def frP (R : List Rw) (last : Nat) : Nat → List Nat
 | 0 => []
 | k + 1 => frP R last k ++ (if isDead R (last - k) then [last - k] else [])
theorem frP_mem (R : List Rw) (last : Nat) : ∀ (k x : Nat), x ∈ frP R last k ↔ ∃ i, i < k ∧ x = last - i ∧ isDead R x = true
 | 0, x => by simp [frP]
 | k + 1, x => by
   unfold frP
   rw [List.mem_append, frP_mem R last k x]
   constructor
   · rintro (⟨i, h1, h2, h3⟩ | h)
     · exact ⟨i, by omega, h2, h3⟩
     · split at h
       · rename_i hd
         obtain rfl : x = last - k := by simpa using h
         exact ⟨k, by omega, rfl, hd⟩
       · cases h
   · rintro ⟨i, h1, h2, h3⟩
     by_cases e : i = k
     · subst e; subst h2
       right; rw [if_pos h3]; simp
     · exact .inl ⟨i, by omega, h2, h3⟩
theorem frP_nodup (R : List Rw) (last : Nat) : ∀ k, k ≤ last → (frP R last k).Nodup
 | 0, _ => List.nodup_nil
 | k + 1, h => by
   unfold frP
   refine List.nodup_append.2 ⟨frP_nodup R last k (by omega), by split <;> simp, fun a ha b hb => ?_⟩
   obtain ⟨i, h1, h2, _⟩ := (frP_mem R last k a).1 ha
   split at hb
   · rw [List.mem_singleton.1 hb]; omega
   · cases hb
theorem ev_rows {T T' : Tb} (h : T'.rows = T.rows) (σ : Nat → Bool) : ∀ m f, ev m T' f σ = ev m T f σ
 | 0, f => rfl
 | m + 1, f => by
   unfold ev
   rw [h]
   split
   · rfl
   · split
     · rfl
     · split
       · exact ev_rows h σ m _
       · rfl
structure KeepP (n : Nat) (lv : Nat → Nat) (M : Nat) (T : Tb) (fs ls : List Nat) (T' : Tb) : Prop where
 base : Base n lv M T'
 keep : ∀ f ∈ fs, Giv T' f ∧ vl n T' f = vl n T f
 only : ∀ y, Giv T' y → Giv T y
 ord : T'.ord = T.ord
 made : T'.made.length = ls.length
section
variable {n : Nat} {lv : Nat → Nat} {M : Nat} {T Tj : Tb} {fs ls : List Nat} {last : Nat}
theorem KpI.done (h : KpI n lv T ls last ls.length Tj) (hB : Base n lv M T) (hD : DiaP T fs ls) (hg : ∀ f ∈ fs, Giv T f) (h1 : 1 ≤ last) (hlast : last < T.rows.length) :
 KeepP n lv M T fs ls { Tj with free := frP Tj.rows last (last - 1) } := by
 have hT := hB.mid.t.inv
 have htk : ls.take ls.length = ls := List.take_of_length_le (Nat.le_refl _)
 have hon := h.on
 have hoff := h.off
 rw [htk] at hon hoff
 have hdead : ∀ x, x ∈ frP Tj.rows last (last - 1) ↔ x ∈ deadL Tj.rows := fun x => by
  rw [frP_mem, deadL_mem, isDead_iff]
  constructor
  · rintro ⟨i, _, _, q⟩; exact q
  · rintro ⟨r, hr, hd⟩
    have hxl := lt_of_at hr
    rw [h.len] at hxl
    have h2 : 2 ≤ x := by
     match x, hr with
     | 0, hr =>
       obtain ⟨u, e⟩ := h.inv.e0
       have e : Tj.rows[0]? = _ := e
       rw [e] at hr; cases hr; exact absurd hd (by show (n : Int) ≠ -1; omega)
     | 1, hr =>
       obtain ⟨u, e⟩ := h.inv.e1
       have e : Tj.rows[1]? = _ := e
       rw [e] at hr; cases hr; exact absurd hd (by show (n : Int) ≠ -1; omega)
     | x + 2, _ => omega
    exact ⟨last - x, by omega, by omega, r, hr, hd⟩
 have iF : Inv n (rk lv Tj) z0 { Tj with free := frP Tj.rows last (last - 1) } := h.inv.re rfl rfl rfl hdead (frP_nodup _ _ _ (by omega))
 obtain ⟨r1, r2, r3, r4⟩ := h.rest
 have hlsl : ∀ x, 2 ≤ x → Live Tj x → x ∈ ls := fun x h2 ⟨r, hr, hd⟩ => by
  by_cases hm : x ∈ ls
  · exact hm
  · obtain ⟨z, hz, hzd⟩ := hoff x h2 (by rw [← h.len]; exact lt_of_at hr) hm
    rw [hr] at hz; cases hz; exact absurd hzd hd
 have hclo : ∀ x ∈ ls, ∀ r, T.rows[x]? = some r → (r.low < 2 ∨ r.low ∈ ls) ∧ (r.high < 2 ∨ r.high ∈ ls) := fun x hx r hr => by
  obtain ⟨pre, post, e⟩ := List.append_of_mem hx
  obtain ⟨c1, c2⟩ := hD.clo pre post x r e hr
  rw [e]
  exact ⟨c1.imp id fun q => by simp [q], c2.imp id fun q => by simp [q]⟩
 have hval : ∀ (σ : Nat → Bool) (m x : Nat), (x < 2 ∨ x ∈ ls) → ev m Tj x σ = ev m T x σ := by
  intro σ m
  induction m with
  | zero => intro x _; rfl
  | succ m ih =>
    intro x hx
    by_cases e0 : x = 0
    · subst e0; rw [ev_zero, ev_zero]
    by_cases e1 : x = 1
    · subst e1; rw [ev_one, ev_one]
    have hxm : x ∈ ls := hx.resolve_left (by omega)
    obtain ⟨r, r', hr, hr', a1, a2, a3, _⟩ := hon x hxm
    obtain ⟨c1, c2⟩ := hclo x hxm r hr
    rw [ev_node σ (by omega) hr', ev_node σ (by omega) hr, a1, a2, a3]
    split
    · exact ih _ c2
    · exact ih _ c1
 have hfs : ∀ f ∈ fs, Giv Tj f ∧ (f < 2 ∨ f ∈ ls) := fun f hf => by
  have hm := hD.has f hf
  refine ⟨?_, hm⟩
  rcases hm with hm | hm
  · obtain ⟨u, a0⟩ := h.inv.e0
    obtain ⟨u', a1⟩ := h.inv.e1
    have a0 : Tj.rows[0]? = _ := a0
    have a1 : Tj.rows[1]? = _ := a1
    match f, hm with
    | 0, _ => exact ⟨_, a0, by show (n : Int) ≠ -1; omega, rfl⟩
    | 1, _ => exact ⟨_, a1, by show (n : Int) ≠ -1; omega, rfl⟩
  · obtain ⟨r, hr, hd, hgv⟩ := hg f hf
    obtain ⟨s, s', hs, hs', b1, b2, b3, b4⟩ := hon f hm
    rw [hr] at hs; cases hs
    exact ⟨s', hs', by rw [b1]; exact hd, by rw [b4]; exact hgv⟩
 refine ⟨⟨⟨⟨hB.mid.t.lvo, iF⟩, hB.mid.n24, by rw [← hB.mid.ll]; show Tj.lev.length = _; rw [r2], fun a ha => by rw [← hB.mid.la a ha]; show Tj.lev[a]? = _; rw [r2], ?_, ?_, ?_, ?_, ?_, ?_, ?_, hB.mid.rm, ?_⟩, ?_, ?_⟩, fun f hf => ⟨(hfs f hf).1, funext fun σ => show ev (n + 1) _ f σ = ev (n + 1) T f σ from (ev_rows (T := Tj) (T' := { Tj with free := frP Tj.rows last (last - 1) }) rfl σ (n + 1) f).trans (hval σ (n + 1) f (hfs f hf).2)⟩, fun y hy => ?_, r1, h.made⟩
 · intro x r h2 hr hd _
   have hr : Tj.rows[x]? = some r := hr
   obtain ⟨_, _, f, hf, hR⟩ := hD.new x (hlsl x h2 ⟨r, hr, hd⟩)
   have key := hR (fun y => y < 2 ∨ (y ∈ ls ∧ ∀ z, Tj.rows[y]? = some z → z.given = true ∨ 0 < z.users)) ?_ ?_
   · rcases key with q | ⟨_, q⟩
     · omega
     · exact q r hr
   · rcases (hfs f hf).2 with q | q
     · exact .inl q
     · obtain ⟨z', hz', _, hgz⟩ := (hfs f hf).1
       exact .inr ⟨q, fun z hz => by rw [hz'] at hz; cases hz; exact .inl hgz⟩
   · intro y q h2y hy hq
     have hym : y ∈ ls := (hy.resolve_left (by omega)).1
     obtain ⟨s, s', hs, hs', b1, b2, b3, b4⟩ := hon y hym
     rw [hq] at hs; cases hs
     obtain ⟨c1, c2⟩ := hclo y hym q hq
     obtain ⟨_, hyl, _⟩ := hD.new y hym
     obtain ⟨q', hq', hqd⟩ := hyl
     rw [hq] at hq'; cases hq'
     obtain ⟨a1, a2, _⟩ := hT.nd y q h2y hq hqd
     have hpos : ∀ g, (q.low = g ∨ q.high = g) → ∀ z, Tj.rows[g]? = some z → z.given = true ∨ 0 < z.users := fun g hg z hz => by
      have hu := iF.us g z hz
      have := lnk_pos (n := n) (g := g) hs' (by
       unfold lw
       rw [if_pos (by rw [b1]; exact ⟨a1, a2⟩), b2, b3]
       rcases hg with e | e
       · rw [if_pos e]; omega
       · rw [if_pos e]; omega)
      right; rw [hu]; show 0 < lnk n Tj.rows g + 0; omega
     exact ⟨c1.imp id fun m => ⟨m, hpos _ (.inl rfl)⟩, c2.imp id fun m => ⟨m, hpos _ (.inr rfl)⟩⟩
 · show Tj.fresh.Nodup; rw [r4]; exact hB.mid.fnd
 · intro x hx
   have hx : x ∈ Tj.fresh := hx
   rw [r4, hB.fresh] at hx; cases hx
 · intro y r _ _ _ j hj
   have hj : Tj.fresh[j]? = some r.low ∨ Tj.fresh[j]? = some r.high := hj
   rw [r4, hB.fresh] at hj; simp at hj
 · show (Tj.found.map Prod.fst).Nodup; rw [r3]; exact hB.mid.fk
 · intro a b c x hx
   have hx : ((a, b, c), x) ∈ Tj.found := hx
   rw [r3, hB.found] at hx; cases hx
 · show Tj.rows.length ≤ M
   rw [h.len]; have := hB.mid.rl; omega
 · show Tj.rows.length ≤ _ + (Tj.rows.length - _) + _
   omega
 · show Tj.fresh = []; rw [r4]; exact hB.fresh
 · show Tj.found = []; rw [r3]; exact hB.found
 · obtain ⟨z, hz, hd, hgz⟩ := hy
   have hz : Tj.rows[y]? = some z := hz
   by_cases h2 : y < 2
   · obtain ⟨u, a0⟩ := hT.e0
     obtain ⟨u', a1⟩ := hT.e1
     match y, h2 with
     | 0, _ => exact ⟨_, a0, by show (n : Int) ≠ -1; omega, rfl⟩
     | 1, _ => exact ⟨_, a1, by show (n : Int) ≠ -1; omega, rfl⟩
   · obtain ⟨s, s', hs, hs', b1, b2, b3, b4⟩ := hon y (hlsl y (by omega) ⟨z, hz, hd⟩)
     rw [hz] at hs'; cases hs'
     exact ⟨s, hs, by rw [← b1]; exact hd, by rw [← b4]; exact hgz⟩
end
end Go.Proofs.YtaakjjefnjbabaaGreat.Sx
namespace Go.Proofs.YtaakjjefnjbabaaGreat.Sx
def Cof (F : (Nat → Bool) → Bool) (c : Nat → Option Bool) (σ : Nat → Bool) : Bool := F fun v => (c v).getD (σ v)
def setO (c : Nat → Option Bool) (v : Nat) (b : Bool) (x : Nat) : Option Bool := if x = v then some b else c x
def pas : Nat → List (Nat → Option Bool)
 | 0 => [fun _ => none]
 | n + 1 => pas n ++ ((pas n).map fun c => setO c n false) ++ (pas n).map fun c => setO c n true
theorem pas_len : ∀ n, (pas n).length = 3 ^ n
 | 0 => rfl
 | n + 1 => by
   unfold pas
   simp only [List.length_append, List.length_map, pas_len n, Nat.pow_succ]
   omega
theorem pas_mem : ∀ (n : Nat) (c : Nat → Option Bool), (∀ v, n ≤ v → c v = none) → c ∈ pas n
 | 0, c, h => by
   obtain rfl : c = fun _ => none := funext fun v => h v (by omega)
   exact List.mem_singleton.2 rfl
 | n + 1, c, h => by
   have hq := pas_mem n (fun v => if v = n then none else c v) fun v hv => by
    show (if v = n then none else c v) = none
    split
    · rfl
    · exact h v (by omega)
   unfold pas
   rw [List.mem_append, List.mem_append, List.mem_map, List.mem_map]
   cases q : c n with
   | none =>
     left; left
     have : c = fun v => if v = n then none else c v := funext fun v => by
      show c v = if v = n then none else c v
      split
      · rename_i e; rw [e, q]
      · rfl
     rw [this]; exact hq
   | some b =>
     have key : setO (fun v => if v = n then none else c v) n b = c := funext fun v => by
      unfold setO
      by_cases e : v = n
      · rw [if_pos e, e, q]
      · rw [if_neg e]; exact if_neg e
     cases b
     · left; right; exact ⟨_, hq, key⟩
     · right; exact ⟨_, hq, key⟩
def prodL {α β : Type} : List α → List β → List (α × β)
 | [], _ => []
 | a :: l, m => m.map (fun b => (a, b)) ++ prodL l m
theorem prodL_len {α β : Type} : ∀ (l : List α) (m : List β), (prodL l m).length = l.length * m.length
 | [], m => by simp [prodL]
 | a :: l, m => by
   unfold prodL
   rw [List.length_append, List.length_map, prodL_len l m, List.length_cons, Nat.succ_mul]
   omega
theorem prodL_mem {α β : Type} {a : α} {b : β} : ∀ {l : List α} {m : List β}, a ∈ l → b ∈ m → (a, b) ∈ prodL l m
 | [], _, h, _ => by cases h
 | c :: l, m, h, hb => by
   unfold prodL
   rw [List.mem_append, List.mem_map]
   rcases List.mem_cons.1 h with e | e
   · left; exact ⟨b, hb, by rw [e]⟩
   · right; exact prodL_mem e hb
theorem nodup_sub : ∀ {l m : List Nat}, l.Nodup → (∀ x ∈ l, x ∈ m) → l.length ≤ m.length
 | [], _, _, _ => Nat.zero_le _
 | a :: l, m, hn, h => by
   obtain ⟨h1, h2⟩ := List.nodup_cons.1 hn
   have hm : a ∈ m := h a (by simp)
   have := nodup_sub (l := l) (m := m.erase a) h2 fun x hx => (List.mem_erase_of_ne (fun e => h1 (by rw [← e]; exact hx))).2 (h x (by simp [hx]))
   rw [List.length_erase_of_mem hm] at this
   have := List.length_pos_of_mem hm
   simp only [List.length_cons]
   omega
theorem count_by {l : List Nat} {N : Nat} {R : Nat → Nat → Prop} (hn : l.Nodup) (h1 : ∀ x ∈ l, ∃ i, i < N ∧ R x i) (h2 : ∀ x ∈ l, ∀ y ∈ l, ∀ i, R x i → R y i → x = y) : l.length ≤ N := by
 classical
 let f : Nat → Nat := fun x => if h : ∃ i, i < N ∧ R x i then h.choose else 0
 have hf : ∀ x ∈ l, f x < N ∧ R x (f x) := fun x hx => by
  have h := h1 x hx
  have e : f x = h.choose := dif_pos h
  rw [e]
  exact h.choose_spec
 have hnd : (l.map f).Nodup := by
  show List.Pairwise (· ≠ ·) _
  rw [List.pairwise_map]
  refine List.Pairwise.imp_of_mem (fun {a b} ha hb hab e => ?_) hn
  exact hab (h2 a ha b hb (f a) (hf a ha).2 (by rw [e]; exact (hf b hb).2))
 have := nodup_len N (l.map f) hnd fun y hy => by
  obtain ⟨x, hx, rfl⟩ := List.mem_map.1 hy
  exact (hf x hx).1
 rw [List.length_map] at this
 exact this
section
variable {n : Nat} {ρ p : Nat → Nat} {T : Tb}
theorem lnk_ex {g : Nat} : ∀ {R : List Rw}, 0 < lnk n R g → ∃ (f : Nat) (r : Rw), R[f]? = some r ∧ 0 < lw n g r
 | [], h => by simp [lnk] at h
 | r :: R, h => by
   by_cases q : 0 < lw n g r
   · exact ⟨0, r, rfl, q⟩
   · have : 0 < lnk n R g := by
      simp only [lnk, List.map_cons, List.sum_cons] at h ⊢
      omega
     obtain ⟨f, s, h1, h2⟩ := lnk_ex this
     exact ⟨f + 1, s, by simpa using h1, h2⟩
theorem Inv.from_giv (h : Inv n ρ z0 T) (hb : ∀ x, Live T x → ρ x ≤ n) (ng : NG (fun _ => False) T) (hP : ∀ (x v y : Nat), 2 ≤ x → Live T x → (ky T x).1 = (v : Int) → (y = (ky T x).2.1 ∨ y = (ky T x).2.2) → Ind (vl n T y) v) : ∀ (m x : Nat), Live T x → ρ x < m → ∃ g c, Giv T g ∧ (∀ v, n ≤ v → c v = none) ∧ vl n T x = Cof (vl n T g) c
 | 0, x, _, hm => by omega
 | m + 1, x, hx, hm => by
   by_cases hg : Giv T x
   · exact ⟨x, fun _ => none, hg, fun _ _ => rfl, rfl⟩
   · obtain ⟨r, hr, hd⟩ := hx
     have h2 : 2 ≤ x := by
      obtain ⟨u0, e0⟩ := h.e0
      obtain ⟨u1, e1⟩ := h.e1
      match x, hg with
      | 0, hg => exact absurd ⟨_, e0, by show (n : Int) ≠ -1; omega, rfl⟩ hg
      | 1, hg => exact absurd ⟨_, e1, by show (n : Int) ≠ -1; omega, rfl⟩ hg
      | x + 2, _ => omega
     have hu : 0 < r.users := by
      rcases ng x r h2 hr hd (fun q => q) with q | q
      · exact absurd ⟨r, hr, hd, q⟩ hg
      · exact q
     have hl : 0 < lnk n T.rows x := by
      have h3 : r.users = lnk n T.rows x + 0 := h.us x r hr
      omega
     obtain ⟨y, q, hq, hw⟩ := lnk_ex hl
     obtain ⟨y2, hqd, hpart⟩ := lw_node h hq x hw
     obtain ⟨a1, a2, a3, a4, a5, a6, a7⟩ := h.nd y q y2 hq hqd
     have ly : Live T y := ⟨q, hq, hqd⟩
     have hky : ky T y = keyR q := ky_at hq
     obtain ⟨v, hv⟩ : ∃ v : Nat, q.about = (v : Int) := ⟨q.about.toNat, by omega⟩
     have hrk : ρ y < ρ x := by rcases hpart with rfl | rfl <;> assumption
     obtain ⟨g, c, hgg, hc, he⟩ := h.from_giv hb ng hP m y ly (by omega)
     obtain ⟨b, hb2⟩ : ∃ b : Bool, x = if b then q.high else q.low := by
      rcases hpart with e | e
      · exact ⟨false, e.symm⟩
      · exact ⟨true, e.symm⟩
     have hind : Ind (vl n T x) v := hP y v x y2 ly (by rw [hky]; exact hv) (by rw [hky]; exact hpart.imp Eq.symm Eq.symm)
     have hvx : ∀ σ, vl n T x σ = vl n T y (upd σ v b) := fun σ => by
      have e1 := vl_ky h hb (upd σ v b) y2 ly
      rw [hky] at e1
      have e2 : (keyR q).1.toNat = v := by show q.about.toNat = v; omega
      rw [e2, upd_at] at e1
      rw [e1]
      show _ = vl n T (if b then q.high else q.low) (upd σ v b)
      rw [← hb2, hind]
     refine ⟨g, fun w => if w = v then some ((c v).getD b) else c w, hgg, fun w hw2 => ?_, funext fun σ => ?_⟩
     · show (if w = v then _ else _) = _
       rw [if_neg (by omega)]; exact hc w hw2
     · rw [hvx σ, he]
       unfold Cof
       refine congrArg (vl n T g) (funext fun w => ?_)
       show (c w).getD (upd σ v b w) = (if w = v then some ((c v).getD b) else c w).getD (σ w)
       by_cases e : w = v
       · rw [e, if_pos rfl, upd_at]; rfl
       · rw [if_neg e, upd_ne e]
theorem Inv.cnt_le (h : Inv n ρ z0 T) (hb : ∀ x, Live T x → ρ x ≤ n) (ng : NG (fun _ => False) T) (hP : ∀ (x v y : Nat), 2 ≤ x → Live T x → (ky T x).1 = (v : Int) → (y = (ky T x).2.1 ∨ y = (ky T x).2.2) → Ind (vl n T y) v) (hinj : ∀ x y, Live T x → Live T y → vl n T x = vl n T y → x = y) {gs : List Nat} (hgs : ∀ y, Giv T y → y ∈ gs) : cnt T ≤ gs.length * 3 ^ n := by
 have e1 : (deadL T.rows).length ≤ T.free.length := nodup_sub (deadL_nodup _) fun x hx => (h.free x).2 (deadL_mem.1 hx)
 have e2 : T.rows.length = (deadL T.rows).length + ((List.range T.rows.length).filter fun x => !isDead T.rows x).length := by
  have := List.length_eq_countP_add_countP (isDead T.rows) (l := List.range T.rows.length)
  rw [List.length_range, List.countP_eq_length_filter, List.countP_eq_length_filter] at this
  refine this.trans ?_
  unfold deadL
  simp
 have e3 : ((List.range T.rows.length).filter fun x => !isDead T.rows x).length ≤ (prodL gs (pas n)).length := by
  refine count_by (R := fun x i => ∃ g c, (prodL gs (pas n))[i]? = some (g, c) ∧ vl n T x = Cof (vl n T g) c) (List.Nodup.sublist List.filter_sublist List.nodup_range) (fun x hx => ?_) fun x hx y hy i hi hj => ?_
  · obtain ⟨hxl, hxd⟩ := List.mem_filter.1 hx
    have hxl := List.mem_range.1 hxl
    have lx : Live T x := ⟨T.rows[x], List.getElem?_eq_getElem hxl, fun q => by
     have : isDead T.rows x = true := isDead_iff.2 ⟨_, List.getElem?_eq_getElem hxl, q⟩
     rw [this] at hxd; cases hxd⟩
    obtain ⟨g, c, hg, hc, he⟩ := h.from_giv hb ng hP _ x lx (Nat.lt_succ_self _)
    obtain ⟨i, hi, hie⟩ := List.getElem_of_mem (prodL_mem (hgs g hg) (pas_mem n c hc))
    exact ⟨i, hi, g, c, by rw [List.getElem?_eq_getElem hi, hie], he⟩
  · have live : ∀ z, z ∈ (List.range T.rows.length).filter (fun x => !isDead T.rows x) → Live T z := fun z hz => by
     obtain ⟨hzl, hzd⟩ := List.mem_filter.1 hz
     have hzl := List.mem_range.1 hzl
     exact ⟨T.rows[z], List.getElem?_eq_getElem hzl, fun q => by
      have : isDead T.rows z = true := isDead_iff.2 ⟨_, List.getElem?_eq_getElem hzl, q⟩
      rw [this] at hzd; cases hzd⟩
    obtain ⟨g, c, h1, h2⟩ := hi
    obtain ⟨g', c', h3, h4⟩ := hj
    rw [h1] at h3
    cases h3
    exact hinj x y (live x hx) (live y hy) (h2.trans h4.symm)
 rw [prodL_len, pas_len] at e3
 unfold cnt
 omega
end
theorem Trn.cnt_le {n : Nat} {lv : Nat → Nat} {u l k : Nat} {T : Tb} (h : Trn n lv u l k z0 T) (ng : NG (fun _ => False) T) {gs : List Nat} (hgs : ∀ y, Giv T y → y ∈ gs) : cnt T ≤ gs.length * 3 ^ n :=
 h.inv.cnt_le h.rle ng (fun _ _ _ h2 hx hv hy => (h.indP h2 hx hv hy).2) h.inj hgs
theorem Tbl.indP {n : Nat} {lv p : Nat → Nat} {T : Tb} (h : Tbl n lv p T) {x v y : Nat} (h2 : 2 ≤ x) (hx : Live T x) (hv : (ky T x).1 = (v : Int)) (hy : y = (ky T x).2.1 ∨ y = (ky T x).2.2) : Ind (vl n T y) v := fun b σ => by
 obtain ⟨r, hr, hd⟩ := hx
 rw [ky_at hr] at hv hy
 obtain ⟨a1, a2, a3, a4, a5, a6, a7⟩ := h.inv.nd x r h2 hr hd
 have hk : rk lv T x = lv v := by
  rw [rk_at hr]
  have hv : r.about = v := hv
  rw [hv, Int.toNat_natCast]
 have ly : Live T y ∧ rk lv T x < rk lv T y := by
  rcases hy with rfl | rfl
  · exact ⟨a4, a6⟩
  · exact ⟨a5, a7⟩
 exact h.indep b n y ly.1 (by omega) (by omega) σ
theorem Tbl.cnt_le {n : Nat} {lv : Nat → Nat} {T : Tb} (h : Tbl n lv z0 T) (ng : NG (fun _ => False) T) {gs : List Nat} (hgs : ∀ y, Giv T y → y ∈ gs) : cnt T ≤ gs.length * 3 ^ n :=
 h.inv.cnt_le h.rle ng (fun _ _ _ h2 hx hv hy => h.indP h2 hx hv hy) (fun _ _ hx hy e => (h.same hx hy).1 e) hgs
end Go.Proofs.YtaakjjefnjbabaaGreat.Sx
