/- What follows of clauses and of what is given (plain): the store's way. -/
import Derived.Test.YtbicefgjompnoaaDoorF05
import Derived.Test.YtbicefgjompnoaaDoorF13
import Derived.Test.YtbicefgjompnoaaDoorF25
import Derived.Test.YtbicefgjompnoaaDoorF29
import Derived.Test.YtbicefgjompnoaaDoorF31
import Derived.Test.YtbicefgjompnoaaDoorF33
namespace Go.Proofs.YtbicefgjompnoaaDoor.Sx

theorem map_opp2 (g : List Nat) : (g.map opp).map opp = g := by
  rw [List.map_map]
  exact (List.map_congr_left (fun x _ => opp_opp x)).trans (List.map_id g)
/-- what is given is believed first -/
def givS (t : St) (g : List Nat) : St × Bool := supP t (g.map opp)

section
variable {n k : Nat} {t : St} {g : List Nat}
theorem SO.open_ (h : SO n k t) (G : List Nat) : SF n [] G t.rows t :=
  ⟨h.F.I, h.F.W, h.F.tt, h.F.wy, h.F.s0, h.F.lk, h.F.l0, fun i l hi => by rw [h.tr] at hi; simp at hi, h.F.rp, h.F.dn⟩
theorem giv_sem (h : SO n k t) (hg : ∀ l ∈ g, l < 2 * n) :
    FB n [] g t.rows t (givS t g).1 ∧ (givS t g).1.rows = t.rows ∧ ((givS t g).2 = true → SF n [] g t.rows (givS t g).1 ∧ ∀ l ∈ g, l ∈ (givS t g).1.trail) ∧ ((givS t g).2 = false → NCannot (Cl t) g) := by
  have hs := sup_sem (g.map opp) t (h.open_ g) (Nat.zero_le _) (fun l hl => by
    obtain ⟨x, hx, rfl⟩ := List.mem_map.1 hl
    exact ⟨opp_lt (hg x hx), by rw [opp_opp]; exact hx⟩)
  obtain ⟨q1, q2, q3, q4⟩ := hs
  refine ⟨q1, q2, fun e => ⟨(q3 e).1, fun l hl => ?_⟩, fun e => ?_⟩
  · have := (q3 e).2 (opp l) (List.mem_map.2 ⟨l, hl, rfl⟩)
    rwa [opp_opp] at this
  · obtain ⟨l, hl, hm⟩ := q4 e
    obtain ⟨x, hx, rfl⟩ := List.mem_map.1 hl
    have hd := (trail_mem_der q1.y hm).mono (q1.rp.cl q1.empty).2 (fun _ z => z)
    exact .inl ⟨x, .given hx, hd⟩

/-- what begin comes to behind it -/
theorem beg_one (h : SO n k t) (hg : ∀ l ∈ g, l < 2 * n) (he : 0 < (givS t g).1.empty) : NCannot (Cl t) g := by
  obtain ⟨q1, _⟩ := giv_sem h hg
  exact .inr ⟨[], .inr ⟨rfl, by rw [← q1.empty]; exact he⟩, by simp⟩
theorem one_of (h : RW t) (hs : ∀ r : Nat, t.rows[r]? ≠ some none) : ∀ r ∈ t.single, ∃ l, t.rows[r]? = some (some [l]) := fun r hr => by
  rcases h.one r hr with q | q
  · exact q
  · exact absurd q (hs r)
theorem beg_two (h : SO n k t) (hn : ∀ r : Nat, t.rows[r]? ≠ some none) (hg : ∀ l ∈ g, l < 2 * n) (hb : (givS t g).2 = true) (hf : (singlesP (givS t g).1 (givS t g).1.single).2 = false) : NCannot (Cl t) g := by
  obtain ⟨q1, q2, q3, _⟩ := giv_sem h hg
  have ho : ∀ r ∈ (givS t g).1.single, ∃ l, (givS t g).1.rows[r]? = some (some [l]) := fun r hr => by
    rw [q2]; rw [q1.single] at hr; exact one_of h.R hn r hr
  obtain ⟨p1, _, _, _, p5⟩ := singles_sem (givS t g).1.single _ (q3 hb).1 ho
  have hF := q1.trans p1
  exact (bad_cannot p1.y (p5 hf)).mono (hF.rp.cl hF.empty).2 (fun _ z => z)
theorem beg_I (h : SO n k t) (hn : ∀ r : Nat, t.rows[r]? ≠ some none) (hg : ∀ l ∈ g, l < 2 * n) (hb : (givS t g).2 = true) : LkI n (singlesP (givS t g).1 (givS t g).1.single).1 := by
  obtain ⟨q1, q2, q3, _⟩ := giv_sem h hg
  have ho : ∀ r ∈ (givS t g).1.single, ∃ l, (givS t g).1.rows[r]? = some (some [l]) := fun r hr => by
    rw [q2]; rw [q1.single] at hr; exact one_of h.R hn r hr
  exact (singles_sem (givS t g).1.single _ (q3 hb).1 ho).1.I
theorem beg_three (h : SO n k t) (hn : ∀ r : Nat, t.rows[r]? ≠ some none) (hg : ∀ l ∈ g, l < 2 * n) (hb : (givS t g).2 = true) (he : (givS t g).1.empty = 0) (ht : (singlesP (givS t g).1 (givS t g).1.single).2 = true) {f : Nat} {r : St × Int} (hr : followS f (singlesP (givS t g).1 (givS t g).1.single).1 = some r) :
    (r.2 ≠ -1 → NCannot (Cl t) g) ∧ (r.2 = -1 → ¬ NCannot (Cl t) g ∧ TrOK n r.1 ∧ ∀ l, l ∈ r.1.trail ↔ NDer (Cl t) g l) := by
  obtain ⟨q1, q2, q3, _⟩ := giv_sem h hg
  have ho : ∀ r ∈ (givS t g).1.single, ∃ l, (givS t g).1.rows[r]? = some (some [l]) := fun r hr => by
    rw [q2]; rw [q1.single] at hr; exact one_of h.R hn r hr
  obtain ⟨p1, _, _, p4, _⟩ := singles_sem (givS t g).1.single _ (q3 hb).1 ho
  obtain ⟨p6, p7⟩ := p4 ht
  obtain ⟨z1, z2, z3⟩ := followS_sem f _ r p6 hr
  have hF := (q1.trans p1).trans z1
  have hc := hF.rp.cl hF.empty
  refine ⟨fun e => (bad_cannot z1.y (z3 e)).mono hc.2 (fun _ z => z), fun e => ?_⟩
  obtain ⟨y1, y2⟩ := z2 e
  obtain ⟨m1, e1⟩ := p1.tr
  obtain ⟨m2, e2⟩ := z1.tr
  have hRW : RW r.1 := h.R.rp hF.rp hF.single
  obtain ⟨x1, x2⟩ := closed_N y1 y2 (fun l hl => by
      rw [e2, e1]
      exact List.mem_append_left _ (List.mem_append_left _ ((q3 hb).2 l hl))) (by rw [z1.empty, p1.empty]; exact he) (fun j l hl => by
      obtain ⟨a, a1, a2⟩ := (p1.trans z1).rp.bw j [l] (by exact hl)
      rw [← List.singleton_perm.1 a2] at a1
      have hm : j ∈ (givS t g).1.single := by rw [q1.single]; exact h.R.all1 j l a1
      have := p7 j hm l (by rw [q2]; exact a1)
      rw [e2]
      exact List.mem_append_left _ this) hRW.no0
  refine ⟨fun q => x2 (q.mono hc.1 fun _ z => z), y1.I.tr, fun l => ⟨fun hl => (trail_mem_der y1.y hl).mono hc.2 (fun _ z => z), fun hl => x1 l (hl.mono hc.1 fun _ z => z)⟩⟩
end

end Go.Proofs.YtbicefgjompnoaaDoor.Sx
/- What is told (plain). -/
namespace Go.Proofs.YtbicefgjompnoaaDoor.Sx
/-- the number of a literal -/
def toldP (s : List Nat × List Nat) (l : Nat) : Int := if l % 2 = 0 then (s.2.getD (l / 2) 0 : Int) else -(s.2.getD (l / 2) 0 : Int)

end Go.Proofs.YtbicefgjompnoaaDoor.Sx
/- What follows, as it is told (plain). -/
namespace Go.Proofs.YtbicefgjompnoaaDoor.Sx

/-- what is always true makes nothing more follow -/
theorem der_out {C : List (List Int)} {G : List Int} (h0 : ∀ c ∈ C, ∀ l ∈ c, l ≠ 0) (hn : ¬ Cannot (C.filter fun c => !alwaysI c) G) {l : Int} : Der C G l ↔ Der (C.filter fun c => !alwaysI c) G l := by
  have sub : ∀ c ∈ C.filter (fun c => !alwaysI c), c ∈ C := fun c hc => (List.mem_filter.1 hc).1
  have hcon : ∀ x, Der (C.filter fun c => !alwaysI c) G x → Der (C.filter fun c => !alwaysI c) G (-x) → False := fun x h1 h2 => hn (.inl ⟨x, h1, h2⟩)
  refine ⟨fun h => h _ ⟨fun l hl => .given hl, fun c hc l hl ho => ?_⟩, fun h => h.mono sub⟩
  cases ha : alwaysI c with
  | false => exact .step (List.mem_filter.2 ⟨hc, by simp [ha]⟩) hl ho
  | true =>
    obtain ⟨x, hx1, hx2⟩ := alwaysI_iff.1 ha
    by_cases q1 : x = l
    · subst q1
      have := ho (-x) hx2 (fun e => by have := h0 c hc x hx1; omega)
      rwa [Int.neg_neg] at this
    · by_cases q2 : -x = l
      · have := ho x hx1 q1
        rwa [q2] at this
      · have h1 := ho x hx1 q1
        have h2 := ho (-x) hx2 q2
        exact (hcon _ h1 (by simpa using h2)).elim

section
variable {n : Nat} {s : List Nat × List Nat}
theorem Cor.both {L : List (List Int)} {t : St} (h : NmOK n s) (hc : Cor n s L t) {n' : Nat} (hB : BB n' t) :
    (∀ d, MapC s (L.filter fun c => !alwaysI c) d → ∃ c', Cl t c' ∧ ∀ x, x ∈ c' ↔ x ∈ d) ∧ (∀ d, Cl t d → ∃ c', MapC s (L.filter fun c => !alwaysI c) c' ∧ ∀ x, x ∈ c' ↔ x ∈ d) := by
  refine ⟨fun d hd => ?_, fun d hd => ?_⟩
  · obtain ⟨x, hx, rfl⟩ := hd
    obtain ⟨hx1, hx2⟩ := List.mem_filter.1 hx
    obtain ⟨c, hcs⟩ := setOf_ex (x.map (litV s))
    have ha : alwaysP c = false := by
      rw [← alwaysP_key hcs.key, always_map h (hc.nm x hx1)]
      simpa using hx2
    have hp : 0 < liveN t c := by
      rw [hc.cnt c hcs.asc ha]
      exact List.countP_pos_iff.2 ⟨x, hx1, hcs.key⟩
    obtain ⟨d, d1, d2⟩ := liveN_pos hp
    exact ⟨d, d1, fun y => ((isKey_iff.1 d2 y).symm).trans (hcs.mem y)⟩
  · obtain ⟨c, hcs⟩ := setOf_ex d
    have hda : alwaysP d = false := by
      rcases hd with ⟨r, hr⟩ | ⟨rfl, _⟩
      · exact hc.na r d hr
      · rfl
    have ha : alwaysP c = false := by rw [← alwaysP_key hcs.key]; exact hda
    have hp := cl_live hB hd hcs
    rw [hc.cnt c hcs.asc ha] at hp
    obtain ⟨x, hx, hk⟩ := List.countP_pos_iff.1 hp
    have hk' : isKey (x.map (litV s)) c = true := hk
    refine ⟨x.map (litV s), ⟨x, List.mem_filter.2 ⟨hx, ?_⟩, rfl⟩, fun y => ((isKey_iff.1 hk' y).symm).trans (hcs.mem y)⟩
    rw [← always_map h (hc.nm x hx), alwaysP_key hk', ha]
    rfl
theorem Cor.follows (h : NmOK n s) {L : List (List Int)} {t : St} (hc : Cor n s L t) {n' : Nat} (hB : BB n' t) {G : List Int} (hG : ∀ x ∈ G, Nm n s x) (hn : ¬ Cannot L G) (x : Int) : Der L G x ↔ Nm n s x ∧ NDer (Cl t) (G.map (litV s)) (litV s x) := by
  have h0 : ∀ c ∈ L, ∀ l ∈ c, l ≠ 0 := fun c q l hl => (hc.nm c q l hl).1.1
  have hf : ∀ c ∈ L.filter (fun c => !alwaysI c), ∀ x ∈ c, Nm n s x := fun c q => hc.nm c (List.mem_filter.1 q).1
  obtain ⟨b1, b2⟩ := hc.both h hB
  rw [der_out h0 (fun q => hn ((always_out h0).2 q))]
  constructor
  · intro q
    obtain ⟨q1, q2⟩ := der_map hf hG q
    exact ⟨q1, q2.mono b1 fun _ z => z⟩
  · rintro ⟨q1, q2⟩
    obtain ⟨y, y1, y2, y3⟩ := map_der h hf hG (q2.mono b2 fun _ z => z)
    rw [← litV_inj h y1 q1 y2]
    exact y3

theorem told_lit (h : NmOK n s) {l : Nat} (hl : l < 2 * s.2.length) : Nm n s (toldP s l) ∧ litV s (toldP s l) = l ∧ (toldP s l).natAbs = s.2.getD (l / 2) 0 := by
  have hk : l / 2 < s.2.length := by omega
  obtain ⟨q1, q2, q3⟩ := h.there (l / 2) s.2[l / 2] (List.getElem?_eq_getElem hk)
  have e : s.2.getD (l / 2) 0 = s.2[l / 2] := by rw [List.getD_eq_getElem?_getD, List.getElem?_eq_getElem hk]; rfl
  unfold toldP
  rw [e]
  generalize s.2[l / 2] = v at q1 q2 q3
  by_cases p : l % 2 = 0
  · rw [if_pos p]
    refine ⟨⟨⟨by omega, by omega, by omega⟩, ?_⟩, ?_, by omega⟩
    · rw [Int.natAbs_natCast, q1]; omega
    · unfold litV
      rw [Int.natAbs_natCast, q1, if_pos (by omega)]; omega
  · rw [if_neg p]
    refine ⟨⟨⟨by omega, by omega, by omega⟩, ?_⟩, ?_, by omega⟩
    · rw [Int.natAbs_neg, Int.natAbs_natCast, q1]; omega
    · unfold litV
      rw [Int.natAbs_neg, Int.natAbs_natCast, q1, if_neg (by omega)]; omega
theorem told_of (h : NmOK n s) {x : Int} (hx : Nm n s x) : toldP s (litV s x) = x ∧ litV s x < 2 * s.2.length := by
  obtain ⟨k, k1, k2⟩ := hx.place h
  have hk : k < s.2.length := (List.getElem?_eq_some_iff.1 k2).1
  have hx0 := hx.1.1
  have e : s.2.getD k 0 = x.natAbs := by rw [List.getD_eq_getElem?_getD, k2]; rfl
  unfold toldP litV
  rw [k1]
  by_cases q : 0 < x
  · rw [if_pos q, if_pos (by omega), show 2 * (k + 1 - 1) / 2 = k by omega, e]
    exact ⟨by omega, by omega⟩
  · rw [if_neg q, if_neg (by omega), show (2 * (k + 1 - 1) + 1) / 2 = k by omega, e]
    exact ⟨by omega, by omega⟩

/-- all that is true, by its variables -/
def trueP (v : List Int) : List Int := (List.range' 1 (v.length - 1)).filterMap fun i => if v.getD i 0 ≠ 0 then some (v.getD i 0 * (i : Int)) else none
/-- ascending by what is told of -/
def Abs (l : List Int) : Prop := l.Pairwise fun a b => a.natAbs < b.natAbs
theorem abs_uniq : ∀ {a b : List Int}, Abs a → Abs b → (∀ x, x ∈ a ↔ x ∈ b) → a = b
  | [], [], _, _, _ => rfl
  | [], y :: b, _, _, h => absurd ((h y).2 (by simp)) (by simp)
  | x :: a, [], _, _, h => absurd ((h x).1 (by simp)) (by simp)
  | x :: a, y :: b, ha, hb, h => by
    obtain ⟨a1, a2⟩ := List.pairwise_cons.1 ha
    obtain ⟨b1, b2⟩ := List.pairwise_cons.1 hb
    have e : x = y := by
      rcases List.mem_cons.1 ((h x).1 (by simp)) with q | q
      · exact q
      · rcases List.mem_cons.1 ((h y).2 (by simp)) with p | p
        · exact p.symm
        · have := b1 x q
          have := a1 y p
          omega
    subst e
    rw [abs_uniq a2 b2 fun z => ?_]
    have hz := h z
    simp only [List.mem_cons] at hz
    constructor
    · intro q
      rcases hz.1 (.inr q) with p | p
      · rw [p] at q; have := a1 x q; omega
      · exact p
    · intro q
      rcases hz.2 (.inr q) with p | p
      · rw [p] at q; have := b1 x q; omega
      · exact p
theorem three_abs {v : List Int} (h3 : ∀ l, vAt v l = 1 ∨ vAt v l = 0 ∨ vAt v l = -1) (i : Nat) : v.getD i 0 = 1 ∨ v.getD i 0 = 0 ∨ v.getD i 0 = -1 := by
  have := h3 (i : Int)
  unfold vAt at this
  rw [if_neg (by omega), Int.natAbs_natCast] at this
  exact this
theorem trueP_abs {v : List Int} (h3 : ∀ l, vAt v l = 1 ∨ vAt v l = 0 ∨ vAt v l = -1) : Abs (trueP v) := by
  unfold Abs trueP
  rw [List.pairwise_filterMap]
  refine (List.pairwise_lt_range' (s := 1) (n := v.length - 1)).imp ?_
  intro i j hij x hx y hy
  split at hx
  · split at hy
    · cases hx; cases hy
      have key : ∀ k : Nat, v.getD k 0 ≠ 0 → (v.getD k 0 * (k : Int)).natAbs = k := fun k hk => by
        rcases three_abs h3 k with q | q | q
        · rw [q]; omega
        · exact absurd q hk
        · rw [q]; omega
      rename_i z1 z2
      rw [key i z1, key j z2]
      exact hij
    · cases hy
  · cases hx
theorem trueP_mem {v : List Int} {N : Nat} (hl : v.length = N + 1) (h3 : ∀ l, vAt v l = 1 ∨ vAt v l = 0 ∨ vAt v l = -1) (x : Int) : x ∈ trueP v ↔ x ≠ 0 ∧ 0 < vAt v x := by
  unfold trueP
  rw [List.mem_filterMap]
  constructor
  · rintro ⟨i, hi, hx⟩
    rw [List.mem_range'_1] at hi
    split at hx
    · rename_i hz
      have e := Option.some.inj hx
      unfold vAt
      rcases three_abs h3 i with q | q | q
      · rw [q] at e
        have e2 : x = (i : Int) := by omega
        rw [e2, if_neg (by omega), Int.natAbs_natCast, q]
        omega
      · exact absurd q hz
      · rw [q] at e
        have e2 : x = -(i : Int) := by omega
        rw [e2, if_pos (by omega), Int.natAbs_neg, Int.natAbs_natCast, q]
        omega
    · cases hx
  · rintro ⟨h0, hv⟩
    have hlt : x.natAbs < v.length := by
      refine Classical.byContradiction fun hn => ?_
      unfold vAt at hv
      rw [List.getD_eq_getElem?_getD, List.getElem?_eq_none (by omega)] at hv
      split at hv <;> simp at hv
    refine ⟨x.natAbs, by rw [List.mem_range'_1]; omega, ?_⟩
    unfold vAt at hv
    rcases three_abs h3 x.natAbs with q | q | q
    · rw [q] at hv ⊢
      rw [if_pos (by omega)]
      split at hv
      · omega
      · congr 1; omega
    · rw [q] at hv; split at hv <;> omega
    · rw [q] at hv ⊢
      rw [if_pos (by omega)]
      split at hv
      · congr 1; omega
      · omega

/-- what is told and put in order is what is true -/
theorem told_true (h : NmOK n s) {L : List (List Int)} {t u : St} (hc : Cor n s L t) (hB : BB s.2.length t) {G : List Int} (hG : ∀ x ∈ G, Nm n s x) (hn : ¬ Cannot L G) {v : List Int} (hv : Ends n L G (some v))
    (hT : TrOK s.2.length u) (hu : ∀ l, l ∈ u.trail ↔ NDer (Cl t) (G.map (litV s)) l) {d : List Int} (hp : d.Perm (u.trail.map (toldP s))) (hs : d.Pairwise fun a b => a.natAbs ≤ b.natAbs) : d = trueP v := by
  obtain ⟨_, v1, v2, v3⟩ := hv
  refine abs_uniq ?_ (trueP_abs v2) fun x => ?_
  · have hnd : (d.map Int.natAbs).Nodup := by
      refine (hp.map Int.natAbs).nodup_iff.2 ?_
      rw [List.map_map, List.nodup_iff_pairwise_ne, List.pairwise_map]
      have hh := hT.nd
      rw [List.nodup_iff_pairwise_ne, List.pairwise_map] at hh
      refine hh.imp_of_mem ?_
      intro a b ha hb hab e
      have ea := (told_lit h (hT.lt a ha)).2.2
      have eb := (told_lit h (hT.lt b hb)).2.2
      have e' : (toldP s a).natAbs = (toldP s b).natAbs := e
      rw [ea, eb] at e'
      have la := hT.lt a ha
      have lb := hT.lt b hb
      have ga : a / 2 < s.2.length := by omega
      have gb : b / 2 < s.2.length := by omega
      rw [List.getD_eq_getElem?_getD, List.getD_eq_getElem?_getD, List.getElem?_eq_getElem ga, List.getElem?_eq_getElem gb] at e'
      have e2 : s.2[a / 2] = s.2[b / 2] := e'
      have t1 := (h.there (a / 2) _ (List.getElem?_eq_getElem ga)).1
      have t2 := (h.there (b / 2) _ (List.getElem?_eq_getElem gb)).1
      rw [e2, t2] at t1
      omega
    rw [List.nodup_iff_pairwise_ne, List.pairwise_map] at hnd
    exact (hs.and hnd).imp fun ⟨q1, q2⟩ => by omega
  · rw [trueP_mem v1 v2, hp.mem_iff, List.mem_map]
    constructor
    · rintro ⟨l, hl, rfl⟩
      obtain ⟨q1, q2, _⟩ := told_lit h (hT.lt l hl)
      refine ⟨q1.1.1, (v3 _ q1.1.1).2 ?_⟩
      rw [hc.follows h hB hG hn, q2]
      exact ⟨q1, (hu l).1 hl⟩
    · rintro ⟨h0, hx⟩
      have hd := (v3 x h0).1 hx
      rw [hc.follows h hB hG hn] at hd
      exact ⟨litV s x, (hu _).2 hd.2, (told_of h hd.1).1⟩
end

end Go.Proofs.YtbicefgjompnoaaDoor.Sx
/- What begin comes to, what is given being believed. -/
namespace Go.Proofs.YtbicefgjompnoaaDoor.Sx
open Go.RowKit Go.Sort

/-- what is given, one by one -/
def givP (s : St) : List Nat → St × Bool
  | [] => (s, true)
  | l :: ls => if s.truth.getD l 0 = 0 then givP (believeP s l (-1)) ls else if 0 < s.truth.getD l 0 then givP s ls else (s, false)
theorem givP_eq : ∀ (g : List Nat) (s : St), givP s g = givS s g
  | [], s => rfl
  | l :: g, s => by
    unfold givP givS
    rw [List.map_cons]
    unfold supP
    rw [opp_opp]
    split
    · exact givP_eq g _
    · split
      · exact givP_eq g _
      · rfl

/-- what begin says, and what is true then -/
def BgPost (w : World) (L : Ly) (n : Nat) (t0 : St) (gl : List Nat) (e : Ending) (w' : World) : Prop :=
  ∃ (b : Bool) (u : St) (L' : Ly), e = .returned (.bool b) ∧ SAt w' L' n u ∧ FrS L L' w w' ∧ (b = false → NCannot (Cl t0) gl) ∧ (b = true → ¬ NCannot (Cl t0) gl ∧ TrOK n u ∧ ∀ l, l ∈ u.trail ↔ NDer (Cl t0) gl l)
theorem begin_says {w : World} {L : Ly} {n k : Nat} {t0 t : St} {gl : List Nat} (hS : SO n k t0) (hk : k ≤ 900000000) (hn : ∀ r : Nat, t0.rows[r]? ≠ some none) (hg : ∀ l ∈ gl, l < 2 * n) (hR : givP t0 gl = (t, true)) (h : SAt w L n t) :
    Calls Tryd.prog 18 #[.pointer (some ⟨L.sb, 0, none⟩)] w (BgPost w L n t0 gl) := by
  rw [givP_eq] at hR
  have e1 : (givS t0 gl).1 = t := by rw [hR]
  have e2 : (givS t0 gl).2 = true := by rw [hR]
  obtain ⟨q1, q2, q3, _⟩ := giv_sem hS hg
  obtain ⟨f1, _⟩ := q3 e2
  rw [e1] at q1 q2 f1
  have hrl := hS.rl
  have hem := hS.em
  have hfw := hS.R.few
  refine (begin_any w L n t (LkI n) (lookOK n) h f1.I.tr (fun r hr => ?_) f1.I.cuts f1.dn (fun _ => ?_) (by rw [q1.empty]; omega) (by rw [q1.single]; omega)).mono ?_
  · rw [q1.single] at hr
    obtain ⟨l, hl⟩ := one_of hS.R hn r hr
    exact ⟨l, [], by rw [q2]; exact hl, hS.F.I.lit r [l] hl l (by simp)⟩
  · have := beg_I hS hn hg e2
    rw [e1] at this
    exact this
  · rintro e w' q
    rcases q with ⟨he, h1, L', h2, h3⟩ | ⟨he, hf, h1, L', h2, h3⟩ | ⟨he, ht, f, r, hr, hI, h1, L', h2, h3⟩
    · exact ⟨false, _, L', h1, h2, h3, fun _ => beg_one hS hg (by rw [e1]; exact he), fun q => by cases q⟩
    · exact ⟨false, _, L', h1, h2, h3, fun _ => beg_two hS hn hg e2 (by rw [e1]; exact hf), fun q => by cases q⟩
    · have := beg_three hS hn hg e2 (by rw [e1]; exact he) (by rw [e1]; exact ht) (f := f) (r := r) (by rw [e1]; exact hr)
      refine ⟨decide (r.2 = -1), _, L', h1, h2, h3, fun q => this.1 (of_decide_eq_false q), fun q => this.2 (of_decide_eq_true q)⟩

end Go.Proofs.YtbicefgjompnoaaDoor.Sx
/- The program: fault, with literals beside. -/
namespace Go.Proofs.YtbicefgjompnoaaDoor.Sx
open Go.RowKit Go.Sort

/-- .. and of literals beside them -/
def faultG (n : Int) (C : List (List Int)) (G : List Int) : Nat := if faultR n C ≠ 0 then faultR n C else if G.all (isLit n.toNat) then 0 else 5

set_option maxRecDepth 100000 in
set_option maxHeartbeats 1000000 in
theorem fault2_any (w : World) (n : Int) (lo : Nat) (v bv : Value) (C : List (List Int)) (G : List Int) (h : ClsAt w lo v C) (hG : IntsAt w lo bv G) : Calls Tryd.prog 13 #[.int .i64 n, v, bv] w fun e w' => e = .returned (errV (faultG n C G)) ∧ w' = w := by
  have mo := follows
  obtain ⟨a, cc, rfl, hrow⟩ := h.ex
  have hbig := h.big
  have HR : Hid (C = [] ∨ ∃ p : Addr, a = some p ∧ p.block < lo ∧ ∀ i c, C[i]? = some c → ∃ u, w.cell? (p.add i) = some u ∧ IntsAt w lo u c) := hrow
  obtain ⟨R, hR⟩ : ∃ R, faultG n C G = R := ⟨_, rfl⟩
  rw [hR]
  have HB : Hid (IntsAt w lo bv G) := hG
  clear h hrow hG
  unfold faultG at hR
  by_cases h1 : n < 0
  · rw [show faultR n C = 5 by unfold faultR; rw [if_pos (.inl h1)], if_pos (by decide)] at hR
    subst hR
    go_enter Tryd.func13, Tryd.ntmps13
    go_wp2_with fail
    go_ret
    exact ⟨rfl, rfl⟩
  by_cases h2 : 16777216 < n
  · rw [show faultR n C = 5 by unfold faultR; rw [if_pos (.inr h2)], if_pos (by decide)] at hR
    subst hR
    go_enter Tryd.func13, Tryd.ntmps13
    go_wp2_with fail
    go_ret
    exact ⟨rfl, rfl⟩
  have e0 : faultR n C = if 33554432 < C.length then 6 else if C.all (fun c => c.all (isLit n.toNat)) then 0 else 5 := by unfold faultR; rw [if_neg (by omega)]
  rw [e0] at hR
  clear e0
  obtain ⟨N, rfl⟩ : ∃ N : Nat, n = (N : Int) := ⟨n.toNat, by omega⟩
  have hN : N ≤ 16777216 := by omega
  by_cases h3 : 33554432 < C.length
  · rw [if_pos h3, if_pos (by decide)] at hR
    subst hR
    have h4 : (33554432 : Int) < (C.length : Int) := by omega
    go_enter Tryd.func13, Tryd.ntmps13
    go_wp2_with fail
    go_ret
    exact ⟨rfl, rfl⟩
  rw [if_neg h3, Int.toNat_natCast] at hR
  have h4 : ¬ (33554432 : Int) < (C.length : Int) := by omega
  have HR0 : Hid ((if C.all (fun c => c.all (isLit N)) then (if G.all (isLit N) then 0 else 5) else 5) = R) := by
    show _ = _
    rw [← hR]
    cases C.all (fun c => c.all (isLit N)) <;> simp
  clear hR
  go_enter Tryd.func13, Tryd.ntmps13
  go_wp2_with fail
  go_loopg [22] (C.length) (fun k s22 wr => ∃ j : Nat, s22 = .int .i64 (j : Int) ∧ j + k = C.length ∧ wr = w ∧ Hid ((if (C.drop j).all (fun c => c.all (isLit N)) then (if G.all (isLit N) then 0 else 5) else 5) = R))
  case atStart => exact ⟨0, rfl, by omega, rfl, HR0⟩
  case round =>
    clear HR0
    obtain ⟨j, rfl, hjk, rfl, HU⟩ := hrel
    by_cases hj : j < C.length
    · obtain ⟨k, rfl⟩ : ∃ k, gk = k + 1 := ⟨gk - 1, by omega⟩
      obtain ⟨x, hx⟩ : ∃ x, C[j] = x := ⟨_, rfl⟩
      obtain ⟨p, rfl, _, hp⟩ : ∃ p : Addr, a = some p ∧ p.block < lo ∧ ∀ i c, C[i]? = some c → ∃ u, wr.cell? (p.add i) = some u ∧ IntsAt wr lo u c := by
        rcases HR.out with q | q
        · rw [q] at hj; simp at hj
        · exact q
      obtain ⟨u, cj, hui⟩ := hp j x (by rw [List.getElem?_eq_getElem hj, hx])
      have hd : C.drop j = x :: C.drop (j + 1) := by rw [List.drop_eq_getElem_cons hj, hx]
      have j0 : (0 : Int) ≤ (j : Int) := by omega
      have j1 : (j : Int) < (C.length : Int) := by omega
      have HL : Hid (Calls _ _ _ _ _) := areLiterals_any wr N lo u x hN hui
      have hu := HU.out
      rw [hd, List.all_cons] at hu
      cases hb : x.all (isLit N) with
      | true =>
        rw [hb] at HL hu
        rw [Bool.true_and] at hu
        have HQ : Hid ((if (C.drop (j + 1)).all (fun c => c.all (isLit N)) then (if G.all (isLit N) then 0 else 5) else 5) = R) := hu
        clear hu HU hp hui
        go_wp2_with (go_at_call 28; refine HL.out.mono ?_; rintro e w' ⟨rfl, hw⟩; replace hw := hw.symm; subst hw)
        go_roundg k
        case measure => omega
        case rel => exact ⟨j + 1, by simp, by omega, rfl, HQ⟩
      | false =>
        rw [hb] at HL hu
        rw [Bool.false_and] at hu
        have HQ : Hid (5 = R) := hu
        clear hu HU hp hui
        go_wp2_with (go_at_call 28; refine HL.out.mono ?_; rintro e w' ⟨rfl, hw⟩; replace hw := hw.symm; subst hw)
        go_ret
        exact ⟨by rw [← HQ.out]; rfl, rfl⟩
    · have j1 : ¬ (j : Int) < (C.length : Int) := by omega
      obtain rfl : j = C.length := by omega
      have hu := HU.out
      rw [List.drop_length] at hu
      have HQ : Hid ((if G.all (isLit N) then 0 else 5) = R) := hu
      have HL : Hid (Calls _ _ _ _ _) := areLiterals_any wr N lo bv G hN HB.out
      clear hu HU
      cases hb : G.all (isLit N) with
      | true =>
        rw [hb] at HL HQ
        have HQ2 : Hid (0 = R) := HQ.out
        clear HQ
        go_wp2_with (go_at_call 28; refine HL.out.mono ?_; rintro e w' ⟨rfl, hw⟩; replace hw := hw.symm; subst hw)
        go_ret
        exact ⟨by rw [← HQ2.out]; rfl, rfl⟩
      | false =>
        rw [hb] at HL HQ
        have HQ2 : Hid (5 = R) := HQ.out
        clear HQ
        go_wp2_with (go_at_call 28; refine HL.out.mono ?_; rintro e w' ⟨rfl, hw⟩; replace hw := hw.symm; subst hw)
        go_ret
        exact ⟨by rw [← HQ2.out]; rfl, rfl⟩

end Go.Proofs.YtbicefgjompnoaaDoor.Sx
