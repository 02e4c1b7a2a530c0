/- The lines of a proof (plain): what is heard, what must be. -/
import Derived.Test.YtbicefgjompnoaaA42
namespace Go.Proofs.Ytbicefgjompnoaa.Sx
open Go.RowKit Go.Sort

theorem hearC_ok {n : Nat} : ∀ (C : List (List Int)) {s : List Nat × List Nat}, NmOK n s → (∀ c ∈ C, ∀ x ∈ c, LitN n x) → NmOK n (hearC s C) ∧ (∀ c ∈ C, ∀ x ∈ c, (hearC s C).1.getD x.natAbs 0 ≠ 0) ∧ ∀ u, s.1.getD u 0 ≠ 0 → (hearC s C).1.getD u 0 ≠ 0
  | [], s, h, _ => ⟨h, by simp, fun _ z => z⟩
  | c :: C, s, h, hC => by
    obtain ⟨q1, q2, q3⟩ := hear_ok c h (hC c (by simp))
    obtain ⟨p1, p2, p3⟩ := hearC_ok C q1 (fun c' hc' => hC c' (List.mem_cons_of_mem _ hc'))
    refine ⟨p1, fun c' hc' x hx => ?_, fun u hu => p3 u (by rw [q3 u hu]; exact hu)⟩
    rcases List.mem_cons.1 hc' with e | e
    · rw [e] at hx; exact p3 _ (q2 x hx)
    · exact p2 c' e x hx
/-- all that is spoken of is named -/
theorem named {n : Nat} {C O : List (List Int)} (hC : ∀ c ∈ C, ∀ x ∈ c, LitN n x) (hO : ∀ c ∈ O, ∀ x ∈ c, LitN n x) : NmOK n (hearC (hearC (List.replicate (n + 1) 0, []) C) O) ∧ (∀ c ∈ C, ∀ x ∈ c, Nm n (hearC (hearC (List.replicate (n + 1) 0, []) C) O) x) ∧ ∀ c ∈ O, ∀ x ∈ c, Nm n (hearC (hearC (List.replicate (n + 1) 0, []) C) O) x := by
  obtain ⟨q1, q2, _⟩ := hearC_ok C (NmOK.nil n) hC
  obtain ⟨p1, p2, p3⟩ := hearC_ok O q1 hO
  exact ⟨p1, fun c hc x hx => ⟨hC c hc x hx, p3 _ (q2 c hc x hx)⟩, fun c hc x hx => ⟨hO c hc x hx, p2 c hc x hx⟩⟩

section
variable {n n' : Nat} {s : List Nat × List Nat} {L : List (List Int)} {t : St}
theorem follow_cannot (hL : ∀ c ∈ L, ∀ x ∈ c, LitN n x) {G : List Int} (hG : ∀ x ∈ G, LitN n x) : followP n L G = some none ↔ Cannot L G := by
  obtain ⟨r, hr, he⟩ := follow_spec (n := n) (C := L) (G := G) hL hG
  rw [hr]
  cases r with
  | none => exact ⟨fun _ => he, fun _ => rfl⟩
  | some v => exact ⟨fun q => (by simp at q), fun q => absurd q he.1⟩
theorem neg_lits {c : List Int} (hc : ∀ x ∈ c, Nm n s x) : ∀ x ∈ c.map (- ·), Nm n s x := fun x hx => by
  obtain ⟨y, hy, rfl⟩ := List.mem_map.1 hx
  exact (hc y hy).neg
/-- a line comes in, by the program, just where it does by the reference -/
theorem comes_in (h : NmOK n s) (hc : Cor n s L t) (hB : BB n' t) {x : List Int} {c : List Nat} (hx : ∀ y ∈ x, Nm n s y) (hs : SetOf (x.map (litV s)) c) : NCannot (Cl t) (c.map opp) ↔ followP n L (x.map (- ·)) = some none := by
  rw [follow_cannot (fun c hc' y hy => (hc.nm c hc' y hy).1) (fun y hy => (neg_lits hx y hy).1), hc.cannot h hB (neg_lits hx)]
  have e : ∀ k, k ∈ (x.map (- ·)).map (litV s) ↔ k ∈ c.map opp := fun k => by
    constructor
    · intro hk
      obtain ⟨z, hz, rfl⟩ := List.mem_map.1 hk
      obtain ⟨y, hy, rfl⟩ := List.mem_map.1 hz
      rw [litV_neg (hx y hy)]
      exact List.mem_map.2 ⟨_, (hs.mem _).2 (List.mem_map.2 ⟨y, hy, rfl⟩), rfl⟩
    · intro hk
      obtain ⟨l, hl, rfl⟩ := List.mem_map.1 hk
      obtain ⟨y, hy, rfl⟩ := List.mem_map.1 ((hs.mem l).1 hl)
      exact List.mem_map.2 ⟨-y, List.mem_map.2 ⟨y, hy, rfl⟩, litV_neg (hx y hy)⟩
  exact ⟨fun q => q.mono (fun d hd => ⟨d, hd, fun _ => Iff.rfl⟩) fun k hk => (e k).2 hk, fun q => q.mono (fun d hd => ⟨d, hd, fun _ => Iff.rfl⟩) fun k hk => (e k).1 hk⟩
/-- what is always true comes in -/
theorem always_in (hL : ∀ c ∈ L, ∀ x ∈ c, Nm n s x) {x : List Int} (hx : ∀ y ∈ x, Nm n s y) (ha : alwaysI x = true) : followP n L (x.map (- ·)) = some none := by
  rw [follow_cannot (fun c hc' y hy => (hL c hc' y hy).1) (fun y hy => (neg_lits hx y hy).1)]
  obtain ⟨y, h1, h2⟩ := alwaysI_iff.1 ha
  exact .inl ⟨y, .given (List.mem_map.2 ⟨-y, h2, by simp⟩), .given (List.mem_map.2 ⟨y, h1, rfl⟩)⟩
/-- an empty line comes in only where it cannot be -/
theorem not_empty (h : BI n' t true false) : ¬ NCannot (Cl t) [] := by
  have hS := h.su rfl
  exact (closed_N hS.F hS.d (by simp) hS.e hS.o h.b.R.no0).2
theorem set_nil {x : List Int} {c : List Nat} (hs : SetOf (x.map (litV s)) c) : c.length = 0 ↔ x.length = 0 := by
  constructor
  · intro q
    cases x with
    | nil => rfl
    | cons a x =>
      have := (hs.mem (litV s a)).2 (by simp)
      rw [List.eq_nil_of_length_eq_zero q] at this
      simp at this
  · intro q
    rw [List.eq_nil_of_length_eq_zero q] at hs
    cases c with
    | nil => rfl
    | cons a c => have := (hs.mem a).1 (by simp); simp at this
end

/-- a store as it begins -/
theorem SO.bb {n k : Nat} {t : St} (h : SO n k t) : BB n t := ⟨h.F.I, h.F.W, h.F.tt, h.F.wy, h.R, h.cu, h.F.dn⟩
theorem addAll_some : ∀ (cs : List (List Nat)) (t : St), (∀ r : Nat, t.rows[r]? ≠ some none) → ∀ r : Nat, (addAll t cs).rows[r]? ≠ some none
  | [], t, h => h
  | c :: cs, t, h => by
    unfold addAll
    refine addAll_some cs _ ?_
    cases ha : alwaysP c with
    | true => rw [if_pos rfl]; exact h
    | false =>
      rw [if_neg (by simp)]
      intro r hr
      by_cases hne : c = []
      · subst hne; exact h r hr
      · rw [addP_rows t hne] at hr
        by_cases hl : r < t.rows.length
        · rw [List.getElem?_append_left hl] at hr; exact h r hr
        · have hb := (List.getElem?_eq_some_iff.1 hr).1
          simp at hb
          have e : r = t.rows.length := by omega
          subst e
          simp at hr
theorem newP_SO0 (n : Nat) {C : List (List Int)} {cs : List (List Nat)} {s : List Nat × List Nat} {N : Nat} (h : NmOK N s) (hn : n = s.2.length) (hC : ∀ c ∈ C, ∀ x ∈ c, Nm N s x) (hl : cs.length = C.length) (hb : C.length ≤ 900000000) (hs : ∀ (i : Nat) (x : List Int) (c : List Nat), C[i]? = some x → cs[i]? = some c → SetOf (x.map (litV s)) c) : SO n C.length (addAll (newP n) cs) := by
  have := addAll_SO cs 0 (newP n) (newP_SO n) (fun c hc => by
    obtain ⟨i, hi⟩ := List.getElem?_of_mem hc
    have hil : i < C.length := by have := (List.getElem?_eq_some_iff.1 hi).1; omega
    have hq := hs i C[i] c (List.getElem?_eq_getElem hil) hi
    refine ⟨hq.nodup, fun l hl' => ?_⟩
    obtain ⟨x, hx, rfl⟩ := List.mem_map.1 ((hq.mem l).1 hl')
    rw [hn]
    exact litV_lt h (hC _ (List.getElem_mem hil) x hx).2) (by omega)
  rw [Nat.zero_add, hl] at this
  exact this
theorem IntsAt.up {w : World} {lo lo' : Nat} {v : Value} {l : List Int} (h : IntsAt w lo v l) (hl : lo ≤ lo') : IntsAt w lo' v l := by
  obtain ⟨a, cap, e, q⟩ := h.ex
  refine ⟨⟨a, cap, e, ?_⟩, h.big⟩
  rcases q with q | ⟨p, e1, e2, e3⟩
  · exact .inl q
  · exact .inr ⟨p, e1, Nat.lt_of_lt_of_le e2 hl, e3⟩
theorem ClsAt.up {w : World} {lo lo' : Nat} {v : Value} {C : List (List Int)} (h : ClsAt w lo v C) (hl : lo ≤ lo') : ClsAt w lo' v C := by
  obtain ⟨a, cap, e, q⟩ := h.ex
  refine ⟨⟨a, cap, e, ?_⟩, h.big⟩
  rcases q with q | ⟨p, e1, e2, e3⟩
  · exact .inl q
  · refine .inr ⟨p, e1, Nat.lt_of_lt_of_le e2 hl, fun i c hc => ?_⟩
    obtain ⟨u, u1, u2⟩ := e3 i c hc
    exact ⟨u, u1, u2.up hl⟩

end Go.Proofs.Ytbicefgjompnoaa.Sx
/- The program: a line of a proof. -/
namespace Go.Proofs.Ytbicefgjompnoaa.Sx
open Go.RowKit Go.Sort Go.Maps Go.Lib

/-- the book, while lines are gone through -/
structure PrIs (w1 : World) (N : Nat) (s : List Nat × List Nat) (bb k0 : Nat) (Lc : List (List Int)) (wr : World) (L : Ly) (t : St) (sure never : Bool) (mv : Value) : Prop where
  bk : BkAt wr L s.2.length t bb sure never mv
  bi : BI s.2.length t sure never
  sn : (sure && never) = false
  mv : MvAt wr (fun k => L.own k = (0, 0) ∧ k ≠ bb ∧ w1.heap.size ≤ k) t.rows mv
  cor : Cor N s Lc t
  len : t.rows.length ≤ k0
  em : t.empty ≤ k0
  own : ∀ k, k < w1.heap.size → L.own k = (0, 0)
  fr : Fr (fun _ => True) w1 wr
/-- .. while something else is laid -/
theorem PrIs.grow {w1 : World} {N : Nat} {s : List Nat × List Nat} {bb k0 : Nat} {Lc : List (List Int)} {wr w' : World} {L : Ly} {t : St} {sure never : Bool} {mv : Value} (h : PrIs w1 N s bb k0 Lc wr L t sure never mv) (f : Fr (fun _ => True) wr w') : PrIs w1 N s bb k0 Lc w' (nrm L wr.heap.size) t sure never mv ∧ MvAt w' (fun k => (nrm L wr.heap.size).own k = (0, 0) ∧ k ≠ bb ∧ w1.heap.size ≤ k ∧ k < wr.heap.size) t.rows mv := by
  have hm := h.mv.fr (P' := fun k => (nrm L wr.heap.size).own k = (0, 0) ∧ k ≠ bb ∧ w1.heap.size ≤ k ∧ k < wr.heap.size) (fun k hk _ => f.block k hk trivial) (fun k hk q => ⟨(nrm_old hk).trans q.1, q.2.1, q.2.2, hk⟩) (RP.refl _)
  refine ⟨⟨⟨h.bk.at_.frl f (fun b q => absurd trivial q), (f.block bb (block_lt h.bk.bk) trivial).trans h.bk.bk, nrm_zero fun _ => h.bk.ow⟩, h.bi, h.sn, ?_, h.cor, h.len, h.em, fun k hk => nrm_zero fun _ => h.own k hk, h.fr.trans f⟩, hm⟩
  exact hm.fr (fun _ _ _ => rfl) (fun k _ q => ⟨q.1, q.2.1, q.2.2.1⟩) (RP.refl _)

section
variable {w1 w4 : World} {N bb cb k0 : Nat} {s : List Nat × List Nat} {Lc : List (List Int)} {L4 : Ly} {t : St} {sure never : Bool} {mv : Value} {c : List Int} {cc : List Nat} {d : Array Nat}

theorem lits_lt (hNm : NmOK N s) (hcN : ∀ y ∈ c, Nm N s y) (hset : SetOf (c.map (litV s)) cc) : ∀ x ∈ cc, x < 2 * s.2.length := fun x hx => by
  obtain ⟨y, hy, rfl⟩ := List.mem_map.1 ((hset.mem x).1 hx)
  exact litV_lt hNm (hcN y hy).2

/-- a clause goes -/
theorem drop_line (h : PrIs w1 N s bb k0 Lc w4 L4 t sure never mv) (hm : MvAt w4 (fun k => L4.own k = (0, 0) ∧ k ≠ bb ∧ w1.heap.size ≤ k ∧ k ≠ cb) t.rows mv) (hbw : w1.heap.size ≤ bb) (hNm : NmOK N s) (hcN : ∀ y ∈ c, Nm N s y) (hset : SetOf (c.map (litV s)) cc) (hrow : LRow w4 cb d) (hdt : d.toList.take cc.length = cc) (hdz : d.size ≤ 4294967296) (hcb : cb ≠ bb) (hk0 : k0 ≤ 900000000) (cap : Nat) :
    Calls Try.prog 17 #[.pointer (some ⟨bb, 0, none⟩), .slice (some ⟨cb, 0, none⟩) cc.length cap] w4 fun e w5 => e = .returned (.tuple #[]) ∧ ∃ L' t' sure' never' mv', PrIs w1 N s bb (k0 + 1) (goneP c Lc) w5 L' t' sure' never' mv' := by
  have key : Calls Try.prog 17 #[.pointer (some ⟨bb, 0, none⟩), .slice (some ⟨cb, 0, none⟩) cc.length cap] w4 (DropPost w4 L4 s.2.length t bb (fun k => L4.own k = (0, 0) ∧ k ≠ bb ∧ w1.heap.size ≤ k ∧ k ≠ cb) cc) := by
    by_cases hne : cc = []
    · subst hne
      exact drop_none w4 L4 s.2.length t bb cap (some ⟨cb, 0, none⟩) sure never mv _ h.bk h.bi h.sn (by have := h.em; omega) hm (fun k q => q.2.1) (fun k q => q.1)
    · exact drop_some w4 L4 s.2.length t bb cb sure never mv _ cc d h.bk h.bi h.sn hm (fun k q => q.2.1) (fun k q => q.1) hrow hdt hdz hcb (fun q => q.2.2.2 rfl) hset.asc (List.length_pos_iff.2 hne) (lits_lt hNm hcN hset) cap
  refine key.mono ?_
  rintro e w5 ⟨rfl, L', t', sure', never', mv', q⟩
  have hbl := block_lt h.bk.bk
  refine ⟨rfl, L', t', sure', never', mv', q.bk, q.bi, q.sn, ?_, h.cor.gone hNm hcN hset q.rel q.rw_, by have := q.len; have := h.len; omega, by have := q.em; have := h.em; omega, fun k hk => ?_, ?_⟩
  · refine q.mv.fr (fun _ _ _ => rfl) (fun k _ z => ?_) (RP.refl _)
    rw [q.own]
    rcases z with z | z
    · exact ⟨nrm_zero fun _ => z.1, z.2.1, z.2.2.1⟩
    · exact ⟨nrm_new z, by omega, by have := h.fr.size; omega⟩
  · rw [q.own]; exact nrm_zero fun _ => h.own k hk
  · exact h.fr.trans2 q.fr fun k hk _ => ⟨h.own k hk, fun z => by omega, by omega⟩

/-- must a clause be? .. it comes in -/
theorem must_line (h : PrIs w1 N s bb k0 Lc w4 L4 t sure never mv) (hm : MvAt w4 (fun k => L4.own k = (0, 0) ∧ k ≠ bb ∧ w1.heap.size ≤ k ∧ k ≠ cb) t.rows mv) (hbw : w1.heap.size ≤ bb) (hcw : w1.heap.size ≤ cb) (hNm : NmOK N s) (hcN : ∀ y ∈ c, Nm N s y) (hset : SetOf (c.map (litV s)) cc) (hal : alwaysP cc = false) (hrow : LRow w4 cb d) (hdt : d.toList.take cc.length = cc) (hdz : d.size ≤ 4294967296) (hcb : cb ≠ bb) (hco : L4.own cb = (0, 0)) (hk0 : k0 ≤ 900000000) :
    Calls Try.prog 18 #[.pointer (some ⟨bb, 0, none⟩), .slice (some ⟨cb, 0, none⟩) cc.length d.size] w4 fun e w5 => ∃ m : Bool, e = .returned (.bool m) ∧ (m = true ↔ followP N Lc (c.map (- ·)) = some none) ∧ Fr (fun _ => True) w1 w5 ∧ (m = true → Calls Try.prog 19 #[.pointer (some ⟨bb, 0, none⟩), .slice (some ⟨cb, 0, none⟩) cc.length d.size] w5 fun e w6 => e = .returned (.tuple #[]) ∧ ∃ L' t' sure' never' mv', PrIs w1 N s bb (k0 + 1) (Lc ++ [c]) w6 L' t' sure' never' mv') := by
  have hlt := lits_lt hNm hcN hset
  refine (mustBe_any w4 L4 s.2.length t bb cb sure never mv cc d h.bk h.bi h.sn (by have := h.em; omega) hrow hdt hdz hco hcb hlt).mono ?_
  rintro e w5 ⟨m, rfl, hmi, L5, t5, b, hK5, hI5, hS5, hX5⟩
  have hbl := block_lt h.bk.bk
  have hF5 : Fr (fun _ => True) w1 w5 := h.fr.trans2 (Q := fun k => k ≠ bb ∧ L4.own k = (0, 0)) ⟨hX5.os, hX5.tape, hX5.output, hX5.size, fun k hk q => hX5.block k hk q.1 q.2⟩ fun k hk _ => ⟨by omega, h.own k hk⟩
  refine ⟨m, rfl, hmi.trans (comes_in hNm h.cor h.bi.b hcN hset), hF5, fun hmt => ?_⟩
  have hm5 : MvAt w5 (fun k => L5.own k = (0, 0) ∧ k ≠ bb ∧ w1.heap.size ≤ k ∧ k ≠ cb) t5.rows mv := hm.fr (fun k hk q => hX5.block k hk q.2.1 q.1) (fun k hk q => ⟨(hX5.own k hk q.2.1).trans q.1, q.2⟩) hS5.rp
  have hrow5 : LRow w5 cb d := (hX5.block cb (block_lt hrow) hcb hco).trans hrow
  have hco5 : L5.own cb = (0, 0) := (hX5.own cb (block_lt hrow) hcb).trans hco
  have hlen := hS5.rp.len
  have hem := hS5.em
  refine (book_add w5 L5 s.2.length t5 bb cb b mv (fun k => L5.own k = (0, 0) ∧ k ≠ bb ∧ w1.heap.size ≤ k ∧ k ≠ cb) cc d hK5 hI5 hm5 (fun k q => q.2.1) (fun k q => q.1) hrow5 hdt hdz hcb (fun q => q.2.2.2 rfl) hco5 hset.asc hlt (by have := h.len; omega) (by have := h.em; omega) (fun hbt e => ?_)).mono ?_
  · subst hbt; subst e
    exact not_empty hI5 ((hS5.cannot _).1 (hmi.1 hmt))
  · rintro e w6 ⟨rfl, L', t', b', mv', q⟩
    have hbl5 := block_lt hK5.bk
    refine ⟨rfl, L', t', b', !b', mv', q.bk, q.bi, by cases b' <;> rfl, ?_, (hS5.cor h.cor).add hcN hset q.rel (q.na (hS5.cor h.cor).na hal), by have := q.len; have := h.len; omega, by have := q.em; have := h.em; omega, fun k hk => ?_, ?_⟩
    · refine q.mv.fr (fun _ _ _ => rfl) (fun k _ z => ⟨z.1, z.2.1, ?_⟩) (RP.refl _)
      rcases z.2.2 with y | y
      · exact y.2.2.1
      · have := hF5.size; omega
    · have hk5 : k < w5.heap.size := Nat.lt_of_lt_of_le hk hF5.size
      rw [q.own k hk5 (by omega)]
      exact (hX5.own k (Nat.lt_of_lt_of_le hk h.fr.size) (by omega)).trans (h.own k hk)
    · refine hF5.trans2 q.fr fun k hk _ => ⟨?_, fun z => by omega, by omega, by omega⟩
      exact (hX5.own k (Nat.lt_of_lt_of_le hk h.fr.size) (by omega)).trans (h.own k hk)
end

end Go.Proofs.Ytbicefgjompnoaa.Sx
