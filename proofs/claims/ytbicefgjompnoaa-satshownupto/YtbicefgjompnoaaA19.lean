/- The store: which rows something is true by; a book. -/
import Derived.Test.YtbicefgjompnoaaA18
namespace Go.Proofs.Ytbicefgjompnoaa.Sx
open Go.RowKit Go.Sort Go.Lib

/-- something is true because of a row: of one of its literals -/
def bearsL (s : St) (r : Nat) (l : Nat) : Bool := decide (0 < s.truth.getD l 0) && decide (s.why.getD (l / 2) 0 = (r : Int))

set_option maxRecDepth 100000 in
set_option maxHeartbeats 2000000 in
theorem bears1_any (w : World) (L : Ly) (n : Nat) (s : St) (r pb qb l : Nat) (h : SAt w L n s) (hl : l < 2 * n) (hp : w.cell? ⟨pb, 0, none⟩ = some (.pointer (some ⟨L.sb, 0, none⟩))) (hq : w.cell? ⟨qb, 0, none⟩ = some (.int .i32 (r : Int))) :
    Calls Try.prog 54 #[.int .i32 (l : Int), .pointer (some ⟨pb, 0, none⟩), .pointer (some ⟨qb, 0, none⟩)] w fun e w' => e = .returned (.bool (bearsL s r l)) ∧ ∃ q, w' = w.drewN q := by
  have mo := follows
  have hn := h.2.n_
  have c4 := h.c4
  have c5 := h.c5
  have ct := h.truth hl
  have hp2 : l / 2 < n := by omega
  have cy := h.why_ hp2
  have l1 : (l : Int) < 2 * (n : Int) := by omega
  have l2 : (l : Int) < ((2 * n : Nat) : Int) := by omega
  have l3 : ((l / 2 : Nat) : Int) < (n : Int) := by omega
  have HPL : Hid (∀ W, Calls Try.prog 55 #[.int .i32 (l : Int)] W fun e w' => e = .returned (.int .i32 ((l / 2 : Nat) : Int)) ∧ w' = W) := fun W => place_any W l
  unfold bearsL
  generalize s.truth.getD l 0 = t at ct ⊢
  generalize s.why.getD (l / 2) 0 = y at cy ⊢
  generalize l / 2 = P at cy l3 HPL hp2
  by_cases ht : 0 < t
  · have hd : decide (0 < t) = true := decide_eq_true ht
    rw [hd, Bool.true_and]
    by_cases hy : y = (r : Int)
    · have e1 : (y == (r : Int)) = true := by rw [beq_iff_eq]; exact hy
      rw [decide_eq_true hy]
      clear h hy hd
      go_enter Try.func54, Try.ntmps54
      go_wp2_with fail
      go_quiet ((go_at_call 55; exact Calls.quiet_of_same (HPL.out _)))
      go_wp2_with fail
      go_ret
      exact ⟨rfl, _, rfl⟩
    · have e1 : (y == (r : Int)) = false := by rw [beq_eq_false_iff_ne]; exact hy
      rw [decide_eq_false hy]
      clear h hy hd
      go_enter Try.func54, Try.ntmps54
      go_wp2_with fail
      go_quiet ((go_at_call 55; exact Calls.quiet_of_same (HPL.out _)))
      go_wp2_with fail
      go_ret
      exact ⟨rfl, _, rfl⟩
  · have hd : decide (0 < t) = false := decide_eq_false ht
    rw [hd, Bool.false_and]
    clear h
    go_enter Try.func54, Try.ntmps54
    go_wp2_with fail
    go_quiet (fail)
    go_wp2_with fail
    go_ret
    exact ⟨rfl, _, rfl⟩

end Go.Proofs.Ytbicefgjompnoaa.Sx
/- The store: bears, in memory. -/
namespace Go.Proofs.Ytbicefgjompnoaa.Sx
open Go.RowKit Go.Sort Go.Lib

theorem SAt.below {w W : World} {L : Ly} {n : Nat} {s : St} (h : SAt w L n s) (hb : Below w.heap.size w W) : SAt W L n s := ⟨h.1.fr fun b hb' _ => hb.block b hb', h.2⟩

set_option maxRecDepth 100000 in
set_option maxHeartbeats 2000000 in
theorem bears_any (w : World) (L : Ly) (n : Nat) (s : St) (r : Nat) (c : List Nat) (h : SAt w L n s) (hr : s.rows[r]? = some (some c)) (hc : ∀ l ∈ c, l < 2 * n) (hne : c ≠ []) :
    Calls Try.prog 36 #[.pointer (some ⟨L.sb, 0, none⟩), .int .i32 (r : Int)] w fun e w' => e = .returned (.bool (c.any (bearsL s r))) ∧ Below w.heap.size w w' := by
  have mo := follows
  obtain ⟨v, hv, cb, d, rfl, hcb, hrow, htk, hds⟩ := h.1.rl r trivial _ hr
  obtain ⟨ra, rc, hrv⟩ := (h.1.ro trivial).form
  have hro := h.1.ro trivial
  rw [hrv] at hro
  obtain ⟨rg, rfl, _, crg, hrc⟩ := hro.cell1 hv
  have hrl : r < s.rows.length := (List.getElem?_eq_some_iff.1 hr).1
  have hrows := h.2.rows
  have hcd : c.length ≤ d.size := by
    have := congrArg List.length htk
    rw [List.length_take] at this
    have e2 : d.toList.length = d.size := by simp
    omega
  obtain ⟨x0, hx0⟩ : ∃ x0, x0 ∈ c := by
    cases c with
    | nil => exact absurd rfl hne
    | cons x c => exact ⟨x, List.mem_cons_self⟩
  have inst : Inhabited { x : Nat // x < 2 * n } := ⟨⟨x0, hc x0 hx0⟩⟩
  obtain ⟨W2, hW2⟩ : ∃ W2, (w.alloc (.cells #[.pointer (some ⟨L.sb, 0, none⟩)] 42)).alloc (.cells #[.int .i32 (r : Int)] 21) = W2 := ⟨_, rfl⟩
  have hB : Below w.heap.size w W2 := by rw [← hW2]; exact ((Below.refl _ _).alloc (Nat.le_refl _) _).alloc (by simp) _
  have hS2 : SAt W2 L n s := h.below hB
  have p1 : W2.cell? ⟨w.heap.size, 0, none⟩ = some (.pointer (some ⟨L.sb, 0, none⟩)) := by
    rw [← hW2, block_cell (vs := #[.pointer (some ⟨L.sb, 0, none⟩)]) (t := 42) (f := (0, 0)) (by rw [heap_alloc_old _ _ (by simp)]; exact heap_new rfl)]; rfl
  have p2 : W2.cell? ⟨w.heap.size + 1, 0, none⟩ = some (.int .i32 (r : Int)) := by
    rw [← hW2, block_cell (vs := #[.int .i32 (r : Int)]) (t := 21) (f := (0, 0)) (heap_new (by simp))]; rfl
  have hz2 : W2.heap.size = w.heap.size + 2 := by rw [← hW2]; simp
  have eg : ∀ args w, (callFunc 54 args).run Try.prog w = .ok (.enter 54 args) w := enters_of Try.func54 (by kernel_rfl) rfl
  have hpred : ∀ k, PredAt Try.prog 54 #[.pointer (some ⟨w.heap.size, 0, none⟩), .pointer (some ⟨w.heap.size + 1, 0, none⟩)] (fun x : { x : Nat // x < 2 * n } => Value.int .i32 (x.1 : Int)) (fun x => bearsL s r x.1) (W2.drewN k) := fun k W x hb => by
    have hS := (hS2.drewN k).below hb
    have q1 : W.cell? ⟨w.heap.size, 0, none⟩ = some (.pointer (some ⟨L.sb, 0, none⟩)) := (hb.cell (p := ⟨w.heap.size, 0, none⟩) (by show w.heap.size < W2.heap.size; omega)).trans p1
    have q2 : W.cell? ⟨w.heap.size + 1, 0, none⟩ = some (.int .i32 (r : Int)) := (hb.cell (p := ⟨w.heap.size + 1, 0, none⟩) (by show w.heap.size + 1 < W2.heap.size; omega)).trans p2
    exact bears1_any W L n s r _ _ x.1 hS x.2 q1 q2
  have hlen : (c.pmap (fun x hx => (⟨x, hx⟩ : { x : Nat // x < 2 * n })) hc).length = c.length := by simp
  have hcon : ∀ k, Calls Try.prog 53 #[.slice (some ⟨cb, 0, none⟩) c.length d.size, .func (.func 54) #[] #[.pointer (some ⟨w.heap.size, 0, none⟩), .pointer (some ⟨w.heap.size + 1, 0, none⟩)]] (W2.drewN k) fun e w' => e = .returned (.bool (c.any (bearsL s r))) ∧ ∃ q, w' = (W2.drewN k).drewN q := fun k => by
    have H := AnyE.slices_ContainsFunc Try.laysContains (fun x : { x : Nat // x < 2 * n } => Value.int .i32 (x.1 : Int)) (fun x => bearsL s r x.1) 54 #[.pointer (some ⟨w.heap.size, 0, none⟩), .pointer (some ⟨w.heap.size + 1, 0, none⟩)] eg cb 0 c.length d.size (c.pmap (fun x hx => ⟨x, hx⟩) hc) (W2.drewN k) (hpred k) (by rw [hlen]; exact Nat.le_refl _) (by omega) (fun j hj => by
      rw [hlen] at hj
      have := ((hS2.drewN k).rowcell hr hv (i := j) (x := c[j]) (List.getElem?_eq_getElem hj)).1
      rw [Nat.zero_add, this]
      simp [hj])
    have e : ((c.pmap (fun x hx => (⟨x, hx⟩ : { x : Nat // x < 2 * n })) hc).take c.length).any (fun x => bearsL s r x.1) = c.any (bearsL s r) := by
      rw [List.take_of_length_le (by rw [hlen]; exact Nat.le_refl _)]
      rw [Bool.eq_iff_iff]
      simp only [List.any_eq_true, List.mem_pmap]
      constructor
      · rintro ⟨x, ⟨y, hy, rfl⟩, hx⟩; exact ⟨y, hy, hx⟩
      · rintro ⟨y, hy, hx⟩; exact ⟨_, ⟨y, hy, rfl⟩, hx⟩
    rw [e] at H
    exact H
  have HCON : Hid (∀ k, Calls Try.prog 53 #[.slice (some ⟨cb, 0, none⟩) c.length d.size, .func (.func 54) #[] #[.pointer (some ⟨w.heap.size, 0, none⟩), .pointer (some ⟨w.heap.size + 1, 0, none⟩)]] (W2.drewN k) fun e w' => e = .returned (.bool (c.any (bearsL s r))) ∧ ∃ q, w' = (W2.drewN k).drewN q) := hcon
  have c0 : W2.cell? ⟨L.sb, 0, none⟩ = some (.slice (some ⟨rg, 0, none⟩) s.rows.length rc) := by have := hS2.cell 0; simp only [stC, hrv] at this; exact this
  have cr : W2.cell? ⟨rg, r, none⟩ = some (.slice (some ⟨cb, 0, none⟩) c.length d.size) := (hB.cell (p := ⟨rg, r, none⟩) (World.block_lt_of_cell? _ _ crg)).trans crg
  have HB : Hid (Below w.heap.size w W2) := hB
  have r1 : (r : Int) < (s.rows.length : Int) := by omega
  generalize c.any (bearsL s r) = B at HCON ⊢
  generalize s.rows.length = R at c0 r1 hrl hrows hrc
  clear hcon hpred hS2 hB h hro hrv crg hv hrow htk hr hlen inst hne hx0 hc
  go_enter Try.func36, Try.ntmps36
  go_upto_region 1 with fail
  try rw [hW2]
  clear hW2
  go_quiet ((go_at_call 53; exact Calls.quiet_of (HCON.out _)))
  go_wp2_with fail
  go_ret
  exact ⟨rfl, below_drewN' HB.out _⟩

end Go.Proofs.Ytbicefgjompnoaa.Sx
/- What look, follow and begin do (plain; not shown of the program yet). -/
namespace Go.Proofs.Ytbicefgjompnoaa.Sx

/-- the literal that is false now comes second -/
def swap0 (c : List Nat) (no : Nat) : List Nat := if c.getD 0 0 = no then (c.set 0 (c.getD 1 0)).set 1 no else c
/-- the first literal behind the first two that is not false -/
def freeAt (t : List Int) (c : List Nat) : Option Nat := (List.range (c.length - 2)).find? fun k => decide (0 ≤ t.getD (c.getD (k + 2) 0) 0)
/-- the watches of a literal, one by one: what is left of them, and a row that has only false literals, or -1 -/
def lookG (no : Nat) : List (Nat × Nat) → List (Nat × Nat) → St → St × List (Nat × Nat) × Int
  | [], kept, s => (s, kept, -1)
  | (r, o) :: rest, kept, s =>
    if 0 < s.truth.getD o 0 then lookG no rest (kept ++ [(r, o)]) s else
    match s.rows.getD r none with
    | none => lookG no rest kept s
    | some c =>
      if 0 < s.truth.getD ((swap0 c no).getD 0 0) 0 then lookG no rest (kept ++ [(r, (swap0 c no).getD 0 0)]) { s with rows := s.rows.set r (some (swap0 c no)) } else
      match freeAt s.truth (swap0 c no) with
      | some k => lookG no rest kept (pushW { s with rows := s.rows.set r (some (((swap0 c no).set 1 ((swap0 c no).getD (k + 2) 0)).set (k + 2) no)) } ((swap0 c no).getD (k + 2) 0) r ((swap0 c no).getD 0 0))
      | none =>
        if s.truth.getD ((swap0 c no).getD 0 0) 0 < 0 then ({ s with rows := s.rows.set r (some (swap0 c no)) }, kept ++ (r, (swap0 c no).getD 0 0) :: rest, (r : Int))
        else lookG no rest (kept ++ [(r, (swap0 c no).getD 0 0)]) (believeP { s with rows := s.rows.set r (some (swap0 c no)) } ((swap0 c no).getD 0 0) (r : Int))
def lookP (s : St) (no : Nat) : St × Int :=
  match lookG no (s.watches.getD no []) [] s with
  | (s', kept, bad) => ({ s' with watches := s'.watches.set no kept }, bad)
/-- all that follows -/
def followS : Nat → St → Option (St × Int)
  | 0, _ => none
  | f + 1, s =>
    if s.done < s.trail.length then
      (if (lookP { s with done := s.done + 1 } (opp (s.trail.getD s.done 0))).2 ≠ -1 then some (lookP { s with done := s.done + 1 } (opp (s.trail.getD s.done 0)))
       else followS f (lookP { s with done := s.done + 1 } (opp (s.trail.getD s.done 0))).1)
    else some (s, -1)

end Go.Proofs.Ytbicefgjompnoaa.Sx
/- The store: follow, if look does what it should. -/
namespace Go.Proofs.Ytbicefgjompnoaa.Sx
open Go.RowKit Go.Sort

/-- what is looked at next -/
def nextS (s : St) : St × Int := lookP { s with done := s.done + 1 } (opp (s.trail.getD s.done 0))
/-- look does as lookP says, wherever something is so of the store, and leaves that so -/
structure LookOK (n : Nat) (I : St → Prop) : Prop where
  call : ∀ (w : World) (L : Ly) (s : St), I s → s.done < s.trail.length → SAt w L n { s with done := s.done + 1 } → Calls Try.prog 61 #[.pointer (some ⟨L.sb, 0, none⟩), .int .i32 (opp (s.trail.getD s.done 0) : Int)] w (StPost w L n (nextS s).1 (.int .i32 (nextS s).2))
  keep : ∀ s, I s → s.done < s.trail.length → I (nextS s).1
  done : ∀ s, I s → s.done < s.trail.length → (nextS s).1.done = s.done + 1
  row : ∀ s, I s → s.done < s.trail.length → -1 ≤ (nextS s).2 ∧ (nextS s).2 ≤ 2147483647

/-- what follow comes to: so many rounds are enough -/
def FolS (w : World) (L : Ly) (n : Nat) (I : St → Prop) (s : St) (e : Ending) (w' : World) : Prop := ∃ k r, followS k s = some r ∧ (r.2 = -1 → I r.1) ∧ StPost w L n r.1 (.int .i32 r.2) e w'

set_option maxRecDepth 100000 in
set_option maxHeartbeats 4000000 in
theorem follow2_any (w : World) (L : Ly) (n : Nat) (s : St) (I : St → Prop) (HL : LookOK n I) (h : SAt w L n s) (hI : I s) (hd : s.done ≤ s.trail.length) :
    Calls Try.prog 41 #[.pointer (some ⟨L.sb, 0, none⟩)] w (FolS w L n I s) := by
  have mo := follows
  have hn := h.2.n_
  have HS : Hid (SAt w L n s) := h
  have hfew := h.2.few
  go_enter Try.func41, Try.ntmps41
  go_wp2_with fail
  go_loopg [] (n + 1 - s.done) (fun k wr => ∃ (t : St) (L1 : Ly), n + 1 ≤ t.done + k ∧ Hid (SAt wr L1 n t) ∧ Hid (FrS L L1 w wr) ∧ Hid (I t) ∧ Hid (∀ m r, followS m t = some r → ∃ m', followS m' s = some r))
  case atStart => exact ⟨s, L, by omega, HS, FrS.refl _ _, hI, fun m r hm => ⟨m, hm⟩⟩
  case round =>
    clear HS
    obtain ⟨t, L1, hk, HS, HF, HI, HT⟩ := hrel
    have hfw := HS.out.2.few
    have hsb : L1.sb = L.sb := HF.out.sb
    obtain ⟨ta, tc, htv⟩ := (HS.out.1.ta trivial).form
    have c7 : wr.cell? ⟨L.sb, 7, none⟩ = some (.slice ta t.trail.length tc) := by have := HS.out.cell 7; simp only [stC, htv] at this; rw [← hsb]; exact this
    have c8 : wr.cell? ⟨L.sb, 8, none⟩ = some (.int .i64 (t.done : Int)) := by have := HS.out.cell 8; rw [← hsb]; exact this
    by_cases hlt : t.done < t.trail.length
    · obtain ⟨k, rfl⟩ : ∃ k, gk = k + 1 := ⟨gk - 1, by omega⟩
      obtain ⟨l, hl⟩ : ∃ l, t.trail[t.done] = l := ⟨_, rfl⟩
      have hlj : t.trail[t.done]? = some l := by rw [List.getElem?_eq_getElem hlt, hl]
      have hgd : t.trail.getD t.done 0 = l := by rw [List.getD_eq_getElem?_getD, hlj]; rfl
      obtain ⟨g, hga, _, cj, _⟩ := (show OwnR wr L1.own (8, 0) 70 1 (.slice ta t.trail.length tc) t.trail.length (v32 t.trail) from by rw [← htv]; exact HS.out.1.ta trivial).cell1 (v32_get hlj)
      subst hga
      have hl2 : l < 2 * n := HS.out.2.lit l (hl ▸ List.getElem_mem hlt)
      have i1 : (t.done : Int) < (t.trail.length : Int) := by omega
      have HO : Hid (∀ w, Calls Try.prog 33 #[.int .i32 (l : Int)] w fun e w' => e = .returned (.int .i32 (opp l : Int)) ∧ w' = w) := fun w => opposite_any w l (by omega)
      have hnx := HL.call
      obtain ⟨N1, hN1⟩ : ∃ N1, (nextS t).1 = N1 := ⟨_, rfl⟩
      obtain ⟨b, hb⟩ : ∃ b, (nextS t).2 = b := ⟨_, rfl⟩
      have HN : Hid ((nextS t).1 = N1 ∧ (nextS t).2 = b) := ⟨hN1, hb⟩
      have hbr := HL.row t HI.out hlt
      rw [hb] at hbr
      have HCL : Hid (∀ (W : World), SAt W L1 n { t with done := t.done + 1 } → Calls Try.prog 61 #[.pointer (some ⟨L.sb, 0, none⟩), .int .i32 (opp l : Int)] W (StPost W L1 n N1 (.int .i32 b))) := fun W hW => by
        have := HL.call W L1 t HI.out hlt hW
        rw [hgd, hN1, hb, hsb] at this
        exact this
      have HK : Hid (I N1 ∧ N1.done = t.done + 1) := by rw [← hN1]; exact ⟨HL.keep t HI.out hlt, HL.done t HI.out hlt⟩
      generalize t.trail.length = T at c7 i1 hfw
      clear hnx hN1 hb hgd hlj hl htv
      go_wp2_with fail
      go_quiet (fail)
      have S1 : SAt (wr.drewN nq) L1 n t := HS.out.drewN _
      have F1 : FrS L L1 w (wr.drewN nq) := HF.out.drewN _
      have c7' : (wr.drewN nq).cell? ⟨L.sb, 7, none⟩ = some (.slice (some ⟨g, 0, none⟩) T tc) := c7
      have c8' : (wr.drewN nq).cell? ⟨L.sb, 8, none⟩ = some (.int .i64 (t.done : Int)) := c8
      have cj' : (wr.drewN nq).cell? ⟨g, t.done, none⟩ = some (.int .i32 (l : Int)) := cj
      clear c7 c8 cj HS HF
      generalize wr.drewN nq = W1 at S1 F1 c7' c8' cj' ⊢
      have HS : Hid (SAt W1 L1 n t) := S1
      have HF : Hid (FrS L L1 w W1) := F1
      clear S1 F1
      go_wp2_with fail
      go_quiet ((go_at_call 33; exact Calls.quiet_of_same (HO.out _)))
      have S1 : SAt (W1.drewN nq) L1 n t := HS.out.drewN _
      have F1 : FrS L L1 w (W1.drewN nq) := HF.out.drewN _
      clear c7' c8' cj' HS HF
      generalize W1.drewN nq = W2 at S1 F1 ⊢
      have c8 : W2.cell? ⟨L.sb, 8, none⟩ = some (.int .i64 (t.done : Int)) := by have := S1.cell 8; rw [← hsb]; exact this
      have z8 := S1.free 8
      rw [hsb] at z8
      have S2 : SAt (W2.setCell ⟨L.sb, 8, none⟩ (.int .i64 ((t.done : Int) + 1))) L1 n { t with done := t.done + 1 } := by
        have := S1.setDone (t.done + 1)
        rw [hsb] at this
        exact this
      have F2 : Hid (FrS L L1 w (W2.setCell ⟨L.sb, 8, none⟩ (.int .i64 ((t.done : Int) + 1)))) := F1.set (by rw [← hsb, (S1.1.st trivial).2]; decide)
      have HC : Hid (Calls _ _ _ _ _) := HCL.out _ S2
      clear S1 F1 S2 HCL
      by_cases hb1 : b = -1
      · have e1 : (b != -1) = false := by rw [hb1]; rfl
        go_wp2_with (go_at_call 61; refine HC.out.mono ?_; rintro e W3 ⟨rfl, L2, h1, h2⟩)
        have H1 : Hid (SAt W3 L2 n N1) := h1
        have H2 : Hid (FrS L L2 w W3) := F2.out.trans h2
        clear h1 h2 HC F2
        go_wp2_with fail
        go_roundg k
        case measure => omega
        case rel =>
          refine ⟨N1, L2, by have := HK.out.2; omega, H1, H2, HK.out.1, fun m r hm => HT.out (m + 1) r ?_⟩
          have e2 := HN.out.1
          have e3 := HN.out.2
          unfold nextS at e2 e3
          unfold followS
          rw [if_pos hlt, if_neg (by rw [e3, hb1]; simp), e2]
          exact hm
      · have e1 : (b != -1) = true := by simpa using hb1
        go_wp2_with (go_at_call 61; refine HC.out.mono ?_; rintro e W3 ⟨rfl, L2, h1, h2⟩)
        have H1 : Hid (SAt W3 L2 n N1) := h1
        have H2 : Hid (FrS L L2 w W3) := F2.out.trans h2
        clear h1 h2 HC F2
        go_wp2_with fail
        go_ret
        have e2 := HN.out.1
        have e3 := HN.out.2
        unfold nextS at e2 e3
        obtain ⟨m', hm'⟩ := HT.out 1 (N1, b) (by
          unfold followS
          rw [if_pos hlt, if_pos (by rw [e3]; exact hb1)]
          exact congrArg some (Prod.ext e2 e3))
        exact ⟨m', (N1, b), hm', fun q => absurd q hb1, rfl, L2, H1.out, H2.out⟩
    · have i1 : ¬ (t.done : Int) < (t.trail.length : Int) := by omega
      obtain ⟨m', hm'⟩ := HT.out 1 (t, -1) (by unfold followS; rw [if_neg hlt])
      have HM : Hid (followS m' s = some (t, -1)) := hm'
      clear hm' HT
      go_wp2_with fail
      go_quiet (fail)
      go_wp2_with fail
      go_ret
      exact ⟨m', (t, -1), HM.out, fun _ => HI.out, rfl, L1, HS.out.drewN _, HF.out.drewN _⟩

end Go.Proofs.Ytbicefgjompnoaa.Sx
/- What is true, in its order (plain). -/
namespace Go.Proofs.Ytbicefgjompnoaa.Sx

/-- each variable comes at most once; what came is true, its opposite false -/
structure TrOK (n : Nat) (s : St) : Prop where
  len : s.truth.length = 2 * n
  nd : (s.trail.map (· / 2)).Nodup
  lt : ∀ l ∈ s.trail, l < 2 * n
  tr : ∀ l ∈ s.trail, s.truth.getD l 0 = 1 ∧ s.truth.getD (opp l) 0 = -1
theorem opp_half (l : Nat) : opp l / 2 = l / 2 := by unfold opp; split <;> omega
theorem half_cases {a b : Nat} (h : a / 2 = b / 2) : a = b ∨ a = opp b := by unfold opp; split <;> omega
theorem TrOK.room {n : Nat} {s : St} (h : TrOK n s) {l : Nat} (hl : l < 2 * n) (h0 : s.truth.getD l 0 = 0) : s.trail.length + 1 ≤ n := by
  have hn : (l / 2) ∉ s.trail.map (· / 2) := by
    intro hm
    obtain ⟨x, hx, e⟩ := List.mem_map.1 hm
    obtain ⟨h1, h2⟩ := h.tr x hx
    rcases half_cases e.symm with q | q
    · rw [q] at h0; omega
    · rw [q] at h0; omega
  have := holes n (l / 2 :: s.trail.map (· / 2)) (List.nodup_cons.2 ⟨hn, h.nd⟩) (fun x hx => by
    rcases List.mem_cons.1 hx with q | q
    · omega
    · obtain ⟨y, hy, e⟩ := List.mem_map.1 q
      have := h.lt y hy
      omega)
  simpa using this
theorem set2_getD {t : List Int} {l k : Nat} {u v : Int} (hl : l < t.length) (ho : opp l < t.length) : ((t.set l u).set (opp l) v).getD k 0 = if k = opp l then v else if k = l then u else t.getD k 0 := by
  rw [List.getD_eq_getElem?_getD, List.getElem?_set]
  by_cases q : opp l = k
  · rw [if_pos q, if_pos (by simpa using ho), if_pos q.symm]; rfl
  · rw [if_neg q, if_neg (fun e => q e.symm), List.getElem?_set]
    by_cases q2 : l = k
    · rw [if_pos q2, if_pos hl, if_pos q2.symm]; rfl
    · rw [if_neg q2, if_neg (fun e => q2 e.symm), ← List.getD_eq_getElem?_getD]
theorem TrOK.believe {n : Nat} {s : St} (h : TrOK n s) {l : Nat} (hl : l < 2 * n) (h0 : s.truth.getD l 0 = 0) (y : Int) : TrOK n (believeP s l y) := by
  have ho := opp_lt hl
  have hg : ∀ k, (believeP s l y).truth.getD k 0 = if k = opp l then -1 else if k = l then 1 else s.truth.getD k 0 := fun k => set2_getD (by rw [h.len]; exact hl) (by rw [h.len]; exact ho)
  have hne : ∀ x ∈ s.trail, x ≠ l ∧ x ≠ opp l := fun x hx => by
    obtain ⟨h1, h2⟩ := h.tr x hx
    refine ⟨fun e => ?_, fun e => ?_⟩
    · rw [e] at h1; omega
    · rw [e, opp_opp] at h2; omega
  refine ⟨by simp [believeP, h.len], ?_, fun x hx => ?_, fun x hx => ?_⟩
  · show ((s.trail ++ [l]).map (· / 2)).Nodup
    rw [List.map_append, List.nodup_append]
    refine ⟨h.nd, by simp, fun a ha b hb => ?_⟩
    obtain ⟨x, hx, rfl⟩ := List.mem_map.1 ha
    simp at hb
    rw [hb]
    intro e
    rcases half_cases e with q | q
    · exact (hne x hx).1 q
    · exact (hne x hx).2 q
  · rcases List.mem_append.1 hx with q | q
    · exact h.lt x q
    · rw [List.mem_singleton.1 q]; exact hl
  · rw [hg, hg]
    rcases List.mem_append.1 hx with q | q
    · obtain ⟨h1, h2⟩ := h.tr x q
      obtain ⟨n1, n2⟩ := hne x q
      rw [if_neg n2, if_neg n1, if_neg (fun e => n1 (by rw [← opp_opp x, e, opp_opp])), if_neg (fun e => n2 (by rw [← opp_opp x, e]))]
      exact ⟨h1, h2⟩
    · rw [List.mem_singleton.1 q, if_neg (fun e => opp_ne l e.symm), if_pos rfl, if_pos rfl]
      exact ⟨rfl, rfl⟩

/-- rows of one literal, one by one -/
def singlesP (s : St) : List Nat → St × Bool
  | [] => (s, true)
  | r :: rs => match s.rows.getD r none with
    | some (l :: _) => if s.truth.getD l 0 = 0 then singlesP (believeP s l (r : Int)) rs else if 0 < s.truth.getD l 0 then singlesP s rs else (s, false)
    | _ => (s, false)

end Go.Proofs.Ytbicefgjompnoaa.Sx
