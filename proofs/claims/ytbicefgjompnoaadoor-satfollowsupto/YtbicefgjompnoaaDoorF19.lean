/- The store: which rows something is true by; a book. -/
import Derived.Test.YtbicefgjompnoaaDoorF16
import Derived.Test.YtbicefgjompnoaaDoorF18
namespace Go.Proofs.YtbicefgjompnoaaDoor.Sx
open Go.RowKit Go.Sort Go.Lib

/-- something is true because of a row: of one of its literals -/
def bearsL (s : St) (r : Nat) (l : Nat) : Bool := decide (0 < s.truth.getD l 0) && decide (s.why.getD (l / 2) 0 = (r : Int))

end Go.Proofs.YtbicefgjompnoaaDoor.Sx
/- The store: bears, in memory. -/
namespace Go.Proofs.YtbicefgjompnoaaDoor.Sx
open Go.RowKit Go.Sort Go.Lib

theorem SAt.below {w W : World} {L : Ly} {n : Nat} {s : St} (h : SAt w L n s) (hb : Below w.heap.size w W) : SAt W L n s := ⟨h.1.fr fun b hb' _ => hb.block b hb', h.2⟩

end Go.Proofs.YtbicefgjompnoaaDoor.Sx
/- What look, follow and begin do (plain; not shown of the program yet). -/
namespace Go.Proofs.YtbicefgjompnoaaDoor.Sx

/-- the literal that is false now comes second -/
def swap0 (c : List Nat) (no : Nat) : List Nat := if c.getD 0 0 = no then (c.set 0 (c.getD 1 0)).set 1 no else c
/-- the first literal behind the first two that is not false -/
def freeAt (t : List Int) (c : List Nat) : Option Nat := (List.range (c.length - 2)).find? fun k => decide (0 ≤ t.getD (c.getD (k + 2) 0) 0)
/-- the watches of a literal, one by one: what is left of them, and a row that has only false literals, or -1 -/
def lookG (no : Nat) : List (Nat × Nat) → List (Nat × Nat) → St → St × List (Nat × Nat) × Int
  | [], kept, s => (s, kept, -1)
  | (r, o) :: rest, kept, s =>
    if 0 < s.truth.getD o 0 then lookG no rest (kept ++ [(r, o)]) s else
    match s.rows.getD r none with
    | none => lookG no rest kept s
    | some c =>
      if 0 < s.truth.getD ((swap0 c no).getD 0 0) 0 then lookG no rest (kept ++ [(r, (swap0 c no).getD 0 0)]) { s with rows := s.rows.set r (some (swap0 c no)) } else
      match freeAt s.truth (swap0 c no) with
      | some k => lookG no rest kept (pushW { s with rows := s.rows.set r (some (((swap0 c no).set 1 ((swap0 c no).getD (k + 2) 0)).set (k + 2) no)) } ((swap0 c no).getD (k + 2) 0) r ((swap0 c no).getD 0 0))
      | none =>
        if s.truth.getD ((swap0 c no).getD 0 0) 0 < 0 then ({ s with rows := s.rows.set r (some (swap0 c no)) }, kept ++ (r, (swap0 c no).getD 0 0) :: rest, (r : Int))
        else lookG no rest (kept ++ [(r, (swap0 c no).getD 0 0)]) (believeP { s with rows := s.rows.set r (some (swap0 c no)) } ((swap0 c no).getD 0 0) (r : Int))
def lookP (s : St) (no : Nat) : St × Int :=
  match lookG no (s.watches.getD no []) [] s with
  | (s', kept, bad) => ({ s' with watches := s'.watches.set no kept }, bad)
/-- all that follows -/
def followS : Nat → St → Option (St × Int)
  | 0, _ => none
  | f + 1, s =>
    if s.done < s.trail.length then
      (if (lookP { s with done := s.done + 1 } (opp (s.trail.getD s.done 0))).2 ≠ -1 then some (lookP { s with done := s.done + 1 } (opp (s.trail.getD s.done 0)))
       else followS f (lookP { s with done := s.done + 1 } (opp (s.trail.getD s.done 0))).1)
    else some (s, -1)

end Go.Proofs.YtbicefgjompnoaaDoor.Sx
/- The store: follow, if look does what it should. -/
namespace Go.Proofs.YtbicefgjompnoaaDoor.Sx
open Go.RowKit Go.Sort

/-- what is looked at next -/
def nextS (s : St) : St × Int := lookP { s with done := s.done + 1 } (opp (s.trail.getD s.done 0))
/-- look does as lookP says, wherever something is so of the store, and leaves that so -/
structure LookOK (n : Nat) (I : St → Prop) : Prop where
  call : ∀ (w : World) (L : Ly) (s : St), I s → s.done < s.trail.length → SAt w L n { s with done := s.done + 1 } → Calls Tryd.prog 44 #[.pointer (some ⟨L.sb, 0, none⟩), .int .i32 (opp (s.trail.getD s.done 0) : Int)] w (StPost w L n (nextS s).1 (.int .i32 (nextS s).2))
  keep : ∀ s, I s → s.done < s.trail.length → I (nextS s).1
  done : ∀ s, I s → s.done < s.trail.length → (nextS s).1.done = s.done + 1
  row : ∀ s, I s → s.done < s.trail.length → -1 ≤ (nextS s).2 ∧ (nextS s).2 ≤ 2147483647

/-- what follow comes to: so many rounds are enough -/
def FolS (w : World) (L : Ly) (n : Nat) (I : St → Prop) (s : St) (e : Ending) (w' : World) : Prop := ∃ k r, followS k s = some r ∧ (r.2 = -1 → I r.1) ∧ StPost w L n r.1 (.int .i32 r.2) e w'

set_option maxRecDepth 100000 in
set_option maxHeartbeats 4000000 in
theorem follow2_any (w : World) (L : Ly) (n : Nat) (s : St) (I : St → Prop) (HL : LookOK n I) (h : SAt w L n s) (hI : I s) (hd : s.done ≤ s.trail.length) :
    Calls Tryd.prog 36 #[.pointer (some ⟨L.sb, 0, none⟩)] w (FolS w L n I s) := by
  have mo := follows
  have hn := h.2.n_
  have HS : Hid (SAt w L n s) := h
  have hfew := h.2.few
  go_enter Tryd.func36, Tryd.ntmps36
  go_wp2_with fail
  go_loopg [] (n + 1 - s.done) (fun k wr => ∃ (t : St) (L1 : Ly), n + 1 ≤ t.done + k ∧ Hid (SAt wr L1 n t) ∧ Hid (FrS L L1 w wr) ∧ Hid (I t) ∧ Hid (∀ m r, followS m t = some r → ∃ m', followS m' s = some r))
  case atStart => exact ⟨s, L, by omega, HS, FrS.refl _ _, hI, fun m r hm => ⟨m, hm⟩⟩
  case round =>
    clear HS
    obtain ⟨t, L1, hk, HS, HF, HI, HT⟩ := hrel
    have hfw := HS.out.2.few
    have hsb : L1.sb = L.sb := HF.out.sb
    obtain ⟨ta, tc, htv⟩ := (HS.out.1.ta trivial).form
    have c7 : wr.cell? ⟨L.sb, 7, none⟩ = some (.slice ta t.trail.length tc) := by have := HS.out.cell 7; simp only [stC, htv] at this; rw [← hsb]; exact this
    have c8 : wr.cell? ⟨L.sb, 8, none⟩ = some (.int .i64 (t.done : Int)) := by have := HS.out.cell 8; rw [← hsb]; exact this
    by_cases hlt : t.done < t.trail.length
    · obtain ⟨k, rfl⟩ : ∃ k, gk = k + 1 := ⟨gk - 1, by omega⟩
      obtain ⟨l, hl⟩ : ∃ l, t.trail[t.done] = l := ⟨_, rfl⟩
      have hlj : t.trail[t.done]? = some l := by rw [List.getElem?_eq_getElem hlt, hl]
      have hgd : t.trail.getD t.done 0 = l := by rw [List.getD_eq_getElem?_getD, hlj]; rfl
      obtain ⟨g, hga, _, cj, _⟩ := (show OwnR wr L1.own (8, 0) 45 1 (.slice ta t.trail.length tc) t.trail.length (v32 t.trail) from by rw [← htv]; exact HS.out.1.ta trivial).cell1 (v32_get hlj)
      subst hga
      have hl2 : l < 2 * n := HS.out.2.lit l (hl ▸ List.getElem_mem hlt)
      have i1 : (t.done : Int) < (t.trail.length : Int) := by omega
      have HO : Hid (∀ w, Calls Tryd.prog 33 #[.int .i32 (l : Int)] w fun e w' => e = .returned (.int .i32 (opp l : Int)) ∧ w' = w) := fun w => opposite_any w l (by omega)
      have hnx := HL.call
      obtain ⟨N1, hN1⟩ : ∃ N1, (nextS t).1 = N1 := ⟨_, rfl⟩
      obtain ⟨b, hb⟩ : ∃ b, (nextS t).2 = b := ⟨_, rfl⟩
      have HN : Hid ((nextS t).1 = N1 ∧ (nextS t).2 = b) := ⟨hN1, hb⟩
      have hbr := HL.row t HI.out hlt
      rw [hb] at hbr
      have HCL : Hid (∀ (W : World), SAt W L1 n { t with done := t.done + 1 } → Calls Tryd.prog 44 #[.pointer (some ⟨L.sb, 0, none⟩), .int .i32 (opp l : Int)] W (StPost W L1 n N1 (.int .i32 b))) := fun W hW => by
        have := HL.call W L1 t HI.out hlt hW
        rw [hgd, hN1, hb, hsb] at this
        exact this
      have HK : Hid (I N1 ∧ N1.done = t.done + 1) := by rw [← hN1]; exact ⟨HL.keep t HI.out hlt, HL.done t HI.out hlt⟩
      generalize t.trail.length = T at c7 i1 hfw
      clear hnx hN1 hb hgd hlj hl htv
      go_wp2_with fail
      go_quiet (fail)
      have S1 : SAt (wr.drewN nq) L1 n t := HS.out.drewN _
      have F1 : FrS L L1 w (wr.drewN nq) := HF.out.drewN _
      have c7' : (wr.drewN nq).cell? ⟨L.sb, 7, none⟩ = some (.slice (some ⟨g, 0, none⟩) T tc) := c7
      have c8' : (wr.drewN nq).cell? ⟨L.sb, 8, none⟩ = some (.int .i64 (t.done : Int)) := c8
      have cj' : (wr.drewN nq).cell? ⟨g, t.done, none⟩ = some (.int .i32 (l : Int)) := cj
      clear c7 c8 cj HS HF
      generalize wr.drewN nq = W1 at S1 F1 c7' c8' cj' ⊢
      have HS : Hid (SAt W1 L1 n t) := S1
      have HF : Hid (FrS L L1 w W1) := F1
      clear S1 F1
      go_wp2_with fail
      go_quiet ((go_at_call 33; exact Calls.quiet_of_same (HO.out _)))
      have S1 : SAt (W1.drewN nq) L1 n t := HS.out.drewN _
      have F1 : FrS L L1 w (W1.drewN nq) := HF.out.drewN _
      clear c7' c8' cj' HS HF
      generalize W1.drewN nq = W2 at S1 F1 ⊢
      have c8 : W2.cell? ⟨L.sb, 8, none⟩ = some (.int .i64 (t.done : Int)) := by have := S1.cell 8; rw [← hsb]; exact this
      have z8 := S1.free 8
      rw [hsb] at z8
      have S2 : SAt (W2.setCell ⟨L.sb, 8, none⟩ (.int .i64 ((t.done : Int) + 1))) L1 n { t with done := t.done + 1 } := by
        have := S1.setDone (t.done + 1)
        rw [hsb] at this
        exact this
      have F2 : Hid (FrS L L1 w (W2.setCell ⟨L.sb, 8, none⟩ (.int .i64 ((t.done : Int) + 1)))) := F1.set (by rw [← hsb, (S1.1.st trivial).2]; decide)
      have HC : Hid (Calls _ _ _ _ _) := HCL.out _ S2
      clear S1 F1 S2 HCL
      by_cases hb1 : b = -1
      · have e1 : (b != -1) = false := by rw [hb1]; rfl
        go_wp2_with (go_at_call 44; refine HC.out.mono ?_; rintro e W3 ⟨rfl, L2, h1, h2⟩)
        have H1 : Hid (SAt W3 L2 n N1) := h1
        have H2 : Hid (FrS L L2 w W3) := F2.out.trans h2
        clear h1 h2 HC F2
        go_wp2_with fail
        go_roundg k
        case measure => omega
        case rel =>
          refine ⟨N1, L2, by have := HK.out.2; omega, H1, H2, HK.out.1, fun m r hm => HT.out (m + 1) r ?_⟩
          have e2 := HN.out.1
          have e3 := HN.out.2
          unfold nextS at e2 e3
          unfold followS
          rw [if_pos hlt, if_neg (by rw [e3, hb1]; simp), e2]
          exact hm
      · have e1 : (b != -1) = true := by simpa using hb1
        go_wp2_with (go_at_call 44; refine HC.out.mono ?_; rintro e W3 ⟨rfl, L2, h1, h2⟩)
        have H1 : Hid (SAt W3 L2 n N1) := h1
        have H2 : Hid (FrS L L2 w W3) := F2.out.trans h2
        clear h1 h2 HC F2
        go_wp2_with fail
        go_ret
        have e2 := HN.out.1
        have e3 := HN.out.2
        unfold nextS at e2 e3
        obtain ⟨m', hm'⟩ := HT.out 1 (N1, b) (by
          unfold followS
          rw [if_pos hlt, if_pos (by rw [e3]; exact hb1)]
          exact congrArg some (Prod.ext e2 e3))
        exact ⟨m', (N1, b), hm', fun q => absurd q hb1, rfl, L2, H1.out, H2.out⟩
    · have i1 : ¬ (t.done : Int) < (t.trail.length : Int) := by omega
      obtain ⟨m', hm'⟩ := HT.out 1 (t, -1) (by unfold followS; rw [if_neg hlt])
      have HM : Hid (followS m' s = some (t, -1)) := hm'
      clear hm' HT
      go_wp2_with fail
      go_quiet (fail)
      go_wp2_with fail
      go_ret
      exact ⟨m', (t, -1), HM.out, fun _ => HI.out, rfl, L1, HS.out.drewN _, HF.out.drewN _⟩

end Go.Proofs.YtbicefgjompnoaaDoor.Sx
/- What is true, in its order (plain). -/
namespace Go.Proofs.YtbicefgjompnoaaDoor.Sx

/-- each variable comes at most once; what came is true, its opposite false -/
structure TrOK (n : Nat) (s : St) : Prop where
  len : s.truth.length = 2 * n
  nd : (s.trail.map (· / 2)).Nodup
  lt : ∀ l ∈ s.trail, l < 2 * n
  tr : ∀ l ∈ s.trail, s.truth.getD l 0 = 1 ∧ s.truth.getD (opp l) 0 = -1
theorem opp_half (l : Nat) : opp l / 2 = l / 2 := by unfold opp; split <;> omega
theorem half_cases {a b : Nat} (h : a / 2 = b / 2) : a = b ∨ a = opp b := by unfold opp; split <;> omega
theorem TrOK.room {n : Nat} {s : St} (h : TrOK n s) {l : Nat} (hl : l < 2 * n) (h0 : s.truth.getD l 0 = 0) : s.trail.length + 1 ≤ n := by
  have hn : (l / 2) ∉ s.trail.map (· / 2) := by
    intro hm
    obtain ⟨x, hx, e⟩ := List.mem_map.1 hm
    obtain ⟨h1, h2⟩ := h.tr x hx
    rcases half_cases e.symm with q | q
    · rw [q] at h0; omega
    · rw [q] at h0; omega
  have := holes n (l / 2 :: s.trail.map (· / 2)) (List.nodup_cons.2 ⟨hn, h.nd⟩) (fun x hx => by
    rcases List.mem_cons.1 hx with q | q
    · omega
    · obtain ⟨y, hy, e⟩ := List.mem_map.1 q
      have := h.lt y hy
      omega)
  simpa using this
theorem set2_getD {t : List Int} {l k : Nat} {u v : Int} (hl : l < t.length) (ho : opp l < t.length) : ((t.set l u).set (opp l) v).getD k 0 = if k = opp l then v else if k = l then u else t.getD k 0 := by
  rw [List.getD_eq_getElem?_getD, List.getElem?_set]
  by_cases q : opp l = k
  · rw [if_pos q, if_pos (by simpa using ho), if_pos q.symm]; rfl
  · rw [if_neg q, if_neg (fun e => q e.symm), List.getElem?_set]
    by_cases q2 : l = k
    · rw [if_pos q2, if_pos hl, if_pos q2.symm]; rfl
    · rw [if_neg q2, if_neg (fun e => q2 e.symm), ← List.getD_eq_getElem?_getD]
theorem TrOK.believe {n : Nat} {s : St} (h : TrOK n s) {l : Nat} (hl : l < 2 * n) (h0 : s.truth.getD l 0 = 0) (y : Int) : TrOK n (believeP s l y) := by
  have ho := opp_lt hl
  have hg : ∀ k, (believeP s l y).truth.getD k 0 = if k = opp l then -1 else if k = l then 1 else s.truth.getD k 0 := fun k => set2_getD (by rw [h.len]; exact hl) (by rw [h.len]; exact ho)
  have hne : ∀ x ∈ s.trail, x ≠ l ∧ x ≠ opp l := fun x hx => by
    obtain ⟨h1, h2⟩ := h.tr x hx
    refine ⟨fun e => ?_, fun e => ?_⟩
    · rw [e] at h1; omega
    · rw [e, opp_opp] at h2; omega
  refine ⟨by simp [believeP, h.len], ?_, fun x hx => ?_, fun x hx => ?_⟩
  · show ((s.trail ++ [l]).map (· / 2)).Nodup
    rw [List.map_append, List.nodup_append]
    refine ⟨h.nd, by simp, fun a ha b hb => ?_⟩
    obtain ⟨x, hx, rfl⟩ := List.mem_map.1 ha
    simp at hb
    rw [hb]
    intro e
    rcases half_cases e with q | q
    · exact (hne x hx).1 q
    · exact (hne x hx).2 q
  · rcases List.mem_append.1 hx with q | q
    · exact h.lt x q
    · rw [List.mem_singleton.1 q]; exact hl
  · rw [hg, hg]
    rcases List.mem_append.1 hx with q | q
    · obtain ⟨h1, h2⟩ := h.tr x q
      obtain ⟨n1, n2⟩ := hne x q
      rw [if_neg n2, if_neg n1, if_neg (fun e => n1 (by rw [← opp_opp x, e, opp_opp])), if_neg (fun e => n2 (by rw [← opp_opp x, e]))]
      exact ⟨h1, h2⟩
    · rw [List.mem_singleton.1 q, if_neg (fun e => opp_ne l e.symm), if_pos rfl, if_pos rfl]
      exact ⟨rfl, rfl⟩

/-- rows of one literal, one by one -/
def singlesP (s : St) : List Nat → St × Bool
  | [] => (s, true)
  | r :: rs => match s.rows.getD r none with
    | some (l :: _) => if s.truth.getD l 0 = 0 then singlesP (believeP s l (r : Int)) rs else if 0 < s.truth.getD l 0 then singlesP s rs else (s, false)
    | _ => (s, false)

end Go.Proofs.YtbicefgjompnoaaDoor.Sx
/- The store: what is written while the watches of a literal are gone through. -/
namespace Go.Proofs.YtbicefgjompnoaaDoor.Sx
open Go.RowKit Go.Sort

theorem SAtK.full {w : World} {L : Ly} {n : Nat} {s : St} (h : SAtK (· ≠ (0, 0)) w L n s) : SAtK (fun _ => True) w L n s :=
  ⟨fun _ => h.st (by decide), fun _ => h.wt (by decide), fun _ => h.tr (by decide), fun _ => h.wy (by decide), fun _ => h.dp (by decide), fun _ => h.ro (by decide), fun _ => h.si (by decide), fun _ => h.ta (by decide), fun _ => h.cu (by decide), fun l _ => h.wl l (by simp), fun r _ => h.rl r (by simp)⟩

/-- a block that is none of the store's is written -/
theorem SAt.offSet {w : World} {L : Ly} {n : Nat} {s : St} (h : SAt w L n s) {b : Nat} (hb : L.own b = (0, 0)) (i : Nat) (u : Value) : SAt (w.setCell ⟨b, i, none⟩ u) L n s :=
  ⟨((h.1.mono (K' := (· ≠ (0, 0))) fun _ _ => trivial).fr fun k _ hne => Below.heap_setCell w ⟨b, i, none⟩ u k (fun e => hne (by rw [show k = b from e]; exact hb))).full, h.2⟩
/-- the next block is none of the store's -/
def newT (L : Ly) (k : Nat) : Ly := { L with own := ownT L.own k (0, 0) }
theorem SAt.allocT {w : World} {L : Ly} {n : Nat} {s : St} (h : SAt w L n s) (o : Obj) : SAt (w.alloc o) (newT L w.heap.size) n s :=
  ⟨(h.1.own (ownT L.own w.heap.size (0, 0)) fun _ hb => ownT_old hb).fr fun _ hb _ => heap_alloc_old w o hb, ⟨h.2.n_, h.2.tr, h.2.wy, h.2.dp, h.2.wt, h.2.wv, h.2.rr, h.2.t3, h.2.lit, h.2.few, h.2.rows⟩⟩
theorem newT_own (L : Ly) (k : Nat) : (newT L k).own k = (0, 0) := by show ownT L.own k (0, 0) k = _; unfold ownT; rw [if_pos rfl]
theorem FrS.allocT {L0 L : Ly} {w0 w : World} (h : FrS L0 L w0 w) (o : Obj) : FrS L0 (newT L w.heap.size) w0 (w.alloc o) :=
  ⟨h.os, h.tape, h.output, by have := h.size; simp; omega, fun b hb ho => (heap_alloc_old w o (Nat.lt_of_lt_of_le hb h.size)).trans (h.block b hb ho), fun b hb => (ownT_old (Nat.lt_of_lt_of_le hb h.size)).trans (h.own b hb), h.sb⟩
theorem FrS.offSet {L0 L : Ly} {w0 w : World} (h : FrS L0 L w0 w) {b : Nat} (hb : w0.heap.size ≤ b) (i : Nat) (u : Value) : FrS L0 L w0 (w.setCell ⟨b, i, none⟩ u) :=
  ⟨h.os, h.tape, h.output, by have := h.size; simpa using this, fun k hk ho => (Below.heap_setCell w ⟨b, i, none⟩ u k (fun e => by have : k = b := e; omega)).trans (h.block k hk ho), h.own, h.sb⟩

/-- a cell of a row is written -/
theorem SAt.rowSet {w : World} {L : Ly} {n : Nat} {s : St} (h : SAt w L n s) {r cb k cap i x : Nat} {c : List Nat} (hr : s.rows[r]? = some (some c)) (hv : L.rr[r]? = some (.slice (some ⟨cb, 0, none⟩) k cap)) :
    SAt (w.setCell ⟨cb, i, none⟩ (.int .i32 (x : Int))) L n { s with rows := s.rows.set r (some (c.set i x)) } := by
  obtain ⟨v, h1, b, d, h2, h3, h4, h5, h6⟩ := h.1.rl r trivial _ hr
  rw [hv] at h1
  cases h1
  cases h2
  have hrl : r < s.rows.length := (List.getElem?_eq_some_iff.1 hr).1
  have k1 : SAtK (· ≠ (11, r)) (w.setCell ⟨cb, i, none⟩ (.int .i32 (x : Int))) L n s := (h.1.mono (K' := (· ≠ (11, r))) fun _ _ => trivial).fr fun b' _ hne => Below.heap_setCell w ⟨cb, i, none⟩ _ b' (fun e => hne (by rw [show b' = cb from e]; exact h3))
  refine ⟨⟨fun _ => k1.st (by simp), fun _ => k1.wt (by simp), fun _ => k1.tr (by simp), fun _ => k1.wy (by simp), fun _ => k1.dp (by simp), fun _ => ?_, fun _ => k1.si (by simp), fun _ => k1.ta (by simp), fun _ => k1.cu (by simp), fun l _ => k1.wl l (by simp), fun r' _ c' hc' => ?_⟩, ⟨h.2.n_, h.2.tr, h.2.wy, h.2.dp, h.2.wt, h.2.wv, by show L.rr.length = (s.rows.set r _).length; rw [List.length_set]; exact h.2.rr, h.2.t3, h.2.lit, h.2.few, by show (s.rows.set r _).length ≤ _; rw [List.length_set]; exact h.2.rows⟩⟩
  · show OwnR _ _ _ _ _ _ (s.rows.set r _).length _
    rw [List.length_set]
    exact k1.ro (by simp)
  · have hc2 : (s.rows.set r (some (c.set i x)))[r']? = some c' := hc'
    by_cases q : r' = r
    · subst q
      rw [List.getElem?_set_self hrl] at hc2
      cases hc2
      refine ⟨_, hv, cb, d.setIfInBounds i x, by simp, h3, h4.set i x, ?_, by simpa using h6⟩
      rw [List.length_set, Array.toList_setIfInBounds, List.take_set]
      exact congrArg (fun l : List Nat => l.set i x) h5
    · rw [List.getElem?_set_ne (fun e => q e.symm)] at hc2
      exact k1.rl r' (by simp [q]) c' hc2

/-- the watches of a literal, said otherwise -/
def wset (s : St) (no : Nat) (M : List (Nat × Nat)) : St := { s with watches := s.watches.set no M }
theorem wset_getD {s : St} {no k : Nat} {M : List (Nat × Nat)} (h : no < s.watches.length) : (wset s no M).watches.getD k [] = if k = no then M else s.watches.getD k [] := by
  show (s.watches.set no M).getD k [] = _
  rw [List.getD_eq_getElem?_getD, List.getElem?_set]
  by_cases q : no = k
  · rw [if_pos q, if_pos h, if_pos q.symm]; rfl
  · rw [if_neg q, if_neg (fun e => q e.symm), ← List.getD_eq_getElem?_getD]
theorem wset_wset (s : St) (no : Nat) (M M' : List (Nat × Nat)) : wset (wset s no M) no M' = wset s no M' := by simp [wset]
theorem wset_self {s : St} {no : Nat} (h : no < s.watches.length) : wset s no (s.watches.getD no []) = s := by
  have : s.watches.set no (s.watches.getD no []) = s.watches := by
    rw [List.getD_eq_getElem?_getD, List.getElem?_eq_getElem h]
    exact List.set_getElem_self h
  unfold wset
  rw [this]
theorem wset_push {s : St} {no l r o : Nat} {M : List (Nat × Nat)} (h : no < s.watches.length) (hne : l ≠ no) : pushW (wset s no M) l r o = wset (pushW s l r o) no M := by
  have e1 : (wset s no M).watches.getD l [] = s.watches.getD l [] := by rw [wset_getD h, if_neg hne]
  unfold pushW
  rw [e1]
  simp only [wset]
  rw [List.set_comm _ _ (fun e => hne e.symm)]

theorem flatW_cons (p : Nat × Nat) (l : List (Nat × Nat)) : flatW (p :: l) = Value.int .i32 (p.1 : Int) :: Value.int .i32 (p.2 : Int) :: flatW l := rfl
theorem flatW_len (l : List (Nat × Nat)) : (flatW l).length = l.length * 2 := by
  induction l with
  | nil => rfl
  | cons p l ih => rw [flatW_cons, List.length_cons, List.length_cons, ih, List.length_cons]; omega
theorem flatW_app (a b : List (Nat × Nat)) : flatW (a ++ b) = flatW a ++ flatW b := by simp [flatW]
theorem flatW_take (l : List (Nat × Nat)) (k : Nat) : flatW (l.take k) = (flatW l).take (k * 2) := by
  induction l generalizing k with
  | nil => simp [flatW]
  | cons p l ih =>
    cases k with
    | zero => simp [flatW]
    | succ k =>
      have e : (k + 1) * 2 = k * 2 + 1 + 1 := by omega
      rw [List.take_succ_cons, flatW_cons, flatW_cons, ih, e, List.take_succ_cons, List.take_succ_cons]
theorem flatW_drop (l : List (Nat × Nat)) (k : Nat) : flatW (l.drop k) = (flatW l).drop (k * 2) := by
  induction l generalizing k with
  | nil => simp [flatW]
  | cons p l ih =>
    cases k with
    | zero => simp
    | succ k =>
      have e : (k + 1) * 2 = k * 2 + 1 + 1 := by omega
      rw [List.drop_succ_cons, flatW_cons, ih, e, List.drop_succ_cons, List.drop_succ_cons]
theorem flatW_get {l : List (Nat × Nat)} {i r o : Nat} (h : l[i]? = some (r, o)) : (flatW l)[i * 2]? = some (.int .i32 (r : Int)) ∧ (flatW l)[i * 2 + 1]? = some (.int .i32 (o : Int)) := by
  induction l generalizing i with
  | nil => simp at h
  | cons p l ih =>
    cases i with
    | zero => simp at h; subst h; exact ⟨rfl, rfl⟩
    | succ i =>
      have e : (i + 1) * 2 = i * 2 + 1 + 1 := by omega
      rw [flatW_cons, e]
      simpa using ih (by simpa using h)
theorem flatW_one (l : List (Nat × Nat)) : ∀ u ∈ flatW l, u.oneCell' = true := by
  intro u hu
  obtain ⟨p, _, hp⟩ := List.mem_flatMap.1 hu
  simp only [List.mem_cons, List.not_mem_nil, or_false] at hp
  rcases hp with rfl | rfl <;> rfl
/-- some of a list written over -/
def over (M : List (Nat × Nat)) (k : Nat) (news : List (Nat × Nat)) : List (Nat × Nat) := M.take k ++ news ++ M.drop (k + news.length)
theorem over_len {M news : List (Nat × Nat)} {k : Nat} (h : k + news.length ≤ M.length) : (over M k news).length = M.length := by
  simp [over]; omega
theorem over_take {M news kept : List (Nat × Nat)} {k : Nat} (hk : M.take k = kept) (hl : kept.length = k) : (over M k news).take (k + news.length) = kept ++ news := by
  unfold over
  rw [hk, ← hl, ← List.length_append]
  exact List.take_left
theorem over_drop {M news : List (Nat × Nat)} {k i : Nat} (h : k + news.length ≤ i) (hM : k ≤ M.length) : (over M k news).drop i = M.drop i := by
  unfold over
  rw [List.drop_append, List.drop_drop]
  have e1 : (M.take k ++ news).length = k + news.length := by simp; omega
  rw [List.drop_eq_nil_of_le (by rw [e1]; exact h), e1, List.nil_append]
  congr 1
  omega
theorem over_cells {A : List Value} {M news : List (Nat × Nat)} {k : Nat} (hA : A.take (M.length * 2) = flatW M) (h : k + news.length ≤ M.length) (hl : M.length * 2 ≤ A.length) :
    (A.take (k * 2) ++ flatW news ++ A.drop (k * 2 + (flatW news).length)).take (M.length * 2) = flatW (over M k news) := by
  have hn := flatW_len news
  unfold over
  rw [flatW_app, flatW_app, flatW_take, flatW_drop, ← hA, List.take_take, Nat.min_eq_left (by omega), List.drop_take]
  have e1 : (A.take (k * 2) ++ flatW news).length = k * 2 + news.length * 2 := by simp [hn]; omega
  rw [List.take_append, e1, List.take_of_length_le (by rw [e1]; omega), hn]
  congr 2
  · omega
  · congr 1; omega

section
variable {w : World} {L : Ly} {n : Nat} {s : St} {no wg K cap k : Nat} {M news : List (Nat × Nat)}
/-- the block of the watches -/
theorem SAt.wblk (h : SAt w L n (wset s no M)) (hno : no < 2 * n) (hv : L.wv[no]? = some (.slice (some ⟨wg, 0, none⟩) K cap)) : M.length = K ∧ L.own wg = (10, no) ∧ ∃ cur : Array Value, w.heap[wg]? = some (.cells cur 88 (0, 0)) ∧ K ≤ cap ∧ cap ≤ maxLen ∧ cur.size = cap * 2 ∧ cur.toList.take (K * 2) = flatW M := by
  obtain ⟨v, e1, e2⟩ := h.1.wl no trivial hno
  rw [hv] at e1
  cases e1
  have hw : s.watches.length = 2 * n := by have := h.2.wt; simpa [wset] using this
  rw [wset_getD (by omega), if_pos rfl] at e2
  rcases e2.1.2 with ⟨q, _⟩ | ⟨g, cap', cur, e, _, q1, q2, q3, q4, q5⟩
  · cases q
  · cases e
    exact ⟨rfl, e2.2 wg rfl, cur, q1, q2, q3, q4, q5⟩
/-- what is kept is written over what was gone through -/
theorem SAt.overW (h : SAt w L n (wset s no M)) (hno : no < 2 * n) (hv : L.wv[no]? = some (.slice (some ⟨wg, 0, none⟩) K cap)) (hk : k + news.length ≤ K) {cur : Array Value} (hc : w.heap[wg]? = some (.cells cur 88 (0, 0))) :
    SAt (w.setRow wg (cur.toList.take (k * 2) ++ flatW news ++ cur.toList.drop (k * 2 + (flatW news).length)).toArray) L n (wset s no (over M k news)) := by
  obtain ⟨hM, ho, cur', q1, q2, q3, q4, q5⟩ := h.wblk hno hv
  rw [hc] at q1
  cases q1
  have hn := flatW_len news
  have hw : s.watches.length = 2 * n := by have := h.2.wt; simpa [wset] using this
  have k1 : SAtK (· ≠ (10, no)) (w.setRow wg (cur.toList.take (k * 2) ++ flatW news ++ cur.toList.drop (k * 2 + (flatW news).length)).toArray) L n (wset s no M) := (h.1.mono (K' := (· ≠ (10, no))) fun _ _ => trivial).fr fun b _ hne => setRow_other w wg b _ (fun e => hne (by rw [e]; exact ho))
  refine ⟨⟨fun _ => k1.st (by simp), fun _ => k1.wt (by simp), fun _ => k1.tr (by simp), fun _ => k1.wy (by simp), fun _ => k1.dp (by simp), fun _ => k1.ro (by simp), fun _ => k1.si (by simp), fun _ => k1.ta (by simp), fun _ => k1.cu (by simp), fun l _ hl => ?_, fun r _ => k1.rl r (by simp)⟩, ⟨h.2.n_, h.2.tr, h.2.wy, h.2.dp, by simpa [wset] using hw, h.2.wv, h.2.rr, h.2.t3, h.2.lit, h.2.few, h.2.rows⟩⟩
  by_cases q : l = no
  · subst q
    refine ⟨_, hv, ?_, fun g hg => by cases hg; exact ho⟩
    rw [wset_getD (by omega), if_pos rfl]
    have e1 := over_len (M := M) (news := news) (k := k) (by omega)
    rw [e1, hM]
    refine ⟨by rw [flatW_len, e1, hM], .inr ⟨wg, cap, _, rfl, Nat.zero_le _, setRow_heap w wg cur _ 88 _ hc, q2, q3, ?_, ?_⟩⟩
    · simp [hn]; omega
    · rw [← hM] at q5 ⊢
      exact over_cells q5 (by omega) (by simp; omega)
  · obtain ⟨u, e1, e2⟩ := k1.wl l (by simp [q]) hl
    rw [wset_getD (by omega), if_neg q] at e2
    refine ⟨u, e1, ?_⟩
    rw [wset_getD (by omega), if_neg q]
    exact e2
theorem FrS.overW {L0 : Ly} {w0 : World} (h : FrS L0 L w0 w) (ho : L.own wg ≠ (0, 0)) (cs : Array Value) : FrS L0 L w0 (w.setRow wg cs) :=
  ⟨h.os, h.tape, h.output, by have := h.size; simpa [World.setRow] using this, fun b hb hz => (setRow_other w wg b cs (fun e => ho (by rw [← e, h.own b hb]; exact hz))).trans (h.block b hb hz), h.own, h.sb⟩
/-- the watches of a literal are put back -/
theorem SAt.putW (h : SAt w L n s) (hno : no < 2 * n) {v' : Value} {kept : List (Nat × Nat)} (ho : OwnR w L.own (10, no) 88 2 v' kept.length (flatW kept)) : SAt (w.setCell ⟨L.wb, no, none⟩ v') { L with wv := L.wv.set no v' } n (wset s no kept) := by
  obtain ⟨h2, h3⟩ := h.1.wt trivial
  have hw : s.watches.length = 2 * n := h.2.wt
  have k1 : SAtK (· ≠ (4, 0)) (w.setCell ⟨L.wb, no, none⟩ v') L n s := (h.1.mono (K' := (· ≠ (4, 0))) fun _ _ => trivial).fr fun b _ hne => Below.heap_setCell w ⟨L.wb, no, none⟩ _ b (fun e => hne (by rw [show b = L.wb from e]; exact h3))
  refine ⟨⟨fun _ => k1.st (by simp), fun _ => ⟨?_, h3⟩, fun _ => k1.tr (by simp), fun _ => k1.wy (by simp), fun _ => k1.dp (by simp), fun _ => k1.ro (by simp), fun _ => k1.si (by simp), fun _ => k1.ta (by simp), fun _ => k1.cu (by simp), fun l _ hl => ?_, fun r _ => k1.rl r (by simp)⟩, ⟨h.2.n_, h.2.tr, h.2.wy, h.2.dp, by simpa [wset] using hw, by simp [h.2.wv], h.2.rr, h.2.t3, h.2.lit, h.2.few, h.2.rows⟩⟩
  · rw [set_block h2 no]
    simp [Array.set!_eq_setIfInBounds]
  · by_cases q : l = no
    · subst q
      refine ⟨v', List.getElem?_set_self (by rw [h.2.wv]; exact hl), ?_⟩
      rw [wset_getD (by omega), if_pos rfl]
      exact ho.fr fun b hb hk => Below.heap_setCell w ⟨L.wb, l, none⟩ _ b (fun e => by rw [show b = L.wb from e, h3] at hk; cases hk)
    · obtain ⟨u, e1, e2⟩ := k1.wl l (by simp) hl
      refine ⟨u, ?_, ?_⟩
      · show (L.wv.set no v')[l]? = some u
        rw [List.getElem?_set_ne (fun e => q e.symm)]
        exact e1
      · rw [wset_getD (by omega), if_neg q]
        exact e2
end

end Go.Proofs.YtbicefgjompnoaaDoor.Sx
