/- The program: the book's add. -/
import Derived.Test.YtbicefgjompnoaaA36
import Derived.Test.YtbicefgjompnoaaA37
import Derived.Test.YtbicefgjompnoaaA41
namespace Go.Proofs.Ytbicefgjompnoaa.Sx
open Go.RowKit Go.Sort Go.Maps Go.Lib

/-- where add has put the clause, and noted its row -/
structure MidIs (w : World) (L : Ly) (n : Nat) (t1 : St) (bb cb px : Nat) (P : Nat → Prop) (b : Bool) (w' : World) (L' : Ly) (mv : Value) : Prop where
  bk : BkAt w' L' n t1 bb b (!b) mv
  mv : MvAt w' (fun k => L'.own k = (0, 0) ∧ k ≠ bb ∧ k ≠ cb ∧ k ≠ px ∧ (P k ∨ w.heap.size ≤ k)) t1.rows mv
  bx : w'.heap[px]? = some (.cells #[.pointer (some ⟨bb, 0, none⟩)] 40 (0, 0))
  po : L'.own px = (0, 0)
  fr : Fr (fun k => L.own k = (0, 0) ∧ ¬ P k ∧ k ≠ bb ∧ k ≠ cb) w w'
  sb : L'.sb = L.sb
  own : ∀ k, k < w.heap.size → k ≠ cb → L'.own k = L.own k
/-- what add comes to -/
structure AddIs (w : World) (L : Ly) (n : Nat) (t : St) (bb cb : Nat) (P : Nat → Prop) (c : List Nat) (w' : World) (L' : Ly) (t' : St) (b : Bool) (mv : Value) : Prop where
  bk : BkAt w' L' n t' bb b (!b) mv
  bi : BI n t' b (!b)
  mv : MvAt w' (fun k => L'.own k = (0, 0) ∧ k ≠ bb ∧ (P k ∨ w.heap.size ≤ k)) t'.rows mv
  rel : AddRel t t' c
  na : (∀ (r : Nat) (d : List Nat), t.rows[r]? = some (some d) → alwaysP d = false) → alwaysP c = false → ∀ (r : Nat) (d : List Nat), t'.rows[r]? = some (some d) → alwaysP d = false
  em : t'.empty ≤ t.empty + 1
  len : t'.rows.length ≤ t.rows.length + 1
  fr : Fr (fun k => L.own k = (0, 0) ∧ ¬ P k ∧ k ≠ bb ∧ k ≠ cb) w w'
  sb : L'.sb = L.sb
  own : ∀ k, k < w.heap.size → k ≠ cb → L'.own k = L.own k
def AddBPost (w : World) (L : Ly) (n : Nat) (t : St) (bb cb : Nat) (P : Nat → Prop) (c : List Nat) (e : Ending) (w' : World) : Prop :=
  e = .returned (.tuple #[]) ∧ ∃ L' t' b mv, AddIs w L n t bb cb P c w' L' t' b mv

/-- what believe and follow have come to: all that follows, or it cannot be -/
def EndIs (n : Nat) (t1 : St) (bb sb : Nat) (L5 : Ly) (w5 : World) (mv : Value) (y : Bool) (w10 : World) : Prop := ∃ L10 t10, SC t1 t10 ∧ BI n t10 y (!y) ∧ SAt w10 L10 n t10 ∧ FrX bb L5 L10 w5 w10 ∧ w10.heap[bb]? = some (.cells #[.pointer (some ⟨sb, 0, none⟩), .bool true, .bool false, mv] 63 (0, 0)) ∧ L10.own bb = (0, 0)

/-- .. from the middle on -/
theorem MidIs.done {w w5 w6 : World} {L L5 L6 : Ly} {n : Nat} {t t1 t6 : St} {bb cb px : Nat} {P : Nat → Prop} {b0 b : Bool} {mv : Value} {c c' : List Nat} (h : MidIs w L n t1 bb cb px P b0 w5 L5 mv) (ht1 : t1 = (addP t c').1) (hp : c'.Perm c) (hasc : Asc c) (hsc : SC t1 t6) (hb : BI n t6 b (!b)) (hA : SAt w6 L6 n t6) (hbk : w6.heap[bb]? = some (.cells #[.pointer (some ⟨L.sb, 0, none⟩), .bool b, .bool (!b), mv] 63 (0, 0))) (hf : FrX bb L5 L6 w5 w6) (hob : L6.own bb = (0, 0)) : AddIs w L n t bb cb P c w6 L6 t6 b mv := by
  have hbw : bb < w6.heap.size := block_lt hbk
  have hs6 : L6.sb = L.sb := hf.sb.trans h.sb
  refine ⟨⟨hA, by rw [hs6]; exact hbk, hob⟩, hb, h.mv.fr (fun k hk q => hf.block k hk q.2.1 q.1) (fun k hk q => ⟨(hf.own k hk q.2.1).trans q.1, q.2.1, q.2.2.2.2⟩) hsc.rp, fun c'' hc'' => ?_, fun h1 h2 r d hr => ?_, ?_, ?_, ?_, hs6, fun k hk hc => ?_⟩
  · rw [liveN_sc hsc, ht1, liveN_addP]
    congr 1
    have : (isKey c' c'' = true) ↔ c'' = c := by
      constructor
      · intro q
        exact hc''.ext hasc fun x => ((isKey_iff.1 q) x).trans hp.mem_iff
      · rintro rfl
        exact isKey_iff.2 fun x => hp.mem_iff.symm
    by_cases q : c'' = c
    · rw [if_pos q, if_pos (this.2 q)]
    · rw [if_neg q, if_neg fun z => q (this.1 z)]
  · obtain ⟨a, q1, q2⟩ := hsc.rp.bw r d hr
    rw [ht1] at q1
    have h3 : alwaysP c' = false := by
      rw [← h2]
      exact alwaysP_key (isKey_iff.2 fun x => hp.mem_iff.symm)
    have := addP_na h1 h3 r a q1
    rw [← this]
    exact alwaysP_key (isKey_iff.2 fun x => q2.mem_iff.symm)
  · rw [hsc.em, ht1]
    by_cases q : c' = []
    · subst q; exact Nat.le_refl _
    · rw [add_empty q]; omega
  · rw [hsc.rp.len, ht1]
    by_cases q : c' = []
    · subst q; exact Nat.le_succ _
    · rw [addP_rows t q]; simp
  · refine h.fr.trans2 (Q := fun k => k ≠ bb ∧ L5.own k = (0, 0)) ⟨hf.os, hf.tape, hf.output, hf.size, fun k hk q => hf.block k hk q.1 q.2⟩ fun k hk q => ⟨q.2.2.1, (h.own k hk q.2.2.2).trans q.1⟩
  · by_cases q : k = bb
    · subst q
      rw [hob, ← h.own k hk hc]
      exact h.bk.ow.symm
    · exact (hf.own k (Nat.lt_of_lt_of_le hk h.fr.size) q).trans (h.own k hk hc)

set_option maxRecDepth 100000 in
set_option maxHeartbeats 8000000 in
theorem book_add (w : World) (L : Ly) (n : Nat) (t : St) (bb cb : Nat) (b0 : Bool) (mv : Value) (P : Nat → Prop) (c : List Nat) (d : Array Nat) (h : BkAt w L n t bb b0 (!b0) mv) (hI : BI n t b0 (!b0)) (hM : MvAt w P t.rows mv) (hPb : ∀ k, P k → k ≠ bb) (hPo : ∀ k, P k → L.own k = (0, 0)) (hrow : LRow w cb d) (htk : d.toList.take c.length = c) (hdz : d.size ≤ 4294967296) (hcb : cb ≠ bb) (hcP : ¬ P cb) (hco : L.own cb = (0, 0)) (hasc : Asc c) (hcl : ∀ x ∈ c, x < 2 * n) (hrw : t.rows.length + 1 ≤ 1000000000) (hem : t.empty ≤ 1000000000) (hce : b0 = true → c ≠ []) :
    Calls Try.prog 19 #[.pointer (some ⟨bb, 0, none⟩), .slice (some ⟨cb, 0, none⟩) c.length d.size] w (AddBPost w L n t bb cb P c) := by
  have mo := follows
  have hmf : ∀ (fn : Fn) (first cap : Array Value) (w : World), (Instr.makeFunc fn first cap).run Try.prog w = .ok (.func fn first cap) w := fun _ _ _ _ => rfl
  have q61 : ∀ (w : World) (r : Option Nat), (binOp .neq 61 (.map r) (.map none)).run Try.prog w = .ok (.bool (!r.isNone)) w := fun w r => run_neq_map_nil w _ _ _ r Try.underlying61
  have hcd : c.length ≤ d.size := by
    have := congrArg List.length htk
    rw [List.length_take] at this
    have e2 : d.toList.length = d.size := by simp
    omega
  have hn := h.at_.2.n_
  -- the box
  obtain ⟨px, hpx⟩ : ∃ px, w.heap.size = px := ⟨_, rfl⟩
  obtain ⟨W, hW⟩ : ∃ W, w.alloc (.cells #[.pointer (some ⟨bb, 0, none⟩)] 40) = W := ⟨_, rfl⟩
  have hFW : Fr (fun _ => True) w W := by rw [← hW]; exact (Fr.refl _ w).alloc _
  have hKW : BkAt W (nrm L w.heap.size) n t bb b0 (!b0) mv := ⟨h.at_.frl hFW (fun b q => absurd trivial q), (hFW.block bb (block_lt h.bk) trivial).trans h.bk, nrm_zero fun _ => h.ow⟩
  have hpW : W.heap[px]? = some (.cells #[.pointer (some ⟨bb, 0, none⟩)] 40 (0, 0)) := by rw [← hW]; exact heap_new hpx
  have hcW : LRow W cb d := hrow.of hFW trivial
  have hcpx : cb ≠ px := by have := block_lt hrow; omega
  have hbpx : bb ≠ px := by have := block_lt h.bk; omega
  have cpx : W.cell? ⟨px, 0, none⟩ = some (.pointer (some ⟨bb, 0, none⟩)) := by rw [block_cell hpW]; rfl
  have hsW : W.heap.size = px + 1 := by rw [← hW]; simp [hpx]
  have hco2 : (nrm L w.heap.size).own cb = (0, 0) := nrm_zero fun _ => hco
  have HSO : Hid (Calls _ _ _ _ _) := sortBy_any (cap := d.size) hKW cpx (by omega) hcpx hcb hco2 hcW hcd htk (by omega) hcl
  go_enter Try.func19, Try.ntmps19
  go_wp2_with fail
  go_at_call 42
  refine HSO.out.mono ?_
  rintro e w1 ⟨rfl, hF1, c', d', hp, hpw, hdd, htk', hrow1⟩
  have hcl' : c'.length = c.length := hp.length_eq
  have hK1 : BkAt w1 (nrm L w.heap.size) n t bb b0 (!b0) mv := hKW.far hF1 (fun b _ q => by rw [Classical.byContradiction (p := b = cb) q]; exact hco2) (Ne.symm hcb)
  have hp1 : w1.heap[px]? = some (.cells #[.pointer (some ⟨bb, 0, none⟩)] 40 (0, 0)) := (hF1.block px (by omega) (Ne.symm hcpx)).trans hpW
  have hlt' : ∀ x ∈ c', x < 2 * n := fun x hx => hcl x (hp.mem_iff.1 hx)
  have hAD := add_any w1 (nrm L w.heap.size) n t.rows.length t cb c' d' hK1.at_ hI.b.I hI.b.R.few hem (Nat.le_refl _) hrw ⟨hrow1, htk', by omega, hco2⟩ hlt'
  rw [hcl', hdd] at hAD
  have HAD : Hid (Calls _ _ _ _ _) := hAD
  have c10 : w1.cell? ⟨px, 0, none⟩ = some (.pointer (some ⟨bb, 0, none⟩)) := by rw [block_cell hp1]; rfl
  have c11 : w1.cell? ⟨bb, 0, none⟩ = some (.pointer (some ⟨L.sb, 0, none⟩)) := by rw [block_cell hK1.bk]; rfl
  clear HSO hAD
  go_wp2_with fail
  go_at_call 29
  refine HAD.out.mono ?_
  rintro e w2 ⟨rfl, L2, hA2, hX2, hR2⟩
  obtain ⟨t1, ht1⟩ : ∃ t1, (addP t c').1 = t1 := ⟨_, rfl⟩
  obtain ⟨R, hR⟩ : ∃ R, (addP t c').2 = R := ⟨_, rfl⟩
  rw [ht1] at hA2
  rw [hR] at hR2
  have hs2 : L2.sb = L.sb := hX2.sb
  have hbk2 : w2.heap[bb]? = some (.cells #[.pointer (some ⟨L.sb, 0, none⟩), .bool b0, .bool (!b0), mv] 63 (0, 0)) := (hX2.block bb (block_lt hK1.bk) (Ne.symm hcb) hK1.ow).trans hK1.bk
  have ho2 : L2.own bb = (0, 0) := (hX2.own bb (block_lt hK1.bk) (Ne.symm hcb)).trans hK1.ow
  have hp2 : w2.heap[px]? = some (.cells #[.pointer (some ⟨bb, 0, none⟩)] 40 (0, 0)) := (hX2.block px (block_lt hp1) (Ne.symm hcpx) (nrm_new (by omega))).trans hp1
  have po2 : L2.own px = (0, 0) := (hX2.own px (block_lt hp1) (Ne.symm hcpx)).trans (nrm_new (by omega))
  have hF01 : Fr (fun k => k ≠ cb) w w1 := (hFW.mono fun _ _ => trivial).trans hF1
  have hlt1 : ∀ k, k < w.heap.size → k < w1.heap.size := fun k hk => Nat.lt_of_lt_of_le hk hF01.size
  have hown2 : ∀ k, k < w.heap.size → k ≠ cb → L2.own k = L.own k := fun k hk hc => (hX2.own k (hlt1 k hk) hc).trans (nrm_old hk)
  have hkeep : ∀ k, k < w.heap.size → L.own k = (0, 0) → k ≠ cb → w2.heap[k]? = w.heap[k]? := fun k hk ho hc => (hX2.block k (hlt1 k hk) hc ((nrm_old hk).trans ho)).trans (hF01.block k hk hc)
  have hF02 : Fr (fun k => L.own k = (0, 0) ∧ ¬ P k ∧ k ≠ bb ∧ k ≠ cb) w w2 := ⟨hX2.os.trans hF01.os, hX2.tape.trans hF01.tape, hX2.output.trans hF01.output, Nat.le_trans hF01.size hX2.size, fun k hk q => hkeep k hk q.1 q.2.2.2⟩
  have hPc : ∀ k, P k → k ≠ cb := fun k q e => hcP (by rw [← e]; exact q)
  have hPP : ∀ k, k < w.heap.size → P k → (L2.own k = (0, 0) ∧ k ≠ bb ∧ k ≠ cb ∧ k ≠ px ∧ (P k ∨ w.heap.size ≤ k)) := fun k hk q => ⟨(hown2 k hk (hPc k q)).trans (hPo k q), hPb k q, hPc k q, by omega, .inl q⟩
  have hMK : ∀ mv', MvAt w2 (fun k => L2.own k = (0, 0) ∧ k ≠ bb ∧ k ≠ cb ∧ k ≠ px ∧ (P k ∨ w.heap.size ≤ k)) t1.rows mv' → mv = mv' → MidIs w L n t1 bb cb px P b0 w2 L2 mv := fun mv' q e => ⟨⟨hA2, by rw [hs2]; exact hbk2, ho2⟩, by rw [e]; exact q, hp2, po2, hF02, hs2, hown2⟩
  have hRv : (c' = [] ∧ R = -1 ∧ t1.rows = t.rows) ∨ (c' ≠ [] ∧ R = (t.rows.length : Int) ∧ t1.rows = t.rows ++ [some c']) := by
    by_cases q : c' = []
    · subst q; exact .inl ⟨rfl, hR.symm, by rw [← ht1]; rfl⟩
    · refine .inr ⟨q, ?_, by rw [← ht1, addP_rows t q]⟩
      rw [← hR]
      match c', q with
      | [a], _ => rfl
      | a :: b :: s, _ => rfl
  obtain ⟨r, hr, hMr⟩ : ∃ r : Option Nat, mv = .map r ∧ ((r = none ∧ ∀ r : Nat, t.rows[r]? ≠ some none) ∨ ∃ m F, r = some m ∧ SameAt w P (fun _ => True) t.rows m F) := by
    rcases hM with ⟨q1, q2⟩ | ⟨m, F, q1, q2⟩
    · exact ⟨none, q1, .inl ⟨rfl, q2⟩⟩
    · exact ⟨some m, q1, .inr ⟨m, F, rfl, q2⟩⟩
  subst hr
  have hnd' : c'.Nodup := by
    have : c.Nodup := by unfold Asc at hasc; exact hasc.imp (fun q => Nat.ne_of_lt q)
    exact hp.nodup_iff.2 this
  obtain ⟨B, hB⟩ : ∃ B, (r.isSome && decide (c' ≠ [])) = B := ⟨_, rfl⟩
  have HB : Hid ((r.isSome && decide (c' ≠ [])) = B) := hB
  -- where nothing is noted
  have HNO : Hid (B = false → MidIs w L n t1 bb cb px P b0 w2 L2 (.map r)) := fun hBf => by
    refine hMK (.map r) ?_ rfl
    rcases hMr with ⟨rfl, q⟩ | ⟨m, F, rfl, hS⟩
    · refine .inl ⟨rfl, fun k hk => ?_⟩
      rcases hRv with ⟨_, _, e⟩ | ⟨_, _, e⟩
      · rw [e] at hk; exact q k hk
      · rw [e] at hk
        by_cases z : k < t.rows.length
        · rw [List.getElem?_append_left z] at hk; exact q k hk
        · have hb := (List.getElem?_eq_some_iff.1 hk).1
          simp at hb
          have e2 : k = t.rows.length := by omega
          subst e2
          simp at hk
    · have hc0 : c' = [] := by
        rw [hBf] at hB
        simpa using hB
      rcases hRv with ⟨_, _, e⟩ | ⟨z, _, _⟩
      · refine .inr ⟨m, F, rfl, ?_⟩
        rw [e]
        exact hS.fr (fun k hk q => hkeep k hk (hPo k q) (hPc k q)) hPP fun _ _ => Iff.rfl
      · exact absurd hc0 z
  -- where it is
  have HYES : Hid (B = true → ∃ m, r = some m ∧ R = (t.rows.length : Int) ∧ Calls Try.prog 44 #[.pointer (some ⟨bb, 0, none⟩), .int .i32 R] w2 fun e w3 => e = .returned (.tuple #[]) ∧ ∃ L5, MidIs w L n t1 bb cb px P b0 w3 L5 (.map r) ∧ (c' ≠ [] → ∃ m cap, L5.rr[t.rows.length]? = some (.slice (some ⟨cb, 0, none⟩) m cap))) := fun hBt => by
    rw [hBt] at hB
    simp only [Bool.and_eq_true, decide_eq_true_eq] at hB
    rcases hMr with ⟨rfl, _⟩ | ⟨m, F, rfl, hS⟩
    · simp at hB
    rcases hRv with ⟨z, _, _⟩ | ⟨hne, hRe, e⟩
    · exact absurd z hB.2
    refine ⟨m, rfl, hRe, ?_⟩
    subst hRe
    have hget : t1.rows[t.rows.length]? = some (some c') := by rw [e]; simp
    have hkk : ∀ k r', HasKey t.rows k r' ↔ (HasKey t1.rows k r' ∧ r' < t.rows.length) := fun k r' => by
      constructor
      · intro q
        obtain ⟨dd, cc, q1, q2⟩ := q
        exact ⟨⟨dd, cc, by rw [e, List.getElem?_append_left (List.getElem?_eq_some_iff.1 q1).1]; exact q1, q2⟩, (List.getElem?_eq_some_iff.1 q1).1⟩
      · rintro ⟨⟨dd, cc, q1, q2⟩, hl⟩
        rw [e, List.getElem?_append_left hl] at q1
        exact ⟨dd, cc, q1, q2⟩
    have hS1 : SameAt w2 (fun k => L2.own k = (0, 0) ∧ k ≠ bb ∧ k ≠ cb ∧ k ≠ px ∧ (P k ∨ w.heap.size ≤ k)) (fun _ => True) t.rows m F := hS.fr (fun k hk q => hkeep k hk (hPo k q) (hPc k q)) hPP fun _ _ => Iff.rfl
    have hS2 : SameAt w2 (fun k => L2.own k = (0, 0) ∧ k ≠ bb ∧ k ≠ cb ∧ k ≠ px ∧ (P k ∨ w.heap.size ≤ k)) (fun r' => r' < t.rows.length) t1.rows m F := by
      refine ⟨hS1.mp, hS1.pm, hS1.bl, hS1.ap, fun k => ?_⟩
      obtain ⟨l, l1, l2, l3⟩ := hS1.rw_ k
      refine ⟨l, l1, l2, fun r' => ?_⟩
      rw [l3, hkk]
      exact ⟨fun z => z.1, fun z => ⟨z, trivial⟩⟩
    have hnt := note_any w2 L2 n t1 bb m t.rows.length b0 (!b0) F (fun k => L2.own k = (0, 0) ∧ k ≠ bb ∧ k ≠ cb ∧ k ≠ px ∧ (P k ∨ w.heap.size ≤ k)) (fun r' => r' < t.rows.length) c' hA2 (by rw [hs2]; exact hbk2) (fun k q => q.2.1) hS2 hget hnd' (List.length_pos_iff.2 hne) (fun x hx => by have := hlt' x hx; omega) (by omega)
    refine hnt.mono ?_
    rintro e3 w3 ⟨rfl, hf3, F', hS3⟩
    have hsz2 : w.heap.size ≤ w2.heap.size := hF02.size
    have keep3 : ∀ k, k < w2.heap.size → (L2.own k ≠ (0, 0) ∨ k = bb ∨ k = cb ∨ k = px ∨ (¬ P k ∧ k < w.heap.size)) → w3.heap[k]? = w2.heap[k]? := fun k hk q => hf3.block k hk (fun z => by
      rcases q with q | q | q | q | ⟨q1, q2⟩
      · exact q z.1
      · exact z.2.1 q
      · exact z.2.2.1 q
      · exact z.2.2.2.1 q
      · rcases z.2.2.2.2 with y | y
        · exact q1 y
        · omega)
    have hA3 : SAt w3 (nrm L2 w2.heap.size) n t1 := hA2.frl hf3 (fun k q => (Classical.byContradiction fun z => q z : L2.own k = (0, 0) ∧ _).1)
    have hpxne : w3.heap[px]? = some (.cells #[.pointer (some ⟨bb, 0, none⟩)] 40 (0, 0)) := (keep3 px (block_lt hp2) (.inr (.inr (.inr (.inl rfl))))).trans hp2
    have hnew : ∀ k, ((L2.own k = (0, 0) ∧ k ≠ bb ∧ k ≠ cb ∧ k ≠ px ∧ (P k ∨ w.heap.size ≤ k)) ∨ w2.heap.size ≤ k) → ((nrm L2 w2.heap.size).own k = (0, 0) ∧ k ≠ bb ∧ k ≠ cb ∧ k ≠ px ∧ (P k ∨ w.heap.size ≤ k)) := fun k q => by
      rcases q with q | q
      · exact ⟨nrm_zero fun _ => q.1, q.2⟩
      · have h1 := block_lt hbk2
        have h2 := block_lt hp2
        have h3 := block_lt hrow
        exact ⟨nrm_new q, by omega, by omega, by omega, .inr (by omega)⟩
    refine ⟨rfl, nrm L2 w2.heap.size, ⟨⟨hA3, ?_, nrm_zero fun _ => ho2⟩, .inr ⟨m, F', rfl, ?_⟩, hpxne, nrm_zero fun _ => po2, ?_, hs2, fun k hk hc => (nrm_old (Nat.lt_of_lt_of_le hk hsz2)).trans (hown2 k hk hc)⟩, fun _ => hR2 _ rfl⟩
    · show w3.heap[bb]? = some (.cells #[.pointer (some ⟨L2.sb, 0, none⟩), _, _, _] 63 (0, 0))
      rw [keep3 bb (block_lt hbk2) (.inr (.inl rfl)), hs2]
      exact hbk2
    · refine ⟨hS3.mp, ?_, fun k b q => ?_, hS3.ap, fun k => ?_⟩
      · exact hnew m hS3.pm
      · exact hnew b (hS3.bl k b q)
      · obtain ⟨l, l1, l2, l3⟩ := hS3.rw_ k
        refine ⟨l, l1, l2, fun r' => ?_⟩
        rw [l3]
        refine ⟨fun z => ⟨z.1, trivial⟩, fun z => ⟨z.1, ?_⟩⟩
        have := z.1.lt
        rw [e] at this
        simp at this
        omega
    · exact ⟨hf3.os.trans hF02.os, hf3.tape.trans hF02.tape, hf3.output.trans hF02.output, Nat.le_trans hF02.size hf3.size, fun k hk q => (keep3 k (Nat.lt_of_lt_of_le hk hsz2) (.inr (.inr (.inr (.inr ⟨q.2.1, hk⟩))))).trans (hF02.block k hk q)⟩
  rw [hR]
  have c20 : w2.cell? ⟨px, 0, none⟩ = some (.pointer (some ⟨bb, 0, none⟩)) := by rw [block_cell hp2]; rfl
  have c23 : w2.cell? ⟨bb, 3, none⟩ = some (.map r) := by rw [block_cell hbk2]; rfl
  have HRR : Hid (c' ≠ [] → ∃ m cap, L2.rr[t.rows.length]? = some (.slice (some ⟨cb, 0, none⟩) m cap)) := fun hne => by
    rcases hRv with ⟨z, _, _⟩ | ⟨_, z, _⟩
    · exact absurd z hne
    · exact hR2 _ z
  have HRV : Hid _ := hRv
  have HCL : Hid (∀ x ∈ c', x < 2 * n) := hlt'
  have HPW : Hid _ := hpw
  clear h hM hKW hpW hcW cpx hK1 hp1 hrow1 HAD c10 c11 hA2 hX2 hR2 hbk2 ho2 hp2 po2 hF01 hlt1 hown2 hkeep hF02 hPc hPP hMK hMr hF1 hFW hrow htk htk' hW hdd hco2 hcl hlt' hpw
  go_upto_region 3 with fail
  go_cut [22] (fun s wc => s = .bool B ∧ w2 = wc)
  case first =>
    have hBo := HB.out
    cases r with
    | none =>
      simp at hBo
      subst hBo
      go_wp2_with fail
      go_meet
      case rel => exact ⟨rfl, rfl⟩
    | some m =>
      rcases hRv with ⟨z, rfl, _⟩ | ⟨z, rfl, _⟩
      · simp [z] at hBo
        subst hBo
        clear z
        go_wp2_with fail
        go_meet
        case rel => exact ⟨rfl, rfl⟩
      · simp [z] at hBo
        subst hBo
        have hr1 : ((t.rows.length : Int) != -1) = true := by rw [bne_iff_ne]; omega
        clear z
        go_wp2_with fail
        go_meet
        case rel => exact ⟨rfl, rfl⟩
  case rest =>
    obtain ⟨rfl, rfl⟩ := hcut
    go_upto_if 22 with fail
    go_cut [] (fun wc => ∃ L5, Hid (MidIs w L n t1 bb cb px P b0 wc L5 (.map r)) ∧ Hid (c' ≠ [] → ∃ m cap, L5.rr[t.rows.length]? = some (.slice (some ⟨cb, 0, none⟩) m cap)))
    case first =>
      cases B with
      | false =>
        go_wp2_with fail
        go_meet
        case rel => exact ⟨L2, HNO.out (by first | rfl | trivial), HRR⟩
      | true =>
        obtain ⟨m, rfl, rfl, HC⟩ := HYES.out (by first | rfl | trivial)
        go_wp2_with fail
        go_at_call 44
        refine HC.mono ?_
        rintro e w3 ⟨rfl, L5, hM5, hR5⟩
        go_wp2_with fail
        go_meet
        case rel => exact ⟨L5, hM5, hR5⟩
    case rest =>
      clear HNO HYES HRR c20 c23 hB HB
      obtain ⟨L5, HM, HR5⟩ := hcut
      obtain ⟨B5, hB5⟩ : ∃ B5, (b0 && (decide (c'.length = 1) || decide (t.truth.getD (c'.getD 1 0) 0 < 0))) = B5 := ⟨_, rfl⟩
      have HB5 : Hid ((b0 && (decide (c'.length = 1) || decide (t.truth.getD (c'.getD 1 0) 0 < 0))) = B5) := hB5
      have hs5 : L5.sb = L.sb := HM.out.sb
      have tsame := addP_same t c'
      rw [ht1] at tsame
      have hrt : c' ≠ [] → t1.rows[t.rows.length]? = some (some c') := fun q => by rw [← ht1, addP_rows t q]; simp
      have HRT : Hid (c' ≠ [] → t1.rows[t.rows.length]? = some (some c')) := hrt
      have hcell : ∀ (i x : Nat), c'[i]? = some x → wc.cell? ⟨cb, i, none⟩ = some (.int .i32 (x : Int)) := fun i x hx => by
        have hne : c' ≠ [] := fun e => by rw [e] at hx; simp at hx
        obtain ⟨m, cap, hv⟩ := HR5.out hne
        exact (HM.out.bk.at_.rowcell (hrt hne) hv hx).1
      have HCC : Hid (∀ (i x : Nat), c'[i]? = some x → wc.cell? ⟨cb, i, none⟩ = some (.int .i32 (x : Int))) := hcell
      have d1 : wc.drew.cell? ⟨px, 0, none⟩ = some (.pointer (some ⟨bb, 0, none⟩)) := by show wc.cell? _ = _; rw [block_cell HM.out.bx]; rfl
      have d3 : wc.drew.cell? ⟨bb, 0, none⟩ = some (.pointer (some ⟨L.sb, 0, none⟩)) := by show wc.cell? _ = _; rw [block_cell HM.out.bk.bk, hs5]; rfl
      have d2g : wc.drew.cell? ⟨bb, 2, none⟩ = some (.bool (!b0)) := by show wc.cell? _ = _; rw [block_cell HM.out.bk.bk]; rfl
      have d4 : wc.drew.cell? ⟨L.sb, 4, none⟩ = some (.slice (some ⟨L5.tb, 0, none⟩) (2 * n) (2 * n)) := by show wc.cell? _ = _; rw [← hs5]; exact HM.out.bk.at_.cell 4
      have hMd : MidIs w L n t1 bb cb px P b0 wc.drew L5 (.map r) := ⟨⟨HM.out.bk.at_.drew, HM.out.bk.bk, HM.out.bk.ow⟩, HM.out.mv.fr (fun _ _ _ => rfl) (fun _ _ q => q) (RP.refl _), HM.out.bx, HM.out.po, HM.out.fr.drew, HM.out.sb, HM.out.own⟩
      have HMD : Hid (MidIs w L n t1 bb cb px P b0 wc.drew L5 (.map r)) := hMd
      have htruth : ∀ x, x < 2 * n → wc.drew.cell? ⟨L5.tb, x, none⟩ = some (.int .i8 (t.truth.getD x 0)) := fun x hx => by
        have := HM.out.bk.at_.truth hx
        rw [tsame.1] at this
        exact this
      have HTR : Hid (∀ x, x < 2 * n → wc.drew.cell? ⟨L5.tb, x, none⟩ = some (.int .i8 (t.truth.getD x 0))) := htruth
      clear hcell hrt hMd htruth
      go_upto_region 5 with fail
      go_cut [50] (fun s wd => s = .bool B5 ∧ wc.drew = wd)
      case first =>
        have hBo := HB5.out
        cases b0 with
        | false =>
          have d2 : wc.drew.cell? ⟨bb, 2, none⟩ = some (.bool true) := d2g
          simp only [Bool.false_and] at hBo
          subst hBo
          clear hB5 HB5 d2g
          refine wp_region_noPanic ?_
          refine wp_region_held_drew (S := fun w' => w'.cell? ⟨px, 0, none⟩ = some (.pointer (some ⟨bb, 0, none⟩)) ∧ w'.cell? ⟨bb, 2, none⟩ = some (.bool true)) (by kernel_rfl) ⟨d1, d2⟩ (fun hHeld => ?_)
          refine wpAnyH_take (i := 0) (oi := ({ dst := some 26, op := Op.load 40 (Operand.tmp 2), type := 40, pos := _, after := #[], guard := none } : Oper)) (v := ?_) rfl (by kernel_rfl) (by kernel_rfl) (by kernel_rfl) (fun _ _ _ h => h) (Or.inl ⟨by rfl, ?_⟩) hHeld ?_
          rotate_left
          · intro w0 hS0; (try dsimp only at hS0); go_simp; try with_reducible rfl
          try simp only [Act.put, List.setIfInBounds_toArray, List.set_cons_zero, List.set_cons_succ]
          refine wpAnyH_take (i := 1) (oi := ({ dst := some 27, op := Op.nilCheck (Operand.tmp 26), type := 0, pos := _, after := #[{ on := 0, ground := Ground.data }], guard := none } : Oper)) (v := ?_) rfl (by kernel_rfl) (by kernel_rfl) (by kernel_rfl) (fun _ _ _ h => h) (Or.inl ⟨by rfl, ?_⟩) hHeld ?_
          rotate_left
          · intro w0 hS0; (try dsimp only at hS0); go_simp; try with_reducible rfl
          try simp only [Act.put, List.setIfInBounds_toArray, List.set_cons_zero, List.set_cons_succ]
          refine wpAnyH_take (i := 2) (oi := ({ dst := some 28, op := Op.fieldAddr 63 (Operand.tmp 27) 2, type := 0, pos := _, after := #[{ on := 1, ground := Ground.data }], guard := none } : Oper)) (v := ?_) rfl (by kernel_rfl) (by kernel_rfl) (by kernel_rfl) (fun _ _ _ h => h) (Or.inl ⟨by rfl, ?_⟩) hHeld ?_
          rotate_left
          · intro w0 hS0; (try dsimp only at hS0); go_simp; try with_reducible rfl
          try simp only [Act.put, List.setIfInBounds_toArray, List.set_cons_zero, List.set_cons_succ]
          refine wpAnyH_take (i := 3) (oi := ({ dst := some 29, op := Op.load 4 (Operand.tmp 28), type := 4, pos := _, after := #[{ on := 2, ground := Ground.data }], guard := none } : Oper)) (v := ?_) rfl (by kernel_rfl) (by kernel_rfl) (by kernel_rfl) (fun _ _ _ h => h) (Or.inl ⟨by rfl, ?_⟩) hHeld ?_
          rotate_left
          · intro w0 hS0; (try dsimp only at hS0); go_simp; try with_reducible rfl
          try simp only [Act.put, List.setIfInBounds_toArray, List.set_cons_zero, List.set_cons_succ]
          refine wpAnyH_take (i := 4) (oi := ({ dst := some 30, op := Op.unOp UnOp.not 4 (Operand.tmp 29), type := 4, pos := _, after := #[{ on := 3, ground := Ground.data }], guard := none } : Oper)) (v := ?_) rfl (by kernel_rfl) (by kernel_rfl) (by kernel_rfl) (fun _ _ _ h => h) (Or.inl ⟨by rfl, ?_⟩) hHeld ?_
          rotate_left
          · intro w0 hS0; (try dsimp only at hS0); go_simp; try with_reducible rfl
          try simp only [Act.put, List.setIfInBounds_toArray, List.set_cons_zero, List.set_cons_succ]
          refine wpAnyH_take (i := 5) (oi := ({ dst := some 31, op := Op.move (Operand.tmp 30), type := 4, pos := _, after := #[{ on := 4, ground := Ground.data }], guard := none } : Oper)) (v := ?_) rfl (by kernel_rfl) (by kernel_rfl) (by kernel_rfl) (fun _ _ _ h => h) (Or.inl ⟨by rfl, ?_⟩) hHeld ?_
          rotate_left
          · intro w0 hS0; (try dsimp only at hS0); go_simp; try with_reducible rfl
          try simp only [Act.put, List.setIfInBounds_toArray, List.set_cons_zero, List.set_cons_succ]
          refine wpAnyH_take (i := 6) (oi := ({ dst := some 32, op := Op.move (Operand.tmp 1), type := 44, pos := _, after := #[{ on := 5, ground := Ground.guard }], guard := some (5, true) } : Oper)) (v := undef) rfl (by kernel_rfl) (by kernel_rfl) (by kernel_rfl) (fun _ _ _ h => h) (Or.inr ⟨by rfl, rfl⟩) hHeld ?_
          try simp only [Act.put, List.setIfInBounds_toArray, List.set_cons_zero, List.set_cons_succ]
          refine wpAnyH_take (i := 7) (oi := ({ dst := some 33, op := Op.call { callee := Callee.builtin Builtin.len, args := #[Operand.tmp 32], argTypes := #[44] }, type := 3, pos := _, after := #[{ on := 6, ground := Ground.data }, { on := 5, ground := Ground.guard }], guard := some (5, true) } : Oper)) (v := undef) rfl (by kernel_rfl) (by kernel_rfl) (by kernel_rfl) (fun _ _ _ h => h) (Or.inr ⟨by rfl, rfl⟩) hHeld ?_
          try simp only [Act.put, List.setIfInBounds_toArray, List.set_cons_zero, List.set_cons_succ]
          refine wpAnyH_take (i := 8) (oi := ({ dst := some 34, op := Op.binOp BinOp.eql 3 (Operand.tmp 33) (Operand.const (Value.int IntKind.i64 1)) 3, type := 4, pos := _, after := #[{ on := 7, ground := Ground.data }, { on := 5, ground := Ground.guard }], guard := some (5, true) } : Oper)) (v := undef) rfl (by kernel_rfl) (by kernel_rfl) (by kernel_rfl) (fun _ _ _ h => h) (Or.inr ⟨by rfl, rfl⟩) hHeld ?_
          try simp only [Act.put, List.setIfInBounds_toArray, List.set_cons_zero, List.set_cons_succ]
          refine wpAnyH_take (i := 9) (oi := ({ dst := some 35, op := Op.move (Operand.tmp 34), type := 4, pos := _, after := #[{ on := 8, ground := Ground.data }, { on := 5, ground := Ground.chain }, { on := 5, ground := Ground.guard }], guard := some (5, true) } : Oper)) (v := undef) rfl (by kernel_rfl) (by kernel_rfl) (by kernel_rfl) (fun _ _ _ h => h) (Or.inr ⟨by rfl, rfl⟩) hHeld ?_
          try simp only [Act.put, List.setIfInBounds_toArray, List.set_cons_zero, List.set_cons_succ]
          refine wpAnyH_take (i := 10) (oi := ({ dst := some 36, op := Op.load 40 (Operand.tmp 2), type := 40, pos := _, after := #[{ on := 9, ground := Ground.guard }], guard := some (9, false) } : Oper)) (v := undef) rfl (by kernel_rfl) (by kernel_rfl) (by kernel_rfl) (fun _ _ _ h => h) (Or.inr ⟨by rfl, rfl⟩) hHeld ?_
          try simp only [Act.put, List.setIfInBounds_toArray, List.set_cons_zero, List.set_cons_succ]
          refine wpAnyH_take (i := 11) (oi := ({ dst := some 37, op := Op.nilCheck (Operand.tmp 36), type := 0, pos := _, after := #[{ on := 10, ground := Ground.data }, { on := 9, ground := Ground.guard }], guard := some (9, false) } : Oper)) (v := undef) rfl (by kernel_rfl) (by kernel_rfl) (by kernel_rfl) (fun _ _ _ h => h) (Or.inr ⟨by rfl, rfl⟩) hHeld ?_
          try simp only [Act.put, List.setIfInBounds_toArray, List.set_cons_zero, List.set_cons_succ]
          refine wpAnyH_take (i := 12) (oi := ({ dst := some 38, op := Op.fieldAddr 63 (Operand.tmp 37) 0, type := 0, pos := _, after := #[{ on := 11, ground := Ground.data }, { on := 9, ground := Ground.guard }], guard := some (9, false) } : Oper)) (v := undef) rfl (by kernel_rfl) (by kernel_rfl) (by kernel_rfl) (fun _ _ _ h => h) (Or.inr ⟨by rfl, rfl⟩) hHeld ?_
          try simp only [Act.put, List.setIfInBounds_toArray, List.set_cons_zero, List.set_cons_succ]
          refine wpAnyH_take (i := 13) (oi := ({ dst := some 39, op := Op.load 42 (Operand.tmp 38), type := 42, pos := _, after := #[{ on := 12, ground := Ground.data }, { on := 9, ground := Ground.guard }], guard := some (9, false) } : Oper)) (v := undef) rfl (by kernel_rfl) (by kernel_rfl) (by kernel_rfl) (fun _ _ _ h => h) (Or.inr ⟨by rfl, rfl⟩) hHeld ?_
          try simp only [Act.put, List.setIfInBounds_toArray, List.set_cons_zero, List.set_cons_succ]
          refine wpAnyH_take (i := 14) (oi := ({ dst := some 40, op := Op.nilCheck (Operand.tmp 39), type := 0, pos := _, after := #[{ on := 13, ground := Ground.data }, { on := 9, ground := Ground.guard }], guard := some (9, false) } : Oper)) (v := undef) rfl (by kernel_rfl) (by kernel_rfl) (by kernel_rfl) (fun _ _ _ h => h) (Or.inr ⟨by rfl, rfl⟩) hHeld ?_
          try simp only [Act.put, List.setIfInBounds_toArray, List.set_cons_zero, List.set_cons_succ]
          refine wpAnyH_take (i := 15) (oi := ({ dst := some 41, op := Op.fieldAddr 77 (Operand.tmp 40) 4, type := 0, pos := _, after := #[{ on := 14, ground := Ground.data }, { on := 9, ground := Ground.guard }], guard := some (9, false) } : Oper)) (v := undef) rfl (by kernel_rfl) (by kernel_rfl) (by kernel_rfl) (fun _ _ _ h => h) (Or.inr ⟨by rfl, rfl⟩) hHeld ?_
          try simp only [Act.put, List.setIfInBounds_toArray, List.set_cons_zero, List.set_cons_succ]
          refine wpAnyH_take (i := 16) (oi := ({ dst := some 42, op := Op.load 75 (Operand.tmp 41), type := 75, pos := _, after := #[{ on := 15, ground := Ground.data }, { on := 9, ground := Ground.guard }], guard := some (9, false) } : Oper)) (v := undef) rfl (by kernel_rfl) (by kernel_rfl) (by kernel_rfl) (fun _ _ _ h => h) (Or.inr ⟨by rfl, rfl⟩) hHeld ?_
          try simp only [Act.put, List.setIfInBounds_toArray, List.set_cons_zero, List.set_cons_succ]
          refine wpAnyH_take (i := 17) (oi := ({ dst := some 43, op := Op.move (Operand.tmp 1), type := 44, pos := _, after := #[{ on := 9, ground := Ground.guard }], guard := some (9, false) } : Oper)) (v := undef) rfl (by kernel_rfl) (by kernel_rfl) (by kernel_rfl) (fun _ _ _ h => h) (Or.inr ⟨by rfl, rfl⟩) hHeld ?_
          try simp only [Act.put, List.setIfInBounds_toArray, List.set_cons_zero, List.set_cons_succ]
          refine wpAnyH_take (i := 18) (oi := ({ dst := some 44, op := Op.indexAddr 44 (Operand.tmp 43) (Operand.const (Value.int IntKind.i64 1)), type := 0, pos := _, after := #[{ on := 17, ground := Ground.data }, { on := 9, ground := Ground.guard }], guard := some (9, false) } : Oper)) (v := undef) rfl (by kernel_rfl) (by kernel_rfl) (by kernel_rfl) (fun _ _ _ h => h) (Or.inr ⟨by rfl, rfl⟩) hHeld ?_
          try simp only [Act.put, List.setIfInBounds_toArray, List.set_cons_zero, List.set_cons_succ]
          refine wpAnyH_take (i := 19) (oi := ({ dst := some 45, op := Op.load 70 (Operand.tmp 44), type := 70, pos := _, after := #[{ on := 18, ground := Ground.data }, { on := 9, ground := Ground.guard }], guard := some (9, false) } : Oper)) (v := undef) rfl (by kernel_rfl) (by kernel_rfl) (by kernel_rfl) (fun _ _ _ h => h) (Or.inr ⟨by rfl, rfl⟩) hHeld ?_
          try simp only [Act.put, List.setIfInBounds_toArray, List.set_cons_zero, List.set_cons_succ]
          refine wpAnyH_take (i := 20) (oi := ({ dst := some 46, op := Op.indexAddr 75 (Operand.tmp 42) (Operand.tmp 45), type := 0, pos := _, after := #[{ on := 16, ground := Ground.data }, { on := 19, ground := Ground.data }, { on := 9, ground := Ground.guard }], guard := some (9, false) } : Oper)) (v := undef) rfl (by kernel_rfl) (by kernel_rfl) (by kernel_rfl) (fun _ _ _ h => h) (Or.inr ⟨by rfl, rfl⟩) hHeld ?_
          try simp only [Act.put, List.setIfInBounds_toArray, List.set_cons_zero, List.set_cons_succ]
          refine wpAnyH_take (i := 21) (oi := ({ dst := some 47, op := Op.load 84 (Operand.tmp 46), type := 84, pos := _, after := #[{ on := 20, ground := Ground.data }, { on := 9, ground := Ground.guard }], guard := some (9, false) } : Oper)) (v := undef) rfl (by kernel_rfl) (by kernel_rfl) (by kernel_rfl) (fun _ _ _ h => h) (Or.inr ⟨by rfl, rfl⟩) hHeld ?_
          try simp only [Act.put, List.setIfInBounds_toArray, List.set_cons_zero, List.set_cons_succ]
          refine wpAnyH_take (i := 22) (oi := ({ dst := some 48, op := Op.binOp BinOp.lss 84 (Operand.tmp 47) (Operand.const (Value.int IntKind.i8 0)) 84, type := 4, pos := _, after := #[{ on := 21, ground := Ground.data }, { on := 9, ground := Ground.guard }], guard := some (9, false) } : Oper)) (v := undef) rfl (by kernel_rfl) (by kernel_rfl) (by kernel_rfl) (fun _ _ _ h => h) (Or.inr ⟨by rfl, rfl⟩) hHeld ?_
          try simp only [Act.put, List.setIfInBounds_toArray, List.set_cons_zero, List.set_cons_succ]
          refine wpAnyH_take (i := 23) (oi := ({ dst := some 49, op := Op.pick (Operand.tmp 35) (Operand.const (Value.bool true)) (Operand.tmp 48), type := 4, pos := _, after := #[{ on := 9, ground := Ground.data }, { on := 22, ground := Ground.data }, { on := 5, ground := Ground.guard }], guard := some (5, true) } : Oper)) (v := undef) rfl (by kernel_rfl) (by kernel_rfl) (by kernel_rfl) (fun _ _ _ h => h) (Or.inr ⟨by rfl, rfl⟩) hHeld ?_
          try simp only [Act.put, List.setIfInBounds_toArray, List.set_cons_zero, List.set_cons_succ]
          refine wpAnyH_take (i := 24) (oi := ({ dst := some 50, op := Op.pick (Operand.tmp 31) (Operand.tmp 49) (Operand.const (Value.bool false)), type := 4, pos := _, after := #[{ on := 5, ground := Ground.data }, { on := 23, ground := Ground.data }], guard := none } : Oper)) (v := ?_) rfl (by kernel_rfl) (by kernel_rfl) (by kernel_rfl) (fun _ _ _ h => h) (Or.inl ⟨by rfl, ?_⟩) hHeld ?_
          rotate_left
          · intro w0 hS0; (try dsimp only at hS0); go_simp; try with_reducible rfl
          refine wpAnyH_done (by kernel_rfl) ?_ _
          refine NoPanic.normal ?_
          go_wp2_with fail
          go_meet
          case rel => exact ⟨rfl, rfl⟩
        | true =>
          have d2 : wc.drew.cell? ⟨bb, 2, none⟩ = some (.bool false) := d2g
          have hne : c' ≠ [] := fun e => hce rfl (by rw [e] at hp; exact List.nil_perm.1 hp)
          clear d2g
          match c', hne, hcl', hBo with
          | [x1], _, hcl', hBo =>
            have hlen : ((c.length : Int) == 1) = true := by rw [← hcl']; rfl
            simp at hBo
            subst hBo
            refine wp_region_noPanic ?_
            refine wp_region_held_drew (S := fun w' => w'.cell? ⟨px, 0, none⟩ = some (.pointer (some ⟨bb, 0, none⟩)) ∧ w'.cell? ⟨bb, 2, none⟩ = some (.bool false)) (by kernel_rfl) ⟨d1, d2⟩ (fun hHeld => ?_)
            refine wpAnyH_take (i := 0) (oi := ({ dst := some 26, op := Op.load 40 (Operand.tmp 2), type := 40, pos := _, after := #[], guard := none } : Oper)) (v := ?_) rfl (by kernel_rfl) (by kernel_rfl) (by kernel_rfl) (fun _ _ _ h => h) (Or.inl ⟨by rfl, ?_⟩) hHeld ?_
            rotate_left
            · intro w0 hS0; (try dsimp only at hS0); go_simp; try with_reducible rfl
            try simp only [Act.put, List.setIfInBounds_toArray, List.set_cons_zero, List.set_cons_succ]
            refine wpAnyH_take (i := 1) (oi := ({ dst := some 27, op := Op.nilCheck (Operand.tmp 26), type := 0, pos := _, after := #[{ on := 0, ground := Ground.data }], guard := none } : Oper)) (v := ?_) rfl (by kernel_rfl) (by kernel_rfl) (by kernel_rfl) (fun _ _ _ h => h) (Or.inl ⟨by rfl, ?_⟩) hHeld ?_
            rotate_left
            · intro w0 hS0; (try dsimp only at hS0); go_simp; try with_reducible rfl
            try simp only [Act.put, List.setIfInBounds_toArray, List.set_cons_zero, List.set_cons_succ]
            refine wpAnyH_take (i := 2) (oi := ({ dst := some 28, op := Op.fieldAddr 63 (Operand.tmp 27) 2, type := 0, pos := _, after := #[{ on := 1, ground := Ground.data }], guard := none } : Oper)) (v := ?_) rfl (by kernel_rfl) (by kernel_rfl) (by kernel_rfl) (fun _ _ _ h => h) (Or.inl ⟨by rfl, ?_⟩) hHeld ?_
            rotate_left
            · intro w0 hS0; (try dsimp only at hS0); go_simp; try with_reducible rfl
            try simp only [Act.put, List.setIfInBounds_toArray, List.set_cons_zero, List.set_cons_succ]
            refine wpAnyH_take (i := 3) (oi := ({ dst := some 29, op := Op.load 4 (Operand.tmp 28), type := 4, pos := _, after := #[{ on := 2, ground := Ground.data }], guard := none } : Oper)) (v := ?_) rfl (by kernel_rfl) (by kernel_rfl) (by kernel_rfl) (fun _ _ _ h => h) (Or.inl ⟨by rfl, ?_⟩) hHeld ?_
            rotate_left
            · intro w0 hS0; (try dsimp only at hS0); go_simp; try with_reducible rfl
            try simp only [Act.put, List.setIfInBounds_toArray, List.set_cons_zero, List.set_cons_succ]
            refine wpAnyH_take (i := 4) (oi := ({ dst := some 30, op := Op.unOp UnOp.not 4 (Operand.tmp 29), type := 4, pos := _, after := #[{ on := 3, ground := Ground.data }], guard := none } : Oper)) (v := ?_) rfl (by kernel_rfl) (by kernel_rfl) (by kernel_rfl) (fun _ _ _ h => h) (Or.inl ⟨by rfl, ?_⟩) hHeld ?_
            rotate_left
            · intro w0 hS0; (try dsimp only at hS0); go_simp; try with_reducible rfl
            try simp only [Act.put, List.setIfInBounds_toArray, List.set_cons_zero, List.set_cons_succ]
            refine wpAnyH_take (i := 5) (oi := ({ dst := some 31, op := Op.move (Operand.tmp 30), type := 4, pos := _, after := #[{ on := 4, ground := Ground.data }], guard := none } : Oper)) (v := ?_) rfl (by kernel_rfl) (by kernel_rfl) (by kernel_rfl) (fun _ _ _ h => h) (Or.inl ⟨by rfl, ?_⟩) hHeld ?_
            rotate_left
            · intro w0 hS0; (try dsimp only at hS0); go_simp; try with_reducible rfl
            try simp only [Act.put, List.setIfInBounds_toArray, List.set_cons_zero, List.set_cons_succ]
            refine wpAnyH_take (i := 6) (oi := ({ dst := some 32, op := Op.move (Operand.tmp 1), type := 44, pos := _, after := #[{ on := 5, ground := Ground.guard }], guard := some (5, true) } : Oper)) (v := ?_) rfl (by kernel_rfl) (by kernel_rfl) (by kernel_rfl) (fun _ _ _ h => h) (Or.inl ⟨by rfl, ?_⟩) hHeld ?_
            rotate_left
            · intro w0 hS0; (try dsimp only at hS0); go_simp; try with_reducible rfl
            try simp only [Act.put, List.setIfInBounds_toArray, List.set_cons_zero, List.set_cons_succ]
            refine wpAnyH_take (i := 7) (oi := ({ dst := some 33, op := Op.call { callee := Callee.builtin Builtin.len, args := #[Operand.tmp 32], argTypes := #[44] }, type := 3, pos := _, after := #[{ on := 6, ground := Ground.data }, { on := 5, ground := Ground.guard }], guard := some (5, true) } : Oper)) (v := ?_) rfl (by kernel_rfl) (by kernel_rfl) (by kernel_rfl) (fun _ _ _ h => h) (Or.inl ⟨by rfl, ?_⟩) hHeld ?_
            rotate_left
            · intro w0 hS0; (try dsimp only at hS0); go_simp; try with_reducible rfl
            try simp only [Act.put, List.setIfInBounds_toArray, List.set_cons_zero, List.set_cons_succ]
            refine wpAnyH_take (i := 8) (oi := ({ dst := some 34, op := Op.binOp BinOp.eql 3 (Operand.tmp 33) (Operand.const (Value.int IntKind.i64 1)) 3, type := 4, pos := _, after := #[{ on := 7, ground := Ground.data }, { on := 5, ground := Ground.guard }], guard := some (5, true) } : Oper)) (v := ?_) rfl (by kernel_rfl) (by kernel_rfl) (by kernel_rfl) (fun _ _ _ h => h) (Or.inl ⟨by rfl, ?_⟩) hHeld ?_
            rotate_left
            · intro w0 hS0; (try dsimp only at hS0); go_simp; try with_reducible rfl
            try simp only [Act.put, List.setIfInBounds_toArray, List.set_cons_zero, List.set_cons_succ]
            refine wpAnyH_take (i := 9) (oi := ({ dst := some 35, op := Op.move (Operand.tmp 34), type := 4, pos := _, after := #[{ on := 8, ground := Ground.data }, { on := 5, ground := Ground.chain }, { on := 5, ground := Ground.guard }], guard := some (5, true) } : Oper)) (v := ?_) rfl (by kernel_rfl) (by kernel_rfl) (by kernel_rfl) (fun _ _ _ h => h) (Or.inl ⟨by rfl, ?_⟩) hHeld ?_
            rotate_left
            · intro w0 hS0; (try dsimp only at hS0); go_simp; try with_reducible rfl
            try simp only [Act.put, List.setIfInBounds_toArray, List.set_cons_zero, List.set_cons_succ]
            refine wpAnyH_take (i := 10) (oi := ({ dst := some 36, op := Op.load 40 (Operand.tmp 2), type := 40, pos := _, after := #[{ on := 9, ground := Ground.guard }], guard := some (9, false) } : Oper)) (v := undef) rfl (by kernel_rfl) (by kernel_rfl) (by kernel_rfl) (fun _ _ _ h => h) (Or.inr ⟨by rfl, rfl⟩) hHeld ?_
            try simp only [Act.put, List.setIfInBounds_toArray, List.set_cons_zero, List.set_cons_succ]
            refine wpAnyH_take (i := 11) (oi := ({ dst := some 37, op := Op.nilCheck (Operand.tmp 36), type := 0, pos := _, after := #[{ on := 10, ground := Ground.data }, { on := 9, ground := Ground.guard }], guard := some (9, false) } : Oper)) (v := undef) rfl (by kernel_rfl) (by kernel_rfl) (by kernel_rfl) (fun _ _ _ h => h) (Or.inr ⟨by rfl, rfl⟩) hHeld ?_
            try simp only [Act.put, List.setIfInBounds_toArray, List.set_cons_zero, List.set_cons_succ]
            refine wpAnyH_take (i := 12) (oi := ({ dst := some 38, op := Op.fieldAddr 63 (Operand.tmp 37) 0, type := 0, pos := _, after := #[{ on := 11, ground := Ground.data }, { on := 9, ground := Ground.guard }], guard := some (9, false) } : Oper)) (v := undef) rfl (by kernel_rfl) (by kernel_rfl) (by kernel_rfl) (fun _ _ _ h => h) (Or.inr ⟨by rfl, rfl⟩) hHeld ?_
            try simp only [Act.put, List.setIfInBounds_toArray, List.set_cons_zero, List.set_cons_succ]
            refine wpAnyH_take (i := 13) (oi := ({ dst := some 39, op := Op.load 42 (Operand.tmp 38), type := 42, pos := _, after := #[{ on := 12, ground := Ground.data }, { on := 9, ground := Ground.guard }], guard := some (9, false) } : Oper)) (v := undef) rfl (by kernel_rfl) (by kernel_rfl) (by kernel_rfl) (fun _ _ _ h => h) (Or.inr ⟨by rfl, rfl⟩) hHeld ?_
            try simp only [Act.put, List.setIfInBounds_toArray, List.set_cons_zero, List.set_cons_succ]
            refine wpAnyH_take (i := 14) (oi := ({ dst := some 40, op := Op.nilCheck (Operand.tmp 39), type := 0, pos := _, after := #[{ on := 13, ground := Ground.data }, { on := 9, ground := Ground.guard }], guard := some (9, false) } : Oper)) (v := undef) rfl (by kernel_rfl) (by kernel_rfl) (by kernel_rfl) (fun _ _ _ h => h) (Or.inr ⟨by rfl, rfl⟩) hHeld ?_
            try simp only [Act.put, List.setIfInBounds_toArray, List.set_cons_zero, List.set_cons_succ]
            refine wpAnyH_take (i := 15) (oi := ({ dst := some 41, op := Op.fieldAddr 77 (Operand.tmp 40) 4, type := 0, pos := _, after := #[{ on := 14, ground := Ground.data }, { on := 9, ground := Ground.guard }], guard := some (9, false) } : Oper)) (v := undef) rfl (by kernel_rfl) (by kernel_rfl) (by kernel_rfl) (fun _ _ _ h => h) (Or.inr ⟨by rfl, rfl⟩) hHeld ?_
            try simp only [Act.put, List.setIfInBounds_toArray, List.set_cons_zero, List.set_cons_succ]
            refine wpAnyH_take (i := 16) (oi := ({ dst := some 42, op := Op.load 75 (Operand.tmp 41), type := 75, pos := _, after := #[{ on := 15, ground := Ground.data }, { on := 9, ground := Ground.guard }], guard := some (9, false) } : Oper)) (v := undef) rfl (by kernel_rfl) (by kernel_rfl) (by kernel_rfl) (fun _ _ _ h => h) (Or.inr ⟨by rfl, rfl⟩) hHeld ?_
            try simp only [Act.put, List.setIfInBounds_toArray, List.set_cons_zero, List.set_cons_succ]
            refine wpAnyH_take (i := 17) (oi := ({ dst := some 43, op := Op.move (Operand.tmp 1), type := 44, pos := _, after := #[{ on := 9, ground := Ground.guard }], guard := some (9, false) } : Oper)) (v := undef) rfl (by kernel_rfl) (by kernel_rfl) (by kernel_rfl) (fun _ _ _ h => h) (Or.inr ⟨by rfl, rfl⟩) hHeld ?_
            try simp only [Act.put, List.setIfInBounds_toArray, List.set_cons_zero, List.set_cons_succ]
            refine wpAnyH_take (i := 18) (oi := ({ dst := some 44, op := Op.indexAddr 44 (Operand.tmp 43) (Operand.const (Value.int IntKind.i64 1)), type := 0, pos := _, after := #[{ on := 17, ground := Ground.data }, { on := 9, ground := Ground.guard }], guard := some (9, false) } : Oper)) (v := undef) rfl (by kernel_rfl) (by kernel_rfl) (by kernel_rfl) (fun _ _ _ h => h) (Or.inr ⟨by rfl, rfl⟩) hHeld ?_
            try simp only [Act.put, List.setIfInBounds_toArray, List.set_cons_zero, List.set_cons_succ]
            refine wpAnyH_take (i := 19) (oi := ({ dst := some 45, op := Op.load 70 (Operand.tmp 44), type := 70, pos := _, after := #[{ on := 18, ground := Ground.data }, { on := 9, ground := Ground.guard }], guard := some (9, false) } : Oper)) (v := undef) rfl (by kernel_rfl) (by kernel_rfl) (by kernel_rfl) (fun _ _ _ h => h) (Or.inr ⟨by rfl, rfl⟩) hHeld ?_
            try simp only [Act.put, List.setIfInBounds_toArray, List.set_cons_zero, List.set_cons_succ]
            refine wpAnyH_take (i := 20) (oi := ({ dst := some 46, op := Op.indexAddr 75 (Operand.tmp 42) (Operand.tmp 45), type := 0, pos := _, after := #[{ on := 16, ground := Ground.data }, { on := 19, ground := Ground.data }, { on := 9, ground := Ground.guard }], guard := some (9, false) } : Oper)) (v := undef) rfl (by kernel_rfl) (by kernel_rfl) (by kernel_rfl) (fun _ _ _ h => h) (Or.inr ⟨by rfl, rfl⟩) hHeld ?_
            try simp only [Act.put, List.setIfInBounds_toArray, List.set_cons_zero, List.set_cons_succ]
            refine wpAnyH_take (i := 21) (oi := ({ dst := some 47, op := Op.load 84 (Operand.tmp 46), type := 84, pos := _, after := #[{ on := 20, ground := Ground.data }, { on := 9, ground := Ground.guard }], guard := some (9, false) } : Oper)) (v := undef) rfl (by kernel_rfl) (by kernel_rfl) (by kernel_rfl) (fun _ _ _ h => h) (Or.inr ⟨by rfl, rfl⟩) hHeld ?_
            try simp only [Act.put, List.setIfInBounds_toArray, List.set_cons_zero, List.set_cons_succ]
            refine wpAnyH_take (i := 22) (oi := ({ dst := some 48, op := Op.binOp BinOp.lss 84 (Operand.tmp 47) (Operand.const (Value.int IntKind.i8 0)) 84, type := 4, pos := _, after := #[{ on := 21, ground := Ground.data }, { on := 9, ground := Ground.guard }], guard := some (9, false) } : Oper)) (v := undef) rfl (by kernel_rfl) (by kernel_rfl) (by kernel_rfl) (fun _ _ _ h => h) (Or.inr ⟨by rfl, rfl⟩) hHeld ?_
            try simp only [Act.put, List.setIfInBounds_toArray, List.set_cons_zero, List.set_cons_succ]
            refine wpAnyH_take (i := 23) (oi := ({ dst := some 49, op := Op.pick (Operand.tmp 35) (Operand.const (Value.bool true)) (Operand.tmp 48), type := 4, pos := _, after := #[{ on := 9, ground := Ground.data }, { on := 22, ground := Ground.data }, { on := 5, ground := Ground.guard }], guard := some (5, true) } : Oper)) (v := ?_) rfl (by kernel_rfl) (by kernel_rfl) (by kernel_rfl) (fun _ _ _ h => h) (Or.inl ⟨by rfl, ?_⟩) hHeld ?_
            rotate_left
            · intro w0 hS0; (try dsimp only at hS0); go_simp; try with_reducible rfl
            try simp only [Act.put, List.setIfInBounds_toArray, List.set_cons_zero, List.set_cons_succ]
            refine wpAnyH_take (i := 24) (oi := ({ dst := some 50, op := Op.pick (Operand.tmp 31) (Operand.tmp 49) (Operand.const (Value.bool false)), type := 4, pos := _, after := #[{ on := 5, ground := Ground.data }, { on := 23, ground := Ground.data }], guard := none } : Oper)) (v := ?_) rfl (by kernel_rfl) (by kernel_rfl) (by kernel_rfl) (fun _ _ _ h => h) (Or.inl ⟨by rfl, ?_⟩) hHeld ?_
            rotate_left
            · intro w0 hS0; (try dsimp only at hS0); go_simp; try with_reducible rfl
            refine wpAnyH_done (by kernel_rfl) ?_ _
            refine NoPanic.normal ?_
            go_wp2_with fail
            go_meet
            case rel => exact ⟨rfl, rfl⟩
          | x1 :: x2 :: s, _, hcl', hBo =>
            have hlen : ((c.length : Int) == 1) = false := by rw [← hcl', beq_eq_false_iff_ne]; simp; omega
            have hlen2 : (1 : Int) < (c.length : Int) := by rw [← hcl']; simp; omega
            have hx2 : x2 < 2 * n := HCL.out x2 (by simp)
            have d5 : wc.drew.cell? ⟨cb, 1, none⟩ = some (.int .i32 (x2 : Int)) := HCC.out 1 x2 rfl
            have d6 := HTR.out x2 hx2
            obtain ⟨T2, hT2⟩ : ∃ T2, t.truth.getD x2 0 = T2 := ⟨_, rfl⟩
            rw [hT2] at d6
            have hBo2 : decide (T2 < 0) = B5 := by
              rw [← hBo, ← hT2]
              simp
            subst hBo2
            have y1 : (x2 : Int) < 2 * (n : Int) := by omega
            have y2 : (x2 : Int) < ((2 * n : Nat) : Int) := by omega
            clear hBo hT2 hB5 HB5 hx2 hcl'
            refine wp_region_noPanic ?_
            refine wp_region_held_drew (S := fun w' => w'.cell? ⟨px, 0, none⟩ = some (.pointer (some ⟨bb, 0, none⟩)) ∧ w'.cell? ⟨bb, 2, none⟩ = some (.bool false) ∧ w'.cell? ⟨bb, 0, none⟩ = some (.pointer (some ⟨L.sb, 0, none⟩)) ∧ w'.cell? ⟨L.sb, 4, none⟩ = some (.slice (some ⟨L5.tb, 0, none⟩) (2 * n) (2 * n)) ∧ w'.cell? ⟨cb, 1, none⟩ = some (.int .i32 (x2 : Int)) ∧ w'.cell? ⟨L5.tb, x2, none⟩ = some (.int .i8 T2)) (by kernel_rfl) ⟨d1, d2, d3, d4, d5, d6⟩ (fun hHeld => ?_)
            refine wpAnyH_take (i := 0) (oi := ({ dst := some 26, op := Op.load 40 (Operand.tmp 2), type := 40, pos := _, after := #[], guard := none } : Oper)) (v := ?_) rfl (by kernel_rfl) (by kernel_rfl) (by kernel_rfl) (fun _ _ _ h => h) (Or.inl ⟨by rfl, ?_⟩) hHeld ?_
            rotate_left
            · intro w0 hS0; (try dsimp only at hS0); go_simp; try with_reducible rfl
            try simp only [Act.put, List.setIfInBounds_toArray, List.set_cons_zero, List.set_cons_succ]
            refine wpAnyH_take (i := 1) (oi := ({ dst := some 27, op := Op.nilCheck (Operand.tmp 26), type := 0, pos := _, after := #[{ on := 0, ground := Ground.data }], guard := none } : Oper)) (v := ?_) rfl (by kernel_rfl) (by kernel_rfl) (by kernel_rfl) (fun _ _ _ h => h) (Or.inl ⟨by rfl, ?_⟩) hHeld ?_
            rotate_left
            · intro w0 hS0; (try dsimp only at hS0); go_simp; try with_reducible rfl
            try simp only [Act.put, List.setIfInBounds_toArray, List.set_cons_zero, List.set_cons_succ]
            refine wpAnyH_take (i := 2) (oi := ({ dst := some 28, op := Op.fieldAddr 63 (Operand.tmp 27) 2, type := 0, pos := _, after := #[{ on := 1, ground := Ground.data }], guard := none } : Oper)) (v := ?_) rfl (by kernel_rfl) (by kernel_rfl) (by kernel_rfl) (fun _ _ _ h => h) (Or.inl ⟨by rfl, ?_⟩) hHeld ?_
            rotate_left
            · intro w0 hS0; (try dsimp only at hS0); go_simp; try with_reducible rfl
            try simp only [Act.put, List.setIfInBounds_toArray, List.set_cons_zero, List.set_cons_succ]
            refine wpAnyH_take (i := 3) (oi := ({ dst := some 29, op := Op.load 4 (Operand.tmp 28), type := 4, pos := _, after := #[{ on := 2, ground := Ground.data }], guard := none } : Oper)) (v := ?_) rfl (by kernel_rfl) (by kernel_rfl) (by kernel_rfl) (fun _ _ _ h => h) (Or.inl ⟨by rfl, ?_⟩) hHeld ?_
            rotate_left
            · intro w0 hS0; (try dsimp only at hS0); go_simp; try with_reducible rfl
            try simp only [Act.put, List.setIfInBounds_toArray, List.set_cons_zero, List.set_cons_succ]
            refine wpAnyH_take (i := 4) (oi := ({ dst := some 30, op := Op.unOp UnOp.not 4 (Operand.tmp 29), type := 4, pos := _, after := #[{ on := 3, ground := Ground.data }], guard := none } : Oper)) (v := ?_) rfl (by kernel_rfl) (by kernel_rfl) (by kernel_rfl) (fun _ _ _ h => h) (Or.inl ⟨by rfl, ?_⟩) hHeld ?_
            rotate_left
            · intro w0 hS0; (try dsimp only at hS0); go_simp; try with_reducible rfl
            try simp only [Act.put, List.setIfInBounds_toArray, List.set_cons_zero, List.set_cons_succ]
            refine wpAnyH_take (i := 5) (oi := ({ dst := some 31, op := Op.move (Operand.tmp 30), type := 4, pos := _, after := #[{ on := 4, ground := Ground.data }], guard := none } : Oper)) (v := ?_) rfl (by kernel_rfl) (by kernel_rfl) (by kernel_rfl) (fun _ _ _ h => h) (Or.inl ⟨by rfl, ?_⟩) hHeld ?_
            rotate_left
            · intro w0 hS0; (try dsimp only at hS0); go_simp; try with_reducible rfl
            try simp only [Act.put, List.setIfInBounds_toArray, List.set_cons_zero, List.set_cons_succ]
            refine wpAnyH_take (i := 6) (oi := ({ dst := some 32, op := Op.move (Operand.tmp 1), type := 44, pos := _, after := #[{ on := 5, ground := Ground.guard }], guard := some (5, true) } : Oper)) (v := ?_) rfl (by kernel_rfl) (by kernel_rfl) (by kernel_rfl) (fun _ _ _ h => h) (Or.inl ⟨by rfl, ?_⟩) hHeld ?_
            rotate_left
            · intro w0 hS0; (try dsimp only at hS0); go_simp; try with_reducible rfl
            try simp only [Act.put, List.setIfInBounds_toArray, List.set_cons_zero, List.set_cons_succ]
            refine wpAnyH_take (i := 7) (oi := ({ dst := some 33, op := Op.call { callee := Callee.builtin Builtin.len, args := #[Operand.tmp 32], argTypes := #[44] }, type := 3, pos := _, after := #[{ on := 6, ground := Ground.data }, { on := 5, ground := Ground.guard }], guard := some (5, true) } : Oper)) (v := ?_) rfl (by kernel_rfl) (by kernel_rfl) (by kernel_rfl) (fun _ _ _ h => h) (Or.inl ⟨by rfl, ?_⟩) hHeld ?_
            rotate_left
            · intro w0 hS0; (try dsimp only at hS0); go_simp; try with_reducible rfl
            try simp only [Act.put, List.setIfInBounds_toArray, List.set_cons_zero, List.set_cons_succ]
            refine wpAnyH_take (i := 8) (oi := ({ dst := some 34, op := Op.binOp BinOp.eql 3 (Operand.tmp 33) (Operand.const (Value.int IntKind.i64 1)) 3, type := 4, pos := _, after := #[{ on := 7, ground := Ground.data }, { on := 5, ground := Ground.guard }], guard := some (5, true) } : Oper)) (v := ?_) rfl (by kernel_rfl) (by kernel_rfl) (by kernel_rfl) (fun _ _ _ h => h) (Or.inl ⟨by rfl, ?_⟩) hHeld ?_
            rotate_left
            · intro w0 hS0; (try dsimp only at hS0); go_simp; try with_reducible rfl
            try simp only [Act.put, List.setIfInBounds_toArray, List.set_cons_zero, List.set_cons_succ]
            refine wpAnyH_take (i := 9) (oi := ({ dst := some 35, op := Op.move (Operand.tmp 34), type := 4, pos := _, after := #[{ on := 8, ground := Ground.data }, { on := 5, ground := Ground.chain }, { on := 5, ground := Ground.guard }], guard := some (5, true) } : Oper)) (v := ?_) rfl (by kernel_rfl) (by kernel_rfl) (by kernel_rfl) (fun _ _ _ h => h) (Or.inl ⟨by rfl, ?_⟩) hHeld ?_
            rotate_left
            · intro w0 hS0; (try dsimp only at hS0); go_simp; try with_reducible rfl
            try simp only [Act.put, List.setIfInBounds_toArray, List.set_cons_zero, List.set_cons_succ]
            refine wpAnyH_take (i := 10) (oi := ({ dst := some 36, op := Op.load 40 (Operand.tmp 2), type := 40, pos := _, after := #[{ on := 9, ground := Ground.guard }], guard := some (9, false) } : Oper)) (v := ?_) rfl (by kernel_rfl) (by kernel_rfl) (by kernel_rfl) (fun _ _ _ h => h) (Or.inl ⟨by rfl, ?_⟩) hHeld ?_
            rotate_left
            · intro w0 hS0; (try dsimp only at hS0); go_simp; try with_reducible rfl
            try simp only [Act.put, List.setIfInBounds_toArray, List.set_cons_zero, List.set_cons_succ]
            refine wpAnyH_take (i := 11) (oi := ({ dst := some 37, op := Op.nilCheck (Operand.tmp 36), type := 0, pos := _, after := #[{ on := 10, ground := Ground.data }, { on := 9, ground := Ground.guard }], guard := some (9, false) } : Oper)) (v := ?_) rfl (by kernel_rfl) (by kernel_rfl) (by kernel_rfl) (fun _ _ _ h => h) (Or.inl ⟨by rfl, ?_⟩) hHeld ?_
            rotate_left
            · intro w0 hS0; (try dsimp only at hS0); go_simp; try with_reducible rfl
            try simp only [Act.put, List.setIfInBounds_toArray, List.set_cons_zero, List.set_cons_succ]
            refine wpAnyH_take (i := 12) (oi := ({ dst := some 38, op := Op.fieldAddr 63 (Operand.tmp 37) 0, type := 0, pos := _, after := #[{ on := 11, ground := Ground.data }, { on := 9, ground := Ground.guard }], guard := some (9, false) } : Oper)) (v := ?_) rfl (by kernel_rfl) (by kernel_rfl) (by kernel_rfl) (fun _ _ _ h => h) (Or.inl ⟨by rfl, ?_⟩) hHeld ?_
            rotate_left
            · intro w0 hS0; (try dsimp only at hS0); go_simp; try with_reducible rfl
            try simp only [Act.put, List.setIfInBounds_toArray, List.set_cons_zero, List.set_cons_succ]
            refine wpAnyH_take (i := 13) (oi := ({ dst := some 39, op := Op.load 42 (Operand.tmp 38), type := 42, pos := _, after := #[{ on := 12, ground := Ground.data }, { on := 9, ground := Ground.guard }], guard := some (9, false) } : Oper)) (v := ?_) rfl (by kernel_rfl) (by kernel_rfl) (by kernel_rfl) (fun _ _ _ h => h) (Or.inl ⟨by rfl, ?_⟩) hHeld ?_
            rotate_left
            · intro w0 hS0; (try dsimp only at hS0); go_simp; try with_reducible rfl
            try simp only [Act.put, List.setIfInBounds_toArray, List.set_cons_zero, List.set_cons_succ]
            refine wpAnyH_take (i := 14) (oi := ({ dst := some 40, op := Op.nilCheck (Operand.tmp 39), type := 0, pos := _, after := #[{ on := 13, ground := Ground.data }, { on := 9, ground := Ground.guard }], guard := some (9, false) } : Oper)) (v := ?_) rfl (by kernel_rfl) (by kernel_rfl) (by kernel_rfl) (fun _ _ _ h => h) (Or.inl ⟨by rfl, ?_⟩) hHeld ?_
            rotate_left
            · intro w0 hS0; (try dsimp only at hS0); go_simp; try with_reducible rfl
            try simp only [Act.put, List.setIfInBounds_toArray, List.set_cons_zero, List.set_cons_succ]
            refine wpAnyH_take (i := 15) (oi := ({ dst := some 41, op := Op.fieldAddr 77 (Operand.tmp 40) 4, type := 0, pos := _, after := #[{ on := 14, ground := Ground.data }, { on := 9, ground := Ground.guard }], guard := some (9, false) } : Oper)) (v := ?_) rfl (by kernel_rfl) (by kernel_rfl) (by kernel_rfl) (fun _ _ _ h => h) (Or.inl ⟨by rfl, ?_⟩) hHeld ?_
            rotate_left
            · intro w0 hS0; (try dsimp only at hS0); go_simp; try with_reducible rfl
            try simp only [Act.put, List.setIfInBounds_toArray, List.set_cons_zero, List.set_cons_succ]
            refine wpAnyH_take (i := 16) (oi := ({ dst := some 42, op := Op.load 75 (Operand.tmp 41), type := 75, pos := _, after := #[{ on := 15, ground := Ground.data }, { on := 9, ground := Ground.guard }], guard := some (9, false) } : Oper)) (v := ?_) rfl (by kernel_rfl) (by kernel_rfl) (by kernel_rfl) (fun _ _ _ h => h) (Or.inl ⟨by rfl, ?_⟩) hHeld ?_
            rotate_left
            · intro w0 hS0; (try dsimp only at hS0); go_simp; try with_reducible rfl
            try simp only [Act.put, List.setIfInBounds_toArray, List.set_cons_zero, List.set_cons_succ]
            refine wpAnyH_take (i := 17) (oi := ({ dst := some 43, op := Op.move (Operand.tmp 1), type := 44, pos := _, after := #[{ on := 9, ground := Ground.guard }], guard := some (9, false) } : Oper)) (v := ?_) rfl (by kernel_rfl) (by kernel_rfl) (by kernel_rfl) (fun _ _ _ h => h) (Or.inl ⟨by rfl, ?_⟩) hHeld ?_
            rotate_left
            · intro w0 hS0; (try dsimp only at hS0); go_simp; try with_reducible rfl
            try simp only [Act.put, List.setIfInBounds_toArray, List.set_cons_zero, List.set_cons_succ]
            refine wpAnyH_take (i := 18) (oi := ({ dst := some 44, op := Op.indexAddr 44 (Operand.tmp 43) (Operand.const (Value.int IntKind.i64 1)), type := 0, pos := _, after := #[{ on := 17, ground := Ground.data }, { on := 9, ground := Ground.guard }], guard := some (9, false) } : Oper)) (v := ?_) rfl (by kernel_rfl) (by kernel_rfl) (by kernel_rfl) (fun _ _ _ h => h) (Or.inl ⟨by rfl, ?_⟩) hHeld ?_
            rotate_left
            · intro w0 hS0; (try dsimp only at hS0); go_simp; try with_reducible rfl
            try simp only [Act.put, List.setIfInBounds_toArray, List.set_cons_zero, List.set_cons_succ]
            refine wpAnyH_take (i := 19) (oi := ({ dst := some 45, op := Op.load 70 (Operand.tmp 44), type := 70, pos := _, after := #[{ on := 18, ground := Ground.data }, { on := 9, ground := Ground.guard }], guard := some (9, false) } : Oper)) (v := ?_) rfl (by kernel_rfl) (by kernel_rfl) (by kernel_rfl) (fun _ _ _ h => h) (Or.inl ⟨by rfl, ?_⟩) hHeld ?_
            rotate_left
            · intro w0 hS0; (try dsimp only at hS0); go_simp; try with_reducible rfl
            try simp only [Act.put, List.setIfInBounds_toArray, List.set_cons_zero, List.set_cons_succ]
            refine wpAnyH_take (i := 20) (oi := ({ dst := some 46, op := Op.indexAddr 75 (Operand.tmp 42) (Operand.tmp 45), type := 0, pos := _, after := #[{ on := 16, ground := Ground.data }, { on := 19, ground := Ground.data }, { on := 9, ground := Ground.guard }], guard := some (9, false) } : Oper)) (v := ?_) rfl (by kernel_rfl) (by kernel_rfl) (by kernel_rfl) (fun _ _ _ h => h) (Or.inl ⟨by rfl, ?_⟩) hHeld ?_
            rotate_left
            · intro w0 hS0; (try dsimp only at hS0); go_simp; try with_reducible rfl
            try simp only [Act.put, List.setIfInBounds_toArray, List.set_cons_zero, List.set_cons_succ]
            refine wpAnyH_take (i := 21) (oi := ({ dst := some 47, op := Op.load 84 (Operand.tmp 46), type := 84, pos := _, after := #[{ on := 20, ground := Ground.data }, { on := 9, ground := Ground.guard }], guard := some (9, false) } : Oper)) (v := ?_) rfl (by kernel_rfl) (by kernel_rfl) (by kernel_rfl) (fun _ _ _ h => h) (Or.inl ⟨by rfl, ?_⟩) hHeld ?_
            rotate_left
            · intro w0 hS0; (try dsimp only at hS0); go_simp; try with_reducible rfl
            try simp only [Act.put, List.setIfInBounds_toArray, List.set_cons_zero, List.set_cons_succ]
            refine wpAnyH_take (i := 22) (oi := ({ dst := some 48, op := Op.binOp BinOp.lss 84 (Operand.tmp 47) (Operand.const (Value.int IntKind.i8 0)) 84, type := 4, pos := _, after := #[{ on := 21, ground := Ground.data }, { on := 9, ground := Ground.guard }], guard := some (9, false) } : Oper)) (v := ?_) rfl (by kernel_rfl) (by kernel_rfl) (by kernel_rfl) (fun _ _ _ h => h) (Or.inl ⟨by rfl, ?_⟩) hHeld ?_
            rotate_left
            · intro w0 hS0; (try dsimp only at hS0); go_simp; try with_reducible rfl
            try simp only [Act.put, List.setIfInBounds_toArray, List.set_cons_zero, List.set_cons_succ]
            refine wpAnyH_take (i := 23) (oi := ({ dst := some 49, op := Op.pick (Operand.tmp 35) (Operand.const (Value.bool true)) (Operand.tmp 48), type := 4, pos := _, after := #[{ on := 9, ground := Ground.data }, { on := 22, ground := Ground.data }, { on := 5, ground := Ground.guard }], guard := some (5, true) } : Oper)) (v := ?_) rfl (by kernel_rfl) (by kernel_rfl) (by kernel_rfl) (fun _ _ _ h => h) (Or.inl ⟨by rfl, ?_⟩) hHeld ?_
            rotate_left
            · intro w0 hS0; (try dsimp only at hS0); go_simp; try with_reducible rfl
            try simp only [Act.put, List.setIfInBounds_toArray, List.set_cons_zero, List.set_cons_succ]
            refine wpAnyH_take (i := 24) (oi := ({ dst := some 50, op := Op.pick (Operand.tmp 31) (Operand.tmp 49) (Operand.const (Value.bool false)), type := 4, pos := _, after := #[{ on := 5, ground := Ground.data }, { on := 23, ground := Ground.data }], guard := none } : Oper)) (v := ?_) rfl (by kernel_rfl) (by kernel_rfl) (by kernel_rfl) (fun _ _ _ h => h) (Or.inl ⟨by rfl, ?_⟩) hHeld ?_
            rotate_left
            · intro w0 hS0; (try dsimp only at hS0); go_simp; try with_reducible rfl
            refine wpAnyH_done (by kernel_rfl) ?_ _
            refine NoPanic.normal ?_
            go_wp2_with fail
            go_meet
            case rel => exact ⟨rfl, rfl⟩
      case rest =>
        obtain ⟨rfl, rfl⟩ := hcut
        cases B5 with
        | false =>
          have HP : Hid (AddBPost w L n t bb cb P c (.returned (.tuple #[])) wc.drew) := by
            refine ⟨rfl, L5, t1, b0, .map r, HMD.out.done ht1.symm hp hasc (SC.refl t1) ?_ HMD.out.bk.at_ (by rw [HMD.out.bk.bk, HMD.out.sb]) ⟨rfl, rfl, rfl, Nat.le_refl _, fun _ _ _ _ => rfl, fun _ _ _ => rfl, rfl⟩ HMD.out.bk.ow⟩
            rw [← ht1]
            cases b0 with
            | false => exact add_never hI hnd' HCL.out hrw
            | true =>
              have hne : c' ≠ [] := fun e => hce rfl (by rw [e] at hp; exact List.nil_perm.1 hp)
              have hq := HB5.out
              match c', hne, hnd', HCL, HPW, hq with
              | [x1], _, _, _, _, hq => simp at hq
              | x1 :: x2 :: s, _, hnd', HCL, HPW, hq =>
                have h2 : ¬ (t.truth.getD x2 0 < 0) := by simpa using hq
                have h1 : t.truth.getD x2 0 ≤ t.truth.getD x1 0 := (List.pairwise_cons.1 HPW.out).1 x2 (by simp)
                exact add_quiet hI hnd' HCL.out hrw (by omega) (by omega)
          clear hB5 HB5 d1 d3 d2g d4 hI
          go_wp2_with fail
          go_end0
          exact HP.out
        | true =>
          obtain ⟨rfl, hq5⟩ : b0 = true ∧ (c'.length = 1 ∨ t.truth.getD (c'.getD 1 0) 0 < 0) := by
            have := HB5.out
            simp only [Bool.and_eq_true, Bool.or_eq_true, decide_eq_true_eq] at this
            exact this
          have hne : c' ≠ [] := fun e => hce rfl (by rw [e] at hp; exact List.nil_perm.1 hp)
          obtain ⟨a, s, hcs⟩ : ∃ a s, c' = a :: s := by
            cases c' with
            | nil => exact absurd rfl hne
            | cons a s => exact ⟨a, s, rfl⟩
          have hsf : ∀ x ∈ s, t.truth.getD x 0 < 0 := by
            rw [hcs] at hq5
            have hpw := HPW.out
            rw [hcs] at hpw
            cases s with
            | nil => simp
            | cons x2 s =>
              have h2 : t.truth.getD x2 0 < 0 := by
                rcases hq5 with q | q
                · simp at q
                · exact q
              intro x hx
              rcases List.mem_cons.1 hx with q | q
              · rw [q]; exact h2
              · have := (List.pairwise_cons.1 (List.pairwise_cons.1 hpw).2).1 x q
                omega
          have hRe : R = (t.rows.length : Int) := by
            rcases HRV.out with ⟨z, _, _⟩ | ⟨_, z, _⟩
            · exact absurd z hne
            · exact z
          have ha2 : a < 2 * n := HCL.out a (by rw [hcs]; simp)
          have ca : wc.drew.drew.cell? ⟨cb, 0, none⟩ = some (.int .i32 (a : Int)) := HCC.out 0 a (by rw [hcs]; rfl)
          have hcpos : 0 < c.length := by rw [← hcl', hcs]; simp
          have HT1 : Hid ((addP t (a :: s)).1 = t1) := by show _ = _; rw [← hcs]; exact ht1
          have HND : Hid ((a :: s).Nodup) := by show List.Nodup _; rw [← hcs]; exact hnd'
          have HCA : Hid (∀ x ∈ a :: s, x < 2 * n) := by show ∀ x ∈ _, _; rw [← hcs]; exact HCL.out
          have HSF : Hid (∀ x ∈ s, t.truth.getD x 0 < 0) := hsf
          have HII : Hid (BI n t true false) := hI
          have HTS : Hid _ := tsame
          have HDN : Hid (∀ w6 L6 t6 b, SC t1 t6 → BI n t6 b (!b) → SAt w6 L6 n t6 → w6.heap[bb]? = some (.cells #[.pointer (some ⟨L.sb, 0, none⟩), .bool b, .bool (!b), .map r] 63 (0, 0)) → FrX bb L5 L6 wc.drew w6 → L6.own bb = (0, 0) → AddBPost w L n t bb cb P c (.returned (.tuple #[])) w6) := fun w6 L6 t6 b k1 k2 k3 k4 k5 k6 => ⟨rfl, L6, t6, b, .map r, HMD.out.done ht1.symm hp hasc k1 k2 k3 k4 k5 k6⟩
          clear hB5 HB5 hq5 d1 d3 d2g d4 hI hp hpx hasc hsf HRV HPW HCL HRT HCC HTR HM tsame ht1 hnd' hne hcs hR hce HR5
          generalize wc.drew = w5 at ca HMD HDN ⊢
          have hbk5 : w5.heap[bb]? = some (.cells #[.pointer (some ⟨L.sb, 0, none⟩), .bool true, .bool false, .map r] 63 (0, 0)) := by rw [← hs5]; exact HMD.out.bk.bk
          have hob5 : L5.own bb = (0, 0) := HMD.out.bk.ow
          have hpb5 : w5.heap[px]? = some (.cells #[.pointer (some ⟨bb, 0, none⟩)] 40 (0, 0)) := HMD.out.bx
          have hpo5 : L5.own px = (0, 0) := HMD.out.po
          have d1 : w5.drew.cell? ⟨px, 0, none⟩ = some (.pointer (some ⟨bb, 0, none⟩)) := by show w5.cell? _ = _; rw [block_cell hpb5]; rfl
          have d2 : w5.drew.cell? ⟨bb, 0, none⟩ = some (.pointer (some ⟨L.sb, 0, none⟩)) := by show w5.cell? _ = _; rw [block_cell hbk5]; rfl
          have hA5 : SAt w5.drew L5 n t1 := HMD.out.bk.at_.drew
          -- the end
          have HEND : Hid (∀ (y : Bool) (w10 : World), EndIs n t1 bb L.sb L5 w5 (.map r) y w10 → w10.cell? ⟨px, 0, none⟩ = some (.pointer (some ⟨bb, 0, none⟩)) ∧ w10.cell? ⟨bb, 0, none⟩ = some (.pointer (some ⟨L.sb, 0, none⟩)) ∧ w10.frozen? ⟨bb, 1, none⟩ = false ∧ w10.cell? ⟨bb, 1, none⟩ = some (.bool true) ∧
              (w10.setCell ⟨bb, 1, none⟩ (.bool y)).cell? ⟨px, 0, none⟩ = some (.pointer (some ⟨bb, 0, none⟩)) ∧ (w10.setCell ⟨bb, 1, none⟩ (.bool y)).cell? ⟨bb, 0, none⟩ = some (.pointer (some ⟨L.sb, 0, none⟩)) ∧ (w10.setCell ⟨bb, 1, none⟩ (.bool y)).drew.cell? ⟨px, 0, none⟩ = some (.pointer (some ⟨bb, 0, none⟩)) ∧ (w10.setCell ⟨bb, 1, none⟩ (.bool y)).drew.cell? ⟨bb, 1, none⟩ = some (.bool y) ∧ (w10.setCell ⟨bb, 1, none⟩ (.bool y)).drew.frozen? ⟨bb, 2, none⟩ = false ∧ (w10.setCell ⟨bb, 1, none⟩ (.bool y)).drew.cell? ⟨bb, 2, none⟩ = some (.bool false) ∧
              ((w10.setCell ⟨bb, 1, none⟩ (.bool y)).drew.setCell ⟨bb, 2, none⟩ (.bool (!y))).cell? ⟨px, 0, none⟩ = some (.pointer (some ⟨bb, 0, none⟩)) ∧ ((w10.setCell ⟨bb, 1, none⟩ (.bool y)).drew.setCell ⟨bb, 2, none⟩ (.bool (!y))).cell? ⟨bb, 1, none⟩ = some (.bool y) ∧ Hid (AddBPost w L n t bb cb P c (.returned (.tuple #[])) ((w10.setCell ⟨bb, 1, none⟩ (.bool y)).drew.setCell ⟨bb, 2, none⟩ (.bool (!y))))) := by
            rintro y w10 ⟨L10, t10, k1, k2, k3, k4, k5, k6⟩
            have kp : w10.heap[px]? = some (.cells #[.pointer (some ⟨bb, 0, none⟩)] 40 (0, 0)) := (k4.block px (block_lt hpb5) (Ne.symm hbpx) hpo5).trans hpb5
            have b1 : (w10.setCell ⟨bb, 1, none⟩ (.bool y)).heap[bb]? = some (.cells #[.pointer (some ⟨L.sb, 0, none⟩), .bool y, .bool false, .map r] 63 (0, 0)) := set_block k5 1 _
            have p1 : (w10.setCell ⟨bb, 1, none⟩ (.bool y)).heap[px]? = some (.cells #[.pointer (some ⟨bb, 0, none⟩)] 40 (0, 0)) := (Below.heap_setCell w10 ⟨bb, 1, none⟩ _ px (fun e => hbpx e.symm)).trans kp
            have b2 : ((w10.setCell ⟨bb, 1, none⟩ (.bool y)).drew.setCell ⟨bb, 2, none⟩ (.bool (!y))).heap[bb]? = some (.cells #[.pointer (some ⟨L.sb, 0, none⟩), .bool y, .bool (!y), .map r] 63 (0, 0)) := set_block (w := (w10.setCell ⟨bb, 1, none⟩ (.bool y)).drew) b1 2 _
            have p2 : ((w10.setCell ⟨bb, 1, none⟩ (.bool y)).drew.setCell ⟨bb, 2, none⟩ (.bool (!y))).heap[px]? = some (.cells #[.pointer (some ⟨bb, 0, none⟩)] 40 (0, 0)) := (Below.heap_setCell (w10.setCell ⟨bb, 1, none⟩ (.bool y)).drew ⟨bb, 2, none⟩ _ px (fun e => hbpx e.symm)).trans p1
            refine ⟨by rw [block_cell kp]; rfl, by rw [block_cell k5]; rfl, frozen_block k5 1, by rw [block_cell k5]; rfl, by rw [block_cell p1]; rfl, by rw [block_cell b1]; rfl, ?_, ?_, ?_, ?_, by rw [block_cell p2]; rfl, by rw [block_cell b2]; rfl, HDN.out _ L10 t10 y k1 k2 (((k3.offSet k6 1 _).drew).offSet k6 2 _) b2 ((k4.set 1 _).drew.set 2 _) k6⟩
            · show (w10.setCell ⟨bb, 1, none⟩ (.bool y)).cell? _ = _
              rw [block_cell p1]; rfl
            · show (w10.setCell ⟨bb, 1, none⟩ (.bool y)).cell? _ = _
              rw [block_cell b1]; rfl
            · exact frozen_block (w := (w10.setCell ⟨bb, 1, none⟩ (.bool y)).drew) b1 2
            · show (w10.setCell ⟨bb, 1, none⟩ (.bool y)).cell? _ = _
              rw [block_cell b1]; rfl
          -- where what was believed is followed
          have HFOL : Hid (∀ (w9 : World) (L9 : Ly) (s1 : St), ((0 < t.truth.getD a 0 ∧ s1 = t1) ∨ (t.truth.getD a 0 = 0 ∧ s1 = believeP t1 a R)) → SAt w9 L9 n s1 → FrS L5 L9 w5 w9 → Calls Try.prog 41 #[.pointer (some ⟨L.sb, 0, none⟩)] w9 fun e w10 => ∃ r' : Int, e = .returned (.int .i32 r') ∧ w10.cell? ⟨px, 0, none⟩ = some (.pointer (some ⟨bb, 0, none⟩)) ∧ w10.cell? ⟨bb, 0, none⟩ = some (.pointer (some ⟨L.sb, 0, none⟩)) ∧ EndIs n t1 bb L.sb L5 w5 (.map r) (r' == -1) w10) := by
            intro w9 L9 s1 h1 hA9 hf9
            have h1' : (0 < t.truth.getD a 0 ∧ s1 = (addP t (a :: s)).1) ∨ (t.truth.getD a 0 = 0 ∧ s1 = believeP (addP t (a :: s)).1 a (t.rows.length : Int)) := by
              rw [HT1.out, ← hRe]; exact h1
            have hu := (add_unit HII.out HND.out HCA.out hrw HSF.out h1').1
            have hfo := follow2_any w9 L9 n s1 (LkI n) (lookOK n) hA9 hu.I hu.dn
            rw [show L9.sb = L.sb from hf9.sb.trans hs5] at hfo
            refine hfo.mono ?_
            rintro e w10 ⟨k, rr, q1, _, q2, L10, q3, q4⟩
            have hff := add_follow HII.out HND.out HCA.out hrw HSF.out h1' q1
            rw [HT1.out] at hff
            have hfX := hf9.trans q4
            have kb : w10.heap[bb]? = _ := (hfX.block bb (block_lt hbk5) hob5).trans hbk5
            have kp : w10.heap[px]? = _ := (hfX.block px (block_lt hpb5) hpo5).trans hpb5
            have eb : (rr.2 == -1) = decide (rr.2 = -1) := by rw [Bool.eq_iff_iff]; simp
            refine ⟨rr.2, q2, by rw [block_cell kp]; rfl, by rw [block_cell kb]; rfl, L10, rr.1, hff.2, ?_, q3, hfX.x bb, kb, (hfX.own bb (block_lt hbk5)).trans hob5⟩
            rw [eb]; exact hff.1
          have hbel := believe_any w5.drew L5 n t1 a R hA5 ha2 (by rw [HTS.out.2.2.2.2.1, HII.out.b.cu]; simp) (fun h0 => by
            rw [HTS.out.1] at h0
            rw [HTS.out.2.1]
            exact HII.out.b.I.tr.room ha2 h0)
          rw [hs5] at hbel
          have HBE : Hid (Calls Try.prog 40 #[.pointer (some ⟨L.sb, 0, none⟩), .int .i32 (a : Int), .int .i32 R] w5.drew fun e w9 => ∃ x : Bool, e = .returned (.bool x) ∧ w9.cell? ⟨px, 0, none⟩ = some (.pointer (some ⟨bb, 0, none⟩)) ∧ w9.cell? ⟨bb, 0, none⟩ = some (.pointer (some ⟨L.sb, 0, none⟩)) ∧ Hid ((x = false → EndIs n t1 bb L.sb L5 w5 (.map r) false w9) ∧ (x = true → Calls Try.prog 41 #[.pointer (some ⟨L.sb, 0, none⟩)] w9 fun e w10 => ∃ r' : Int, e = .returned (.int .i32 r') ∧ w10.cell? ⟨px, 0, none⟩ = some (.pointer (some ⟨bb, 0, none⟩)) ∧ w10.cell? ⟨bb, 0, none⟩ = some (.pointer (some ⟨L.sb, 0, none⟩)) ∧ EndIs n t1 bb L.sb L5 w5 (.map r) (r' == -1) w10))) := hbel.mono fun e w9 q => by
            have fd : FrS L5 L5 w5 w5.drew := (FrS.refl L5 w5).drew
            rcases q with ⟨q1, q2, q3⟩ | ⟨q1, q2, tv, own, q3, q4⟩
            · rw [HTS.out.1] at q1 q2
              refine ⟨decide (0 < t.truth.getD a 0), q2, by rw [q3]; exact d1, by rw [q3]; exact d2, fun hx => ?_, fun hx => ?_⟩
              · have hn0 : t.truth.getD a 0 < 0 := by have := of_decide_eq_false hx; omega
                have hb := add_bad HII.out HND.out HCA.out hrw HSF.out hn0
                rw [HT1.out] at hb
                exact ⟨L5, t1, SC.refl t1, hb, by rw [q3]; exact hA5, by rw [q3]; exact fd.x bb, by rw [q3]; exact hbk5, hob5⟩
              · exact HFOL.out w9 L5 t1 (.inl ⟨of_decide_eq_true hx, rfl⟩) (by rw [q3]; exact hA5) (by rw [q3]; exact fd)
            · rw [HTS.out.1] at q1
              have hfX := fd.trans q4
              have kb : w9.heap[bb]? = _ := (hfX.block bb (block_lt hbk5) hob5).trans hbk5
              have kp : w9.heap[px]? = _ := (hfX.block px (block_lt hpb5) hpo5).trans hpb5
              exact ⟨true, q2, by rw [block_cell kp]; rfl, by rw [block_cell kb]; rfl, fun hx => (by cases hx), fun _ => HFOL.out w9 _ _ (.inr ⟨q1, rfl⟩) q3 hfX⟩
          clear hbel HFOL hA5 hbk5 hob5 hpb5 hpo5 HT1 HND HCA HSF HII HTS HDN HMD hRe
          go_wp2_with fail
          refine wp_region_noPanic ?_
          refine wp_region_held_drew (S := fun w' => w'.cell? ⟨px, 0, none⟩ = some (.pointer (some ⟨bb, 0, none⟩)) ∧ w'.cell? ⟨bb, 0, none⟩ = some (.pointer (some ⟨L.sb, 0, none⟩))) (by kernel_rfl) ⟨d1, d2⟩ (fun hHeld => ?_)
          refine wpAnyH_take (i := 0) (oi := ({ dst := some 51, op := Op.load 40 (Operand.tmp 2), type := 40, pos := _, after := #[], guard := none } : Oper)) (v := ?_) rfl (by kernel_rfl) (by kernel_rfl) (by kernel_rfl) (fun _ _ _ h => h) (Or.inl ⟨by rfl, ?_⟩) hHeld ?_
          rotate_left
          · intro w0 hS0; (try dsimp only at hS0); go_simp; try with_reducible rfl
          try simp only [Act.put, List.setIfInBounds_toArray, List.set_cons_zero, List.set_cons_succ]
          refine wpAnyH_take (i := 1) (oi := ({ dst := some 52, op := Op.load 40 (Operand.tmp 2), type := 40, pos := _, after := #[], guard := none } : Oper)) (v := ?_) rfl (by kernel_rfl) (by kernel_rfl) (by kernel_rfl) (fun _ _ _ h => h) (Or.inl ⟨by rfl, ?_⟩) hHeld ?_
          rotate_left
          · intro w0 hS0; (try dsimp only at hS0); go_simp; try with_reducible rfl
          try simp only [Act.put, List.setIfInBounds_toArray, List.set_cons_zero, List.set_cons_succ]
          refine wpAnyH_take (i := 2) (oi := ({ dst := some 53, op := Op.nilCheck (Operand.tmp 52), type := 0, pos := _, after := #[{ on := 1, ground := Ground.data }], guard := none } : Oper)) (v := ?_) rfl (by kernel_rfl) (by kernel_rfl) (by kernel_rfl) (fun _ _ _ h => h) (Or.inl ⟨by rfl, ?_⟩) hHeld ?_
          rotate_left
          · intro w0 hS0; (try dsimp only at hS0); go_simp; try with_reducible rfl
          try simp only [Act.put, List.setIfInBounds_toArray, List.set_cons_zero, List.set_cons_succ]
          refine wpAnyH_take (i := 3) (oi := ({ dst := some 54, op := Op.fieldAddr 63 (Operand.tmp 53) 0, type := 0, pos := _, after := #[{ on := 2, ground := Ground.data }], guard := none } : Oper)) (v := ?_) rfl (by kernel_rfl) (by kernel_rfl) (by kernel_rfl) (fun _ _ _ h => h) (Or.inl ⟨by rfl, ?_⟩) hHeld ?_
          rotate_left
          · intro w0 hS0; (try dsimp only at hS0); go_simp; try with_reducible rfl
          try simp only [Act.put, List.setIfInBounds_toArray, List.set_cons_zero, List.set_cons_succ]
          refine wpAnyH_take (i := 4) (oi := ({ dst := some 55, op := Op.load 42 (Operand.tmp 54), type := 42, pos := _, after := #[{ on := 3, ground := Ground.data }], guard := none } : Oper)) (v := ?_) rfl (by kernel_rfl) (by kernel_rfl) (by kernel_rfl) (fun _ _ _ h => h) (Or.inl ⟨by rfl, ?_⟩) hHeld ?_
          rotate_left
          · intro w0 hS0; (try dsimp only at hS0); go_simp; try with_reducible rfl
          try simp only [Act.put, List.setIfInBounds_toArray, List.set_cons_zero, List.set_cons_succ]
          refine wpAnyH_take (i := 5) (oi := ({ dst := some 56, op := Op.move (Operand.tmp 1), type := 44, pos := _, after := #[], guard := none } : Oper)) (v := ?_) rfl (by kernel_rfl) (by kernel_rfl) (by kernel_rfl) (fun _ _ _ h => h) (Or.inl ⟨by rfl, ?_⟩) hHeld ?_
          rotate_left
          · intro w0 hS0; (try dsimp only at hS0); go_simp; try with_reducible rfl
          try simp only [Act.put, List.setIfInBounds_toArray, List.set_cons_zero, List.set_cons_succ]
          refine wpAnyH_take (i := 6) (oi := ({ dst := some 57, op := Op.indexAddr 44 (Operand.tmp 56) (Operand.const (Value.int IntKind.i64 0)), type := 0, pos := _, after := #[{ on := 5, ground := Ground.data }], guard := none } : Oper)) (v := ?_) rfl (by kernel_rfl) (by kernel_rfl) (by kernel_rfl) (fun _ _ _ h => h) (Or.inl ⟨by rfl, ?_⟩) hHeld ?_
          rotate_left
          · intro w0 hS0; (try dsimp only at hS0); go_simp; try with_reducible rfl
          try simp only [Act.put, List.setIfInBounds_toArray, List.set_cons_zero, List.set_cons_succ]
          refine wpAnyH_take (i := 8) (oi := ({ dst := some 59, op := Op.move (Operand.tmp 4), type := 21, pos := _, after := #[], guard := none } : Oper)) (v := ?_) rfl (by kernel_rfl) (by kernel_rfl) (by kernel_rfl) (fun _ _ _ h => h) (Or.inl ⟨by rfl, ?_⟩) hHeld ?_
          rotate_left
          · intro w0 hS0; (try dsimp only at hS0); go_simp; try with_reducible rfl
          try simp only [Act.put, List.setIfInBounds_toArray, List.set_cons_zero, List.set_cons_succ]
          refine wpAnyH_ready (rs := [7]) (by kernel_rfl) (by simp) ?_
          refine AllReadyH.cons (o := ({ dst := some 58, op := Op.load 70 (Operand.tmp 57), type := 70, pos := _, after := #[{ on := 6, ground := Ground.data }], guard := none } : Oper)) rfl (fun KK hK => ?_) AllReadyH.nil
          go_simp
          refine hK.out _ _ ?_ (fun hHeld2 => ?_)
          · exact ⟨d1, d2⟩
          clear hK KK
          try simp only [Act.put, List.setIfInBounds_toArray, List.set_cons_zero, List.set_cons_succ]
          refine wpAnyH_ready (rs := [9]) (by kernel_rfl) (by simp) ?_
          refine AllReadyH.cons (o := ({ dst := some 60, op := Op.call { callee := Callee.value (Operand.func 40), args := #[Operand.tmp 55, Operand.tmp 58, Operand.tmp 59], argTypes := #[42, 70, 21] }, type := 4, pos := _, after := #[{ on := 4, ground := Ground.data }, { on := 7, ground := Ground.data }, { on := 8, ground := Ground.data }], guard := none } : Oper)) rfl (fun KK hK => ?_) AllReadyH.nil
          go_simp
          refine HBE.out.mono ?_
          rintro e w9 ⟨x, rfl, k1, k2, K9⟩
          refine hK.out _ _ ?_ (fun hHeld3 => ?_)
          · exact ⟨k1, k2⟩
          clear hK KK
          try simp only [Act.put, List.setIfInBounds_toArray, List.set_cons_zero, List.set_cons_succ]
          refine wpAnyH_take (i := 10) (oi := ({ dst := some 61, op := Op.move (Operand.tmp 60), type := 4, pos := _, after := #[{ on := 9, ground := Ground.data }, { on := 9, ground := Ground.chain }], guard := none } : Oper)) (v := ?_) rfl (by kernel_rfl) (by kernel_rfl) (by kernel_rfl) (fun _ _ _ h => h) (Or.inl ⟨by rfl, ?_⟩) hHeld3 ?_
          rotate_left
          · intro w0 hS0; (try dsimp only at hS0); go_simp; try with_reducible rfl
          try simp only [Act.put, List.setIfInBounds_toArray, List.set_cons_zero, List.set_cons_succ]
          cases x with
          | false =>
            obtain ⟨e1, e2, e3, e4, m1, m2, g1, g2, g3, g4, m3, m4, HFN⟩ := HEND.out false w9 (K9.out.1 rfl)
            refine wpAnyH_take (i := 11) (oi := ({ dst := some 62, op := Op.load 40 (Operand.tmp 2), type := 40, pos := _, after := #[{ on := 10, ground := Ground.guard }], guard := some (10, true) } : Oper)) (v := undef) rfl (by kernel_rfl) (by kernel_rfl) (by kernel_rfl) (fun _ _ _ h => h) (Or.inr ⟨by rfl, rfl⟩) hHeld3 ?_
            try simp only [Act.put, List.setIfInBounds_toArray, List.set_cons_zero, List.set_cons_succ]
            refine wpAnyH_take (i := 12) (oi := ({ dst := some 63, op := Op.nilCheck (Operand.tmp 62), type := 0, pos := _, after := #[{ on := 11, ground := Ground.data }, { on := 10, ground := Ground.guard }], guard := some (10, true) } : Oper)) (v := undef) rfl (by kernel_rfl) (by kernel_rfl) (by kernel_rfl) (fun _ _ _ h => h) (Or.inr ⟨by rfl, rfl⟩) hHeld3 ?_
            try simp only [Act.put, List.setIfInBounds_toArray, List.set_cons_zero, List.set_cons_succ]
            refine wpAnyH_take (i := 13) (oi := ({ dst := some 64, op := Op.fieldAddr 63 (Operand.tmp 63) 0, type := 0, pos := _, after := #[{ on := 12, ground := Ground.data }, { on := 10, ground := Ground.guard }], guard := some (10, true) } : Oper)) (v := undef) rfl (by kernel_rfl) (by kernel_rfl) (by kernel_rfl) (fun _ _ _ h => h) (Or.inr ⟨by rfl, rfl⟩) hHeld3 ?_
            try simp only [Act.put, List.setIfInBounds_toArray, List.set_cons_zero, List.set_cons_succ]
            refine wpAnyH_take (i := 14) (oi := ({ dst := some 65, op := Op.load 42 (Operand.tmp 64), type := 42, pos := _, after := #[{ on := 13, ground := Ground.data }, { on := 10, ground := Ground.guard }], guard := some (10, true) } : Oper)) (v := undef) rfl (by kernel_rfl) (by kernel_rfl) (by kernel_rfl) (fun _ _ _ h => h) (Or.inr ⟨by rfl, rfl⟩) hHeld3 ?_
            try simp only [Act.put, List.setIfInBounds_toArray, List.set_cons_zero, List.set_cons_succ]
            refine wpAnyH_take (i := 15) (oi := ({ dst := some 66, op := Op.call { callee := Callee.value (Operand.func 41), args := #[Operand.tmp 65], argTypes := #[42] }, type := 21, pos := _, after := #[{ on := 14, ground := Ground.data }, { on := 10, ground := Ground.chain }, { on := 10, ground := Ground.guard }], guard := some (10, true) } : Oper)) (v := undef) rfl (by kernel_rfl) (by kernel_rfl) (by kernel_rfl) (fun _ _ _ h => h) (Or.inr ⟨by rfl, rfl⟩) hHeld3 ?_
            try simp only [Act.put, List.setIfInBounds_toArray, List.set_cons_zero, List.set_cons_succ]
            refine wpAnyH_take (i := 16) (oi := ({ dst := some 67, op := Op.binOp BinOp.eql 21 (Operand.tmp 66) (Operand.const (Value.int IntKind.i32 (-1))) 21, type := 4, pos := _, after := #[{ on := 15, ground := Ground.data }, { on := 10, ground := Ground.guard }], guard := some (10, true) } : Oper)) (v := undef) rfl (by kernel_rfl) (by kernel_rfl) (by kernel_rfl) (fun _ _ _ h => h) (Or.inr ⟨by rfl, rfl⟩) hHeld3 ?_
            try simp only [Act.put, List.setIfInBounds_toArray, List.set_cons_zero, List.set_cons_succ]
            refine wpAnyH_take (i := 17) (oi := ({ dst := some 68, op := Op.pick (Operand.tmp 61) (Operand.tmp 67) (Operand.const (Value.bool false)), type := 4, pos := _, after := #[{ on := 10, ground := Ground.data }, { on := 16, ground := Ground.data }], guard := none } : Oper)) (v := ?_) rfl (by kernel_rfl) (by kernel_rfl) (by kernel_rfl) (fun _ _ _ h => h) (Or.inl ⟨by rfl, ?_⟩) hHeld3 ?_
            rotate_left
            · intro w0 hS0; (try dsimp only at hS0); go_simp; try with_reducible rfl
            try simp only [Act.put, List.setIfInBounds_toArray, List.set_cons_zero, List.set_cons_succ]
            refine wpAnyH_take (i := 18) (oi := ({ dst := some 69, op := Op.nilCheck (Operand.tmp 51), type := 0, pos := _, after := #[{ on := 0, ground := Ground.data }, { on := 0, ground := Ground.phase }, { on := 1, ground := Ground.phase }, { on := 2, ground := Ground.phase }, { on := 3, ground := Ground.phase }, { on := 4, ground := Ground.phase }, { on := 5, ground := Ground.phase }, { on := 6, ground := Ground.phase }, { on := 7, ground := Ground.phase }, { on := 8, ground := Ground.phase }, { on := 9, ground := Ground.phase }, { on := 10, ground := Ground.phase }, { on := 11, ground := Ground.phase }, { on := 12, ground := Ground.phase }, { on := 13, ground := Ground.phase }, { on := 14, ground := Ground.phase }, { on := 15, ground := Ground.phase }, { on := 16, ground := Ground.phase }, { on := 17, ground := Ground.phase }], guard := none } : Oper)) (v := ?_) rfl (by kernel_rfl) (by kernel_rfl) (by kernel_rfl) (fun _ _ _ h => h) (Or.inl ⟨by rfl, ?_⟩) hHeld3 ?_
            rotate_left
            · intro w0 hS0; (try dsimp only at hS0); go_simp; try with_reducible rfl
            try simp only [Act.put, List.setIfInBounds_toArray, List.set_cons_zero, List.set_cons_succ]
            refine wpAnyH_take (i := 19) (oi := ({ dst := some 70, op := Op.fieldAddr 63 (Operand.tmp 69) 1, type := 0, pos := _, after := #[{ on := 18, ground := Ground.data }, { on := 0, ground := Ground.phase }, { on := 1, ground := Ground.phase }, { on := 2, ground := Ground.phase }, { on := 3, ground := Ground.phase }, { on := 4, ground := Ground.phase }, { on := 5, ground := Ground.phase }, { on := 6, ground := Ground.phase }, { on := 7, ground := Ground.phase }, { on := 8, ground := Ground.phase }, { on := 9, ground := Ground.phase }, { on := 10, ground := Ground.phase }, { on := 11, ground := Ground.phase }, { on := 12, ground := Ground.phase }, { on := 13, ground := Ground.phase }, { on := 14, ground := Ground.phase }, { on := 15, ground := Ground.phase }, { on := 16, ground := Ground.phase }, { on := 17, ground := Ground.phase }], guard := none } : Oper)) (v := ?_) rfl (by kernel_rfl) (by kernel_rfl) (by kernel_rfl) (fun _ _ _ h => h) (Or.inl ⟨by rfl, ?_⟩) hHeld3 ?_
            rotate_left
            · intro w0 hS0; (try dsimp only at hS0); go_simp; try with_reducible rfl
            try simp only [Act.put, List.setIfInBounds_toArray, List.set_cons_zero, List.set_cons_succ]
            refine wpAnyH_ready (rs := [20]) (by kernel_rfl) (by simp) ?_
            refine AllReadyH.cons (o := ({ dst := none, op := Op.store 4 (Operand.tmp 70) (Operand.tmp 68), type := 0, pos := _, after := #[{ on := 19, ground := Ground.data }, { on := 17, ground := Ground.data }, { on := 15, ground := Ground.chain }, { on := 0, ground := Ground.phase }, { on := 1, ground := Ground.phase }, { on := 2, ground := Ground.phase }, { on := 3, ground := Ground.phase }, { on := 4, ground := Ground.phase }, { on := 5, ground := Ground.phase }, { on := 6, ground := Ground.phase }, { on := 7, ground := Ground.phase }, { on := 8, ground := Ground.phase }, { on := 9, ground := Ground.phase }, { on := 10, ground := Ground.phase }, { on := 11, ground := Ground.phase }, { on := 12, ground := Ground.phase }, { on := 13, ground := Ground.phase }, { on := 14, ground := Ground.phase }, { on := 15, ground := Ground.phase }, { on := 16, ground := Ground.phase }, { on := 17, ground := Ground.phase }], guard := none } : Oper)) rfl (fun KK hK => ?_) AllReadyH.nil
            go_simp
            refine hK.out _ _ ?_ (fun _ => ?_)
            · exact ⟨m1, m2⟩
            clear hK KK
            refine wpAnyH_done (by kernel_rfl) ?_ _
            refine NoPanic.normal ?_
            clear e1 e2 e3 e4 m1 m2
            generalize w9.setCell ⟨bb, 1, none⟩ (.bool false) = w11 at g1 g2 g3 g4 m3 m4 HFN ⊢
            go_wp2_with fail
            refine wp_region_noPanic ?_
            refine wp_region_held_drew (S := fun w' => w'.cell? ⟨px, 0, none⟩ = some (.pointer (some ⟨bb, 0, none⟩)) ∧ w'.cell? ⟨bb, 1, none⟩ = some (.bool false)) (by kernel_rfl) ⟨g1, g2⟩ (fun hHeld => ?_)
            refine wpAnyH_take (i := 0) (oi := ({ dst := some 71, op := Op.load 40 (Operand.tmp 2), type := 40, pos := _, after := #[], guard := none } : Oper)) (v := ?_) rfl (by kernel_rfl) (by kernel_rfl) (by kernel_rfl) (fun _ _ _ h => h) (Or.inl ⟨by rfl, ?_⟩) hHeld ?_
            rotate_left
            · intro w0 hS0; (try dsimp only at hS0); go_simp; try with_reducible rfl
            try simp only [Act.put, List.setIfInBounds_toArray, List.set_cons_zero, List.set_cons_succ]
            refine wpAnyH_take (i := 1) (oi := ({ dst := some 72, op := Op.load 40 (Operand.tmp 2), type := 40, pos := _, after := #[], guard := none } : Oper)) (v := ?_) rfl (by kernel_rfl) (by kernel_rfl) (by kernel_rfl) (fun _ _ _ h => h) (Or.inl ⟨by rfl, ?_⟩) hHeld ?_
            rotate_left
            · intro w0 hS0; (try dsimp only at hS0); go_simp; try with_reducible rfl
            try simp only [Act.put, List.setIfInBounds_toArray, List.set_cons_zero, List.set_cons_succ]
            refine wpAnyH_take (i := 2) (oi := ({ dst := some 73, op := Op.nilCheck (Operand.tmp 72), type := 0, pos := _, after := #[{ on := 1, ground := Ground.data }], guard := none } : Oper)) (v := ?_) rfl (by kernel_rfl) (by kernel_rfl) (by kernel_rfl) (fun _ _ _ h => h) (Or.inl ⟨by rfl, ?_⟩) hHeld ?_
            rotate_left
            · intro w0 hS0; (try dsimp only at hS0); go_simp; try with_reducible rfl
            try simp only [Act.put, List.setIfInBounds_toArray, List.set_cons_zero, List.set_cons_succ]
            refine wpAnyH_take (i := 3) (oi := ({ dst := some 74, op := Op.fieldAddr 63 (Operand.tmp 73) 1, type := 0, pos := _, after := #[{ on := 2, ground := Ground.data }], guard := none } : Oper)) (v := ?_) rfl (by kernel_rfl) (by kernel_rfl) (by kernel_rfl) (fun _ _ _ h => h) (Or.inl ⟨by rfl, ?_⟩) hHeld ?_
            rotate_left
            · intro w0 hS0; (try dsimp only at hS0); go_simp; try with_reducible rfl
            try simp only [Act.put, List.setIfInBounds_toArray, List.set_cons_zero, List.set_cons_succ]
            refine wpAnyH_take (i := 4) (oi := ({ dst := some 75, op := Op.load 4 (Operand.tmp 74), type := 4, pos := _, after := #[{ on := 3, ground := Ground.data }], guard := none } : Oper)) (v := ?_) rfl (by kernel_rfl) (by kernel_rfl) (by kernel_rfl) (fun _ _ _ h => h) (Or.inl ⟨by rfl, ?_⟩) hHeld ?_
            rotate_left
            · intro w0 hS0; (try dsimp only at hS0); go_simp; try with_reducible rfl
            try simp only [Act.put, List.setIfInBounds_toArray, List.set_cons_zero, List.set_cons_succ]
            refine wpAnyH_take (i := 5) (oi := ({ dst := some 76, op := Op.unOp UnOp.not 4 (Operand.tmp 75), type := 4, pos := _, after := #[{ on := 4, ground := Ground.data }], guard := none } : Oper)) (v := ?_) rfl (by kernel_rfl) (by kernel_rfl) (by kernel_rfl) (fun _ _ _ h => h) (Or.inl ⟨by rfl, ?_⟩) hHeld ?_
            rotate_left
            · intro w0 hS0; (try dsimp only at hS0); go_simp; try with_reducible rfl
            try simp only [Act.put, List.setIfInBounds_toArray, List.set_cons_zero, List.set_cons_succ]
            refine wpAnyH_take (i := 6) (oi := ({ dst := some 77, op := Op.nilCheck (Operand.tmp 71), type := 0, pos := _, after := #[{ on := 0, ground := Ground.data }, { on := 0, ground := Ground.phase }, { on := 1, ground := Ground.phase }, { on := 2, ground := Ground.phase }, { on := 3, ground := Ground.phase }, { on := 4, ground := Ground.phase }, { on := 5, ground := Ground.phase }], guard := none } : Oper)) (v := ?_) rfl (by kernel_rfl) (by kernel_rfl) (by kernel_rfl) (fun _ _ _ h => h) (Or.inl ⟨by rfl, ?_⟩) hHeld ?_
            rotate_left
            · intro w0 hS0; (try dsimp only at hS0); go_simp; try with_reducible rfl
            try simp only [Act.put, List.setIfInBounds_toArray, List.set_cons_zero, List.set_cons_succ]
            refine wpAnyH_take (i := 7) (oi := ({ dst := some 78, op := Op.fieldAddr 63 (Operand.tmp 77) 2, type := 0, pos := _, after := #[{ on := 6, ground := Ground.data }, { on := 0, ground := Ground.phase }, { on := 1, ground := Ground.phase }, { on := 2, ground := Ground.phase }, { on := 3, ground := Ground.phase }, { on := 4, ground := Ground.phase }, { on := 5, ground := Ground.phase }], guard := none } : Oper)) (v := ?_) rfl (by kernel_rfl) (by kernel_rfl) (by kernel_rfl) (fun _ _ _ h => h) (Or.inl ⟨by rfl, ?_⟩) hHeld ?_
            rotate_left
            · intro w0 hS0; (try dsimp only at hS0); go_simp; try with_reducible rfl
            try simp only [Act.put, List.setIfInBounds_toArray, List.set_cons_zero, List.set_cons_succ]
            refine wpAnyH_ready (rs := [8]) (by kernel_rfl) (by simp) ?_
            refine AllReadyH.cons (o := ({ dst := none, op := Op.store 4 (Operand.tmp 78) (Operand.tmp 76), type := 0, pos := _, after := #[{ on := 7, ground := Ground.data }, { on := 5, ground := Ground.data }, { on := 0, ground := Ground.phase }, { on := 1, ground := Ground.phase }, { on := 2, ground := Ground.phase }, { on := 3, ground := Ground.phase }, { on := 4, ground := Ground.phase }, { on := 5, ground := Ground.phase }], guard := none } : Oper)) rfl (fun KK hK => ?_) AllReadyH.nil
            go_simp
            refine hK.out _ _ ?_ (fun _ => ?_)
            · exact ⟨m3, m4⟩
            clear hK KK
            refine wpAnyH_done (by kernel_rfl) ?_ _
            refine NoPanic.normal ?_
            go_wp2_with fail
            go_end0
            exact HFN.out
          | true =>
            have HFO := K9.out.2 rfl
            refine wpAnyH_take (i := 11) (oi := ({ dst := some 62, op := Op.load 40 (Operand.tmp 2), type := 40, pos := _, after := #[{ on := 10, ground := Ground.guard }], guard := some (10, true) } : Oper)) (v := ?_) rfl (by kernel_rfl) (by kernel_rfl) (by kernel_rfl) (fun _ _ _ h => h) (Or.inl ⟨by rfl, ?_⟩) hHeld3 ?_
            rotate_left
            · intro w0 hS0; (try dsimp only at hS0); go_simp; try with_reducible rfl
            try simp only [Act.put, List.setIfInBounds_toArray, List.set_cons_zero, List.set_cons_succ]
            refine wpAnyH_take (i := 12) (oi := ({ dst := some 63, op := Op.nilCheck (Operand.tmp 62), type := 0, pos := _, after := #[{ on := 11, ground := Ground.data }, { on := 10, ground := Ground.guard }], guard := some (10, true) } : Oper)) (v := ?_) rfl (by kernel_rfl) (by kernel_rfl) (by kernel_rfl) (fun _ _ _ h => h) (Or.inl ⟨by rfl, ?_⟩) hHeld3 ?_
            rotate_left
            · intro w0 hS0; (try dsimp only at hS0); go_simp; try with_reducible rfl
            try simp only [Act.put, List.setIfInBounds_toArray, List.set_cons_zero, List.set_cons_succ]
            refine wpAnyH_take (i := 13) (oi := ({ dst := some 64, op := Op.fieldAddr 63 (Operand.tmp 63) 0, type := 0, pos := _, after := #[{ on := 12, ground := Ground.data }, { on := 10, ground := Ground.guard }], guard := some (10, true) } : Oper)) (v := ?_) rfl (by kernel_rfl) (by kernel_rfl) (by kernel_rfl) (fun _ _ _ h => h) (Or.inl ⟨by rfl, ?_⟩) hHeld3 ?_
            rotate_left
            · intro w0 hS0; (try dsimp only at hS0); go_simp; try with_reducible rfl
            try simp only [Act.put, List.setIfInBounds_toArray, List.set_cons_zero, List.set_cons_succ]
            refine wpAnyH_take (i := 14) (oi := ({ dst := some 65, op := Op.load 42 (Operand.tmp 64), type := 42, pos := _, after := #[{ on := 13, ground := Ground.data }, { on := 10, ground := Ground.guard }], guard := some (10, true) } : Oper)) (v := ?_) rfl (by kernel_rfl) (by kernel_rfl) (by kernel_rfl) (fun _ _ _ h => h) (Or.inl ⟨by rfl, ?_⟩) hHeld3 ?_
            rotate_left
            · intro w0 hS0; (try dsimp only at hS0); go_simp; try with_reducible rfl
            try simp only [Act.put, List.setIfInBounds_toArray, List.set_cons_zero, List.set_cons_succ]
            refine wpAnyH_ready (rs := [15]) (by kernel_rfl) (by simp) ?_
            refine AllReadyH.cons (o := ({ dst := some 66, op := Op.call { callee := Callee.value (Operand.func 41), args := #[Operand.tmp 65], argTypes := #[42] }, type := 21, pos := _, after := #[{ on := 14, ground := Ground.data }, { on := 10, ground := Ground.chain }, { on := 10, ground := Ground.guard }], guard := some (10, true) } : Oper)) rfl (fun KK hK => ?_) AllReadyH.nil
            go_simp
            refine HFO.mono ?_
            rintro e w10 ⟨r, rfl, j1, j2, hE⟩
            refine hK.out _ _ ?_ (fun hHeld4 => ?_)
            · exact ⟨j1, j2⟩
            clear hK KK
            try simp only [Act.put, List.setIfInBounds_toArray, List.set_cons_zero, List.set_cons_succ]
            obtain ⟨y, hy⟩ : ∃ y, (r == -1) = y := ⟨_, rfl⟩
            rw [hy] at hE
            obtain ⟨e1, e2, e3, e4, m1, m2, g1, g2, g3, g4, m3, m4, HFN⟩ := HEND.out y w10 hE
            refine wpAnyH_take (i := 16) (oi := ({ dst := some 67, op := Op.binOp BinOp.eql 21 (Operand.tmp 66) (Operand.const (Value.int IntKind.i32 (-1))) 21, type := 4, pos := _, after := #[{ on := 15, ground := Ground.data }, { on := 10, ground := Ground.guard }], guard := some (10, true) } : Oper)) (v := ?_) rfl (by kernel_rfl) (by kernel_rfl) (by kernel_rfl) (fun _ _ _ h => h) (Or.inl ⟨by rfl, ?_⟩) hHeld4 ?_
            rotate_left
            · intro w0 hS0; (try dsimp only at hS0); go_simp; try with_reducible rfl
            try simp only [Act.put, List.setIfInBounds_toArray, List.set_cons_zero, List.set_cons_succ]
            refine wpAnyH_take (i := 17) (oi := ({ dst := some 68, op := Op.pick (Operand.tmp 61) (Operand.tmp 67) (Operand.const (Value.bool false)), type := 4, pos := _, after := #[{ on := 10, ground := Ground.data }, { on := 16, ground := Ground.data }], guard := none } : Oper)) (v := ?_) rfl (by kernel_rfl) (by kernel_rfl) (by kernel_rfl) (fun _ _ _ h => h) (Or.inl ⟨by rfl, ?_⟩) hHeld4 ?_
            rotate_left
            · intro w0 hS0; (try dsimp only at hS0); go_simp; try with_reducible rfl
            try simp only [Act.put, List.setIfInBounds_toArray, List.set_cons_zero, List.set_cons_succ]
            refine wpAnyH_take (i := 18) (oi := ({ dst := some 69, op := Op.nilCheck (Operand.tmp 51), type := 0, pos := _, after := #[{ on := 0, ground := Ground.data }, { on := 0, ground := Ground.phase }, { on := 1, ground := Ground.phase }, { on := 2, ground := Ground.phase }, { on := 3, ground := Ground.phase }, { on := 4, ground := Ground.phase }, { on := 5, ground := Ground.phase }, { on := 6, ground := Ground.phase }, { on := 7, ground := Ground.phase }, { on := 8, ground := Ground.phase }, { on := 9, ground := Ground.phase }, { on := 10, ground := Ground.phase }, { on := 11, ground := Ground.phase }, { on := 12, ground := Ground.phase }, { on := 13, ground := Ground.phase }, { on := 14, ground := Ground.phase }, { on := 15, ground := Ground.phase }, { on := 16, ground := Ground.phase }, { on := 17, ground := Ground.phase }], guard := none } : Oper)) (v := ?_) rfl (by kernel_rfl) (by kernel_rfl) (by kernel_rfl) (fun _ _ _ h => h) (Or.inl ⟨by rfl, ?_⟩) hHeld4 ?_
            rotate_left
            · intro w0 hS0; (try dsimp only at hS0); go_simp; try with_reducible rfl
            try simp only [Act.put, List.setIfInBounds_toArray, List.set_cons_zero, List.set_cons_succ]
            refine wpAnyH_take (i := 19) (oi := ({ dst := some 70, op := Op.fieldAddr 63 (Operand.tmp 69) 1, type := 0, pos := _, after := #[{ on := 18, ground := Ground.data }, { on := 0, ground := Ground.phase }, { on := 1, ground := Ground.phase }, { on := 2, ground := Ground.phase }, { on := 3, ground := Ground.phase }, { on := 4, ground := Ground.phase }, { on := 5, ground := Ground.phase }, { on := 6, ground := Ground.phase }, { on := 7, ground := Ground.phase }, { on := 8, ground := Ground.phase }, { on := 9, ground := Ground.phase }, { on := 10, ground := Ground.phase }, { on := 11, ground := Ground.phase }, { on := 12, ground := Ground.phase }, { on := 13, ground := Ground.phase }, { on := 14, ground := Ground.phase }, { on := 15, ground := Ground.phase }, { on := 16, ground := Ground.phase }, { on := 17, ground := Ground.phase }], guard := none } : Oper)) (v := ?_) rfl (by kernel_rfl) (by kernel_rfl) (by kernel_rfl) (fun _ _ _ h => h) (Or.inl ⟨by rfl, ?_⟩) hHeld4 ?_
            rotate_left
            · intro w0 hS0; (try dsimp only at hS0); go_simp; try with_reducible rfl
            try simp only [Act.put, List.setIfInBounds_toArray, List.set_cons_zero, List.set_cons_succ]
            refine wpAnyH_ready (rs := [20]) (by kernel_rfl) (by simp) ?_
            refine AllReadyH.cons (o := ({ dst := none, op := Op.store 4 (Operand.tmp 70) (Operand.tmp 68), type := 0, pos := _, after := #[{ on := 19, ground := Ground.data }, { on := 17, ground := Ground.data }, { on := 15, ground := Ground.chain }, { on := 0, ground := Ground.phase }, { on := 1, ground := Ground.phase }, { on := 2, ground := Ground.phase }, { on := 3, ground := Ground.phase }, { on := 4, ground := Ground.phase }, { on := 5, ground := Ground.phase }, { on := 6, ground := Ground.phase }, { on := 7, ground := Ground.phase }, { on := 8, ground := Ground.phase }, { on := 9, ground := Ground.phase }, { on := 10, ground := Ground.phase }, { on := 11, ground := Ground.phase }, { on := 12, ground := Ground.phase }, { on := 13, ground := Ground.phase }, { on := 14, ground := Ground.phase }, { on := 15, ground := Ground.phase }, { on := 16, ground := Ground.phase }, { on := 17, ground := Ground.phase }], guard := none } : Oper)) rfl (fun KK hK => ?_) AllReadyH.nil
            go_simp
            refine hK.out _ _ ?_ (fun _ => ?_)
            · exact ⟨m1, m2⟩
            clear hK KK
            refine wpAnyH_done (by kernel_rfl) ?_ _
            refine NoPanic.normal ?_
            clear e1 e2 e3 e4 m1 m2
            generalize w10.setCell ⟨bb, 1, none⟩ (.bool y) = w11 at g1 g2 g3 g4 m3 m4 HFN ⊢
            go_wp2_with fail
            refine wp_region_noPanic ?_
            refine wp_region_held_drew (S := fun w' => w'.cell? ⟨px, 0, none⟩ = some (.pointer (some ⟨bb, 0, none⟩)) ∧ w'.cell? ⟨bb, 1, none⟩ = some (.bool y)) (by kernel_rfl) ⟨g1, g2⟩ (fun hHeld => ?_)
            refine wpAnyH_take (i := 0) (oi := ({ dst := some 71, op := Op.load 40 (Operand.tmp 2), type := 40, pos := _, after := #[], guard := none } : Oper)) (v := ?_) rfl (by kernel_rfl) (by kernel_rfl) (by kernel_rfl) (fun _ _ _ h => h) (Or.inl ⟨by rfl, ?_⟩) hHeld ?_
            rotate_left
            · intro w0 hS0; (try dsimp only at hS0); go_simp; try with_reducible rfl
            try simp only [Act.put, List.setIfInBounds_toArray, List.set_cons_zero, List.set_cons_succ]
            refine wpAnyH_take (i := 1) (oi := ({ dst := some 72, op := Op.load 40 (Operand.tmp 2), type := 40, pos := _, after := #[], guard := none } : Oper)) (v := ?_) rfl (by kernel_rfl) (by kernel_rfl) (by kernel_rfl) (fun _ _ _ h => h) (Or.inl ⟨by rfl, ?_⟩) hHeld ?_
            rotate_left
            · intro w0 hS0; (try dsimp only at hS0); go_simp; try with_reducible rfl
            try simp only [Act.put, List.setIfInBounds_toArray, List.set_cons_zero, List.set_cons_succ]
            refine wpAnyH_take (i := 2) (oi := ({ dst := some 73, op := Op.nilCheck (Operand.tmp 72), type := 0, pos := _, after := #[{ on := 1, ground := Ground.data }], guard := none } : Oper)) (v := ?_) rfl (by kernel_rfl) (by kernel_rfl) (by kernel_rfl) (fun _ _ _ h => h) (Or.inl ⟨by rfl, ?_⟩) hHeld ?_
            rotate_left
            · intro w0 hS0; (try dsimp only at hS0); go_simp; try with_reducible rfl
            try simp only [Act.put, List.setIfInBounds_toArray, List.set_cons_zero, List.set_cons_succ]
            refine wpAnyH_take (i := 3) (oi := ({ dst := some 74, op := Op.fieldAddr 63 (Operand.tmp 73) 1, type := 0, pos := _, after := #[{ on := 2, ground := Ground.data }], guard := none } : Oper)) (v := ?_) rfl (by kernel_rfl) (by kernel_rfl) (by kernel_rfl) (fun _ _ _ h => h) (Or.inl ⟨by rfl, ?_⟩) hHeld ?_
            rotate_left
            · intro w0 hS0; (try dsimp only at hS0); go_simp; try with_reducible rfl
            try simp only [Act.put, List.setIfInBounds_toArray, List.set_cons_zero, List.set_cons_succ]
            refine wpAnyH_take (i := 4) (oi := ({ dst := some 75, op := Op.load 4 (Operand.tmp 74), type := 4, pos := _, after := #[{ on := 3, ground := Ground.data }], guard := none } : Oper)) (v := ?_) rfl (by kernel_rfl) (by kernel_rfl) (by kernel_rfl) (fun _ _ _ h => h) (Or.inl ⟨by rfl, ?_⟩) hHeld ?_
            rotate_left
            · intro w0 hS0; (try dsimp only at hS0); go_simp; try with_reducible rfl
            try simp only [Act.put, List.setIfInBounds_toArray, List.set_cons_zero, List.set_cons_succ]
            refine wpAnyH_take (i := 5) (oi := ({ dst := some 76, op := Op.unOp UnOp.not 4 (Operand.tmp 75), type := 4, pos := _, after := #[{ on := 4, ground := Ground.data }], guard := none } : Oper)) (v := ?_) rfl (by kernel_rfl) (by kernel_rfl) (by kernel_rfl) (fun _ _ _ h => h) (Or.inl ⟨by rfl, ?_⟩) hHeld ?_
            rotate_left
            · intro w0 hS0; (try dsimp only at hS0); go_simp; try with_reducible rfl
            try simp only [Act.put, List.setIfInBounds_toArray, List.set_cons_zero, List.set_cons_succ]
            refine wpAnyH_take (i := 6) (oi := ({ dst := some 77, op := Op.nilCheck (Operand.tmp 71), type := 0, pos := _, after := #[{ on := 0, ground := Ground.data }, { on := 0, ground := Ground.phase }, { on := 1, ground := Ground.phase }, { on := 2, ground := Ground.phase }, { on := 3, ground := Ground.phase }, { on := 4, ground := Ground.phase }, { on := 5, ground := Ground.phase }], guard := none } : Oper)) (v := ?_) rfl (by kernel_rfl) (by kernel_rfl) (by kernel_rfl) (fun _ _ _ h => h) (Or.inl ⟨by rfl, ?_⟩) hHeld ?_
            rotate_left
            · intro w0 hS0; (try dsimp only at hS0); go_simp; try with_reducible rfl
            try simp only [Act.put, List.setIfInBounds_toArray, List.set_cons_zero, List.set_cons_succ]
            refine wpAnyH_take (i := 7) (oi := ({ dst := some 78, op := Op.fieldAddr 63 (Operand.tmp 77) 2, type := 0, pos := _, after := #[{ on := 6, ground := Ground.data }, { on := 0, ground := Ground.phase }, { on := 1, ground := Ground.phase }, { on := 2, ground := Ground.phase }, { on := 3, ground := Ground.phase }, { on := 4, ground := Ground.phase }, { on := 5, ground := Ground.phase }], guard := none } : Oper)) (v := ?_) rfl (by kernel_rfl) (by kernel_rfl) (by kernel_rfl) (fun _ _ _ h => h) (Or.inl ⟨by rfl, ?_⟩) hHeld ?_
            rotate_left
            · intro w0 hS0; (try dsimp only at hS0); go_simp; try with_reducible rfl
            try simp only [Act.put, List.setIfInBounds_toArray, List.set_cons_zero, List.set_cons_succ]
            refine wpAnyH_ready (rs := [8]) (by kernel_rfl) (by simp) ?_
            refine AllReadyH.cons (o := ({ dst := none, op := Op.store 4 (Operand.tmp 78) (Operand.tmp 76), type := 0, pos := _, after := #[{ on := 7, ground := Ground.data }, { on := 5, ground := Ground.data }, { on := 0, ground := Ground.phase }, { on := 1, ground := Ground.phase }, { on := 2, ground := Ground.phase }, { on := 3, ground := Ground.phase }, { on := 4, ground := Ground.phase }, { on := 5, ground := Ground.phase }], guard := none } : Oper)) rfl (fun KK hK => ?_) AllReadyH.nil
            go_simp
            refine hK.out _ _ ?_ (fun _ => ?_)
            · exact ⟨m3, m4⟩
            clear hK KK
            refine wpAnyH_done (by kernel_rfl) ?_ _
            refine NoPanic.normal ?_
            go_wp2_with fail
            go_end0
            exact HFN.out

end Go.Proofs.Ytbicefgjompnoaa.Sx
