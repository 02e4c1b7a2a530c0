/- The variables, sorted: slices.Sorted of slices.Values. -/
import Derived.Test.YtaakjjefnjbabaaGreatQ30
import Derived.Sort.OwnSortedInts
import Derived.Maps.Range
set_option maxRecDepth 100000
namespace Go.Proofs.YtaakjjefnjbabaaGreat.Sx
open Go.RowKit Go.Sort Go.Maps Go.WideMaps
set_option maxHeartbeats 1000000 in
theorem values_any (w : World) (oa : Option Addr) (n oc : Nat) : Calls Tryz.prog 80 #[.slice oa n oc] w fun e w' => e = .returned (.func (.func 101) #[] #[.pointer (some ⟨w.heap.size, 0, none⟩)]) ∧ w' = w.alloc (.cells #[.slice oa n oc] 27) := by
 have mo := follows
 have hmf : ∀ (fn : Fn) (first cap : Array Value) (w : World), (Instr.makeFunc fn first cap).run Tryz.prog w = .ok (.func fn first cap) w := fun _ _ _ _ => rfl
 go_enter Tryz.func80, Tryz.ntmps80
 go_wp2_with fail
 go_ret
 exact ⟨rfl, rfl⟩
set_option maxHeartbeats 1000000 in
theorem collect_any (w : World) (vb : Nat) (l : List Nat) (oa : Option Addr) (oc : Nat) (hn : l.length ≤ 65536) (hc : w.cell? ⟨vb, 0, none⟩ = some (.slice oa l.length oc)) (hv : IntsV w oa (nodesI l)) :
 Calls Tryz.prog 99 #[.func (.func 101) #[] #[.pointer (some ⟨vb, 0, none⟩)]] w fun e w' => ∃ v, e = .returned v ∧ w'.ownsRow w.heap.size 3 1 v l.length (i64C l) ∧ Fr (fun _ => True) w w' := by
 have HA : Hid (Calls _ _ _ _ _) := appendSeq_any w vb l oa oc hn hc hv
 have mo := follows
 clear hc hv
 go_enter Tryz.func99, Tryz.ntmps99
 go_wp2_with fail
 refine HA.out.mono ?_
 rintro e w' ⟨v, rfl, h1, h2⟩
 have H1 : Hid (_ ∧ _) := ⟨h1, h2⟩
 clear h1 h2 HA
 go_wp2_with fail
 go_ret
 exact ⟨v, rfl, H1.out⟩
theorem msort_range {l : List Nat} {n : Nat} (h : l.Perm (List.range n)) : (l.map (fun x : Nat => (x : Int))).mergeSort (fun x y => decide (x ≤ y)) = (List.range n).map fun x : Nat => (x : Int) := by
 refine List.Perm.eq_of_pairwise (le := fun (x y : Int) => x ≤ y) (fun a b _ _ h1 h2 => by omega) ?_ ?_ ?_
 · have := List.pairwise_mergeSort (le := fun (x y : Int) => decide (x ≤ y)) (fun a b c => by simp; omega) (fun a b => by simp; omega) (l.map (fun x : Nat => (x : Int)))
   simpa using this
 · rw [List.pairwise_map]
   exact List.pairwise_lt_range.imp fun h => by omega
 · exact (List.mergeSort_perm _ _).trans (h.map _)
set_option maxHeartbeats 1000000 in
theorem sorted_any (w : World) (vb n : Nat) (l : List Nat) (oa : Option Addr) (oc : Nat) (hn : n ≤ 65536) (hp : l.Perm (List.range n)) (hc : w.cell? ⟨vb, 0, none⟩ = some (.slice oa n oc)) (hv : IntsV w oa (nodesI l)) :
 Calls Tryz.prog 79 #[.func (.func 101) #[] #[.pointer (some ⟨vb, 0, none⟩)]] w fun e w' => ∃ v, e = .returned v ∧ w'.ownsRow w.heap.size 3 1 v n (i64C (List.range n)) ∧ Fr (fun _ => True) w w' := by
 have hl : l.length = n := by rw [hp.length_eq, List.length_range]
 have HA : Hid (Calls _ _ _ _ _) := collect_any w vb l oa oc (by omega) (by rw [hl]; exact hc) hv
 have HP : Hid (l.Perm (List.range n)) := hp
 have HL : Hid (l.length = n) := hl
 have mo := follows
 clear hc hv hp
 go_enter Tryz.func79, Tryz.ntmps79
 go_wp2_with fail
 refine HA.out.mono ?_
 rintro e w1 ⟨v, rfl, h1, h2⟩
 rw [hl] at h1
 have F1 : Hid (Fr (fun _ => True) w w1) := h2
 have R1 : Hid (w1.ownsRow w.heap.size 3 1 v n (i64C l)) := h1
 clear HA hl
 rcases h1.2 with ⟨hv, hn0⟩ | ⟨g, cap, cur, hv, hgb, hg, q1, q2, q3, q4⟩
 · have HC : Hid (Calls _ _ _ _ _) := AnyM.slices_Sort_int_none Tryz.sortIV none 0 w1
   clear h1 h2
   subst hn0
   subst hv
   go_wp2_with fail
   refine HC.out.mono ?_
   rintro e w2 ⟨rfl, hw⟩
   subst hw
   clear HC
   go_wp2_with fail
   go_ret
   exact ⟨_, rfl, World.ownsRow_nil _ _ _ _, F1.out⟩
 · have hm : (l.map fun x : Nat => (x : Int)).length = n := by rw [List.length_map, HL.out]
   have hcon := AnyM.slices_Sort_int Tryz.sortIV g 0 cap (l.map fun x : Nat => (x : Int)) w1 (holds_of_blockI hg (by rw [hm, ← Nat.mul_one n, q4]; simp [i64C])) (block_lt hg) (by rw [hm]; omega)
   rw [hm, msort_range HP.out] at hcon
   have HC : Hid (Calls _ _ _ _ _) := hcon
   have hown : ∀ nn os, Hid ((grow (putRow (Value.int .i64) (Sort.ahead w1 nn) g 0 ((List.range n).map fun x : Nat => (x : Int)).toArray) os).ownsRow w.heap.size 3 1 (.slice (some ⟨g, 0, none⟩) n cap) n (i64C (List.range n)) ∧ Fr (fun _ => True) w (grow (putRow (Value.int .i64) (Sort.ahead w1 nn) g 0 ((List.range n).map fun x : Nat => (x : Int)).toArray) os)) := fun nn os => by
    have h1 := ownsRow_sortedI (n := nn) (os := os) (ss := l.map fun x : Nat => (x : Int)) (ts := (List.range n).map fun x : Nat => (x : Int)) (by rw [hm]; simp) hgb hg (by rw [hm]; exact q1) q2 q3
    rw [hm] at h1
    refine ⟨?_, ?_⟩
    · have e : i64C (List.range n) = ((List.range n).map fun x : Nat => (x : Int)).map (Value.int .i64) := by simp [i64C]
      rw [e]; exact h1
    · have hgr := grownBy_sortedI (w := w1) (g := g) (n := nn) (os := os) ((List.range n).map fun x : Nat => (x : Int)).toArray
      exact ⟨hgr.os.trans h2.os, hgr.tape.trans h2.tape, hgr.output.trans h2.output, Nat.le_trans h2.size hgr.size, fun b hb _ => (hgr.block b (Nat.lt_of_lt_of_le hb h2.size) (fun e => by cases e; omega)).trans (h2.block b hb trivial)⟩
   have HO : Hid (∀ nn os, Hid _) := hown
   clear h1 h2 hcon hown hg q4
   subst hv
   go_wp2_with fail
   refine HC.out.mono ?_
   rintro e w2 ⟨rfl, nn, os, rfl⟩
   obtain ⟨W, hW⟩ : ∃ W, grow (putRow (Value.int .i64) (Sort.ahead w1 nn) g 0 ((List.range n).map fun x : Nat => (x : Int)).toArray) os = W := ⟨_, rfl⟩
   have H2 := HO.out nn os
   rw [hW] at H2 ⊢
   clear hW HO HC
   go_wp2_with fail
   go_ret
   exact ⟨_, rfl, H2.out⟩
end Go.Proofs.YtaakjjefnjbabaaGreat.Sx
namespace Go.Proofs.YtaakjjefnjbabaaGreat.Sx
open Go.RowKit Go.Sort Go.Maps Go.WideMaps
set_option maxHeartbeats 1000000 in
theorem insCmp_zero (w : World) (p : Option Addr) (cap : Nat) (fv : Value) :
 Calls Tryz.prog 109 #[.slice p 0 cap, .int .i64 0, .int .i64 0, fv] w fun e w' => e = .returned (.tuple #[]) ∧ w' = w := by
 have mo := follows
 go_enter Tryz.func109, Tryz.ntmps109
 go_wp2_with fail
 go_loopg [8] (0) (fun k s8 wr => s8 = .int .i64 1 ∧ wr = w)
 case atStart => exact ⟨by first | rfl | (exact congrArg (Value.int .i64) (by unfold wrap64; omega)), rfl⟩
 case round =>
  obtain ⟨rfl, rfl⟩ := hrel
  go_wp2_with fail
  go_end0
  exact ⟨rfl, rfl⟩
def SortPost (w : World) (v : Value) (n : Nat) (aks : List Nat) (e : Ending) (w' : World) : Prop :=
 e = .returned (.tuple #[]) ∧ ∃ d, w'.ownsRow 0 3 1 v n (i64C d) ∧ d.length = n ∧ Fr (fun b => v.ownBlock ≠ some b) w w' ∧ d.Perm (List.range n) ∧ d.Pairwise (Rk fun x => aks.getD x 0)
set_option maxHeartbeats 2000000 in
theorem stable_any (w : World) (v : Value) (px ga n : Nat) (aks : List Nat) (hC : CmpBox w px ga aks) (hg1 : v.ownBlock ≠ some px) (hg2 : v.ownBlock ≠ some ga) (hn : n < 20) (hR : w.ownsRow 0 3 1 v n (i64C (List.range n))) (hk : n ≤ aks.length) :
 Calls Tryz.prog 102 #[v, .int .i64 (n : Int), .func (.func 82) #[] #[.pointer (some ⟨px, 0, none⟩)]] w (SortPost w v n aks) := by
 have mo := follows
 have h20 : ¬ (20 : Int) ≤ (n : Int) := by omega
 have h21 : ¬ (20 : Int) < (n : Int) := by omega
 rcases hR.2 with ⟨hv, hn0⟩ | ⟨g, cap, cur, hv, hgb, hg, q1, q2, q3, q4⟩
 · subst hn0
   subst hv
   have HC : Hid (Calls _ _ _ _ _) := insCmp_zero w none 0 (.func (.func 82) #[] #[.pointer (some ⟨px, 0, none⟩)])
   go_enter Tryz.func102, Tryz.ntmps102
   go_wp2_with fail
   go_loopg [8, 7] (0) (fun k s8 s7 wr => s8 = .int .i64 20 ∧ s7 = .int .i64 0 ∧ wr = w)
   case atStart => exact ⟨rfl, rfl, rfl⟩
   case round =>
    obtain ⟨rfl, rfl, hw0⟩ := hrel
    subst hw0
    go_wp2_with fail
    refine HC.out.mono ?_
    rintro e w2 ⟨rfl, hw⟩
    subst hw
    clear HC
    go_wp2_with fail
    go_loopg [6] (0) (fun k s6 wr2 => s6 = .int .i64 20 ∧ Hid (wr2 = w2))
    case atStart => exact ⟨rfl, rfl⟩
    case round =>
     obtain ⟨rfl, hw2⟩ := hrel
     have hw2 := hw2.out
     subst hw2
     go_wp2_with fail
     go_end0
     exact ⟨rfl, [], World.ownsRow_nil _ _ _ _, rfl, Fr.refl _ _, List.Perm.refl _, List.Pairwise.nil⟩
 · have hil : (List.range n).length = n := List.length_range
   have hrow : IRow (cap * 1) w g (List.range n) := ⟨cur, hg, by rw [hil]; rw [Nat.mul_one] at q4; exact q4, q3⟩
   have hgo : v.ownBlock = some g := by rw [hv]; rfl
   have HC : Hid (Calls _ _ _ _ _) := insCmp_any w g px ga n cap 0 (cap * 1) rfl aks (List.range n) hC (fun e => hg1 (by rw [hgo, e])) (fun e => hg2 (by rw [hgo, e])) hil (by omega) hrow List.pairwise_lt_range (fun x hx => by have := List.mem_range.1 hx; omega)
   have HG : Hid (w.heap[g]? = some (.cells cur 3 (0, 0)) ∧ n ≤ cap ∧ cap ≤ maxLen ∧ cur.size = cap * 1) := ⟨hg, q1, q2, q3⟩
   clear hC hg1 hg2 hR hgb hg q1 q2 q3 q4 hrow hgo
   subst hv
   go_enter Tryz.func102, Tryz.ntmps102
   go_wp2_with fail
   go_loopg [8, 7] (0) (fun k s8 s7 wr => s8 = .int .i64 20 ∧ s7 = .int .i64 0 ∧ wr = w)
   case atStart => exact ⟨rfl, rfl, rfl⟩
   case round =>
    obtain ⟨rfl, rfl, rfl⟩ := hrel
    go_wp2_with fail
    refine HC.out.mono ?_
    rintro e w2 ⟨rfl, d, hd, hf, hp, hs⟩
    have HD : Hid (IRow (cap * 1) w2 g d ∧ Fr (· ≠ g) wr w2 ∧ d.Perm (List.range n) ∧ d.Pairwise (Rk fun x => aks.getD x 0)) := ⟨hd, hf, hp, hs⟩
    clear HC hd hf hp hs
    go_wp2_with fail
    go_loopg [6] (0) (fun k s6 wr2 => s6 = .int .i64 20 ∧ wr2 = w2)
    case atStart => exact ⟨rfl, rfl⟩
    case round =>
     obtain ⟨rfl, rfl⟩ := hrel
     go_wp2_with fail
     go_end0
     obtain ⟨⟨cu, h1, h2, h3⟩, h4, h5, h6⟩ := HD.out
     have hdl : d.length = n := by rw [h5.length_eq, List.length_range]
     refine ⟨rfl, d, ⟨by simp [i64C, hdl], .inr ⟨g, cap, cu, rfl, Nat.zero_le _, h1, HG.out.2.1, HG.out.2.2.1, h3, by rw [Nat.mul_one, ← hdl]; exact h2⟩⟩, hdl, h4.mono fun b hb e => hb (by rw [e]; rfl), h5, h6⟩
end Go.Proofs.YtaakjjefnjbabaaGreat.Sx
namespace Go.Proofs.YtaakjjefnjbabaaGreat.Sx
theorem perm_range : ∀ {n : Nat} {l : List Nat}, l.Nodup → (∀ x ∈ l, x < n) → l.length = n → l.Perm (List.range n)
 | 0, l, _, _, h => by
   obtain rfl : l = [] := List.eq_nil_of_length_eq_zero h
   exact List.Perm.refl _
 | n + 1, l, hn, hl, h => by
   have hm : n ∈ l := by
    refine Classical.byContradiction fun q => ?_
    have := nodup_len n l hn fun x hx => by
     have h1 := hl x hx
     have : x ≠ n := fun e => q (e ▸ hx)
     omega
    omega
   have h1 : (l.erase n).Perm (List.range n) := perm_range (hn.erase n) (fun x hx => by
    have h1 := hl x (List.mem_of_mem_erase hx)
    have h2 : x ≠ n := ((List.Nodup.mem_erase_iff hn).1 hx).1
    omega) (by rw [List.length_erase_of_mem hm]; omega)
   rw [List.range_succ]
   refine (List.perm_cons_erase hm).trans ?_
   exact (h1.cons n).trans (List.perm_append_comm (l₁ := [n]) (l₂ := List.range n))
section
variable {n : Nat} {lv : Nat → Nat} {T : Tb}
theorem Ords.perm (h : Ords n lv T) (hl : T.ord.length = n) : T.ord.Perm (List.range n) := by
 refine perm_range ?_ (fun x hx => ?_) hl
 · refine List.pairwise_iff_getElem.2 fun i j hi hj hij e => ?_
   obtain ⟨v, h1, _, h3⟩ := h i (by omega)
   obtain ⟨u, h4, _, h6⟩ := h j (by omega)
   rw [List.getElem?_eq_getElem hi] at h1
   rw [List.getElem?_eq_getElem hj] at h4
   have : v = u := by rw [← Option.some.inj h1, ← Option.some.inj h4, e]
   rw [this] at h3
   omega
 · obtain ⟨i, hi, rfl⟩ := List.getElem_of_mem hx
   obtain ⟨v, h1, h2, _⟩ := h i (by omega)
   rw [List.getElem?_eq_getElem hi] at h1
   rw [Option.some.inj h1]; exact h2
end
def cntV (T : Tb) (v : Nat) : Nat := (T.made.filter fun q => decide (q.1.1 = (v : Int))).length
def seenC {α : Type} (Z : List (α × Nat)) (P : α → Bool) (seen : Array Nat) : Nat := (Z.filter fun q => seen.contains q.2 && P q.1).length
def leftC {α : Type} (Z : List (α × Nat)) (seen : Array Nat) : Nat := (Z.filter fun q => !seen.contains q.2).length
theorem push_contains (seen : Array Nat) (b x : Nat) : (seen.push b).contains x = (seen.contains x || x == b) := by
 simp only [Array.contains_push]
theorem seenC_push {α : Type} {P : α → Bool} {seen : Array Nat} {a : α} {b : Nat} : ∀ {Z : List (α × Nat)}, (Z.map Prod.snd).Nodup → (a, b) ∈ Z → seen.contains b = false → seenC Z P (seen.push b) = seenC Z P seen + (if P a then 1 else 0) ∧ leftC Z (seen.push b) + 1 = leftC Z seen
 | [], _, h, _ => by cases h
 | q :: Z, hn, hm, hs => by
   simp only [List.map_cons, List.nodup_cons] at hn
   obtain ⟨h1, h2⟩ := hn
   rcases List.mem_cons.1 hm with e | hm
   · subst e
     have key : ∀ q ∈ Z, (seen.push b).contains q.2 = seen.contains q.2 := fun q hq => by
      rw [push_contains]
      have : (q.2 == b) = false := by
       simp only [beq_eq_false_iff_ne]
       exact fun e => h1 (List.mem_map.2 ⟨q, hq, e⟩)
      rw [this, Bool.or_false]
     have k1 : (Z.filter fun q => (seen.push b).contains q.2 && P q.1) = Z.filter fun q => seen.contains q.2 && P q.1 := List.filter_congr fun q hq => by rw [key q hq]
     have k2 : (Z.filter fun q => !(seen.push b).contains q.2) = Z.filter fun q => !seen.contains q.2 := List.filter_congr fun q hq => by rw [key q hq]
     have kb : (seen.push b).contains b = true := by rw [push_contains]; simp
     unfold seenC leftC
     rw [List.filter_cons, List.filter_cons, List.filter_cons, List.filter_cons, k1, k2]
     simp only [kb, hs, Bool.true_and, Bool.false_and, Bool.not_true, Bool.not_false]
     constructor
     · cases P a <;> simp
     · simp
   · obtain ⟨i1, i2⟩ := seenC_push h2 hm hs (P := P)
     have hq : (seen.push b).contains q.2 = seen.contains q.2 := by
      rw [push_contains]
      have : (q.2 == b) = false := by
       simp only [beq_eq_false_iff_ne]
       exact fun e => h1 (by rw [e]; exact List.mem_map.2 ⟨(a, b), hm, rfl⟩)
      rw [this, Bool.or_false]
     constructor
     · unfold seenC at i1 ⊢
       rw [List.filter_cons, List.filter_cons, hq]
       cases seen.contains q.2 && P q.1
       · simpa using i1
       · simp only [if_true, List.length_cons]; omega
     · unfold leftC at i2 ⊢
       rw [List.filter_cons, List.filter_cons, hq]
       cases seen.contains q.2
       · simp only [Bool.not_false, if_true, List.length_cons]; omega
       · simpa using i2
theorem seenC_none {α : Type} (Z : List (α × Nat)) (P : α → Bool) : seenC Z P #[] = 0 := by
 unfold seenC
 have : (Z.filter fun q => (#[] : Array Nat).contains q.2 && P q.1) = [] := List.filter_eq_nil_iff.2 fun q _ => by simp
 rw [this]; rfl
theorem seenC_all {α : Type} {Z : List (α × Nat)} {P : α → Bool} {seen : Array Nat} (h : leftC Z seen = 0) : seenC Z P seen = (Z.filter fun q => P q.1).length := by
 unfold leftC at h
 have h0 : (Z.filter fun q => !seen.contains q.2) = [] := List.eq_nil_of_length_eq_zero h
 unfold seenC
 congr 1
 refine List.filter_congr fun q hq => ?_
 have := List.filter_eq_nil_iff.1 h0 q hq
 have : seen.contains q.2 = true := by simpa using this
 rw [this, Bool.true_and]
end Go.Proofs.YtaakjjefnjbabaaGreat.Sx
namespace Go.Proofs.YtaakjjefnjbabaaGreat.Sx
open Go.RowKit Go.Sort Go.Maps Go.WideMaps
set_option maxHeartbeats 1000000 in
theorem sortStable_any (w : World) (v : Value) (px ga n : Nat) (aks : List Nat) (hC : CmpBox w px ga aks) (hg1 : v.ownBlock ≠ some px) (hg2 : v.ownBlock ≠ some ga) (hn : n < 20) (hR : w.ownsRow 0 3 1 v n (i64C (List.range n))) (hk : n ≤ aks.length) :
 Calls Tryz.prog 81 #[v, .func (.func 82) #[] #[.pointer (some ⟨px, 0, none⟩)]] w (SortPost w v n aks) := by
 have HC : Hid (Calls _ _ _ _ _) := stable_any w v px ga n aks hC hg1 hg2 hn hR hk
 obtain ⟨a, cap, rfl⟩ : ∃ a cap, v = .slice a n cap := by
  rcases hR.2 with ⟨e, hn⟩ | ⟨g', cap', cur, e, _⟩
  · exact ⟨none, 0, by rw [e, hn]⟩
  · exact ⟨_, _, e⟩
 have mo := follows
 clear hC hg1 hg2 hR
 go_enter Tryz.func81, Tryz.ntmps81
 go_wp2_with fail
 refine HC.out.mono ?_
 rintro e w2 ⟨rfl, hq⟩
 have HQ : Hid (∃ d, _) := hq
 clear hq HC
 go_wp2_with fail
 go_end0
 exact ⟨rfl, HQ.out⟩
structure MapZ (w : World) (m : Nat) (M : List ((Int × Nat × Nat) × Nat)) (es : Array MapEntry) (clock : Nat) (Z : List (((Int × Nat × Nat) × Nat) × Nat)) : Prop where
 at_ : w.heap[m]? = some (.map es clock)
 fst : Z.map Prod.fst = M
 snd : Z.map Prod.snd = es.toList.map (·.born)
 key : ∀ e ∈ es.toList, ∃ q, (q, e.born) ∈ Z ∧ e.key = askV q.1
 old : ∀ x ∈ es.toList, x.born < clock
 nd : (es.toList.map (·.born)).Nodup
section
variable {w : World} {m : Nat} {M : List ((Int × Nat × Nat) × Nat)} {es : Array MapEntry} {clock : Nat} {Z : List (((Int × Nat × Nat) × Nat) × Nat)}
theorem MapIs.zip (h : MapIs 89 w m (madeL M)) : ∃ es clock Z, MapZ w m M es clock Z := by
 obtain ⟨es, c, h1, h2, _, h4, h5⟩ := h
 have hlen : es.toList.length = M.length := by
  have := congrArg List.length h2
  simpa [madeL] using this
 refine ⟨es, c, M.zip (es.toList.map (·.born)), h1, ?_, ?_, fun e he => ?_, h4, h5⟩
 · exact List.map_fst_zip (by rw [List.length_map]; omega)
 · exact List.map_snd_zip (by rw [List.length_map]; omega)
 · obtain ⟨i, hi, rfl⟩ := List.getElem_of_mem he
   refine ⟨M[i]'(by omega), ?_, ?_⟩
   · refine List.mem_iff_getElem.2 ⟨i, by rw [List.length_zip, List.length_map]; omega, ?_⟩
     rw [List.getElem_zip]
     simp
   · have := congrArg (fun z => z[i]?) h2
     simp only [List.getElem?_map, madeL] at this
     rw [List.getElem?_eq_getElem hi, List.getElem?_eq_getElem (by omega)] at this
     simp only [Option.map_some, Option.some.injEq, Prod.mk.injEq] at this
     exact this.1
theorem MapZ.left (h : MapZ w m M es clock Z) (seen : Array Nat) : (leftOf es seen).size = leftC Z seen := by
 have e1 : (leftOf es seen).size = ((es.toList.map (·.born)).filter fun b => !seen.contains b).length := by
  unfold leftOf
  rw [← Array.length_toList, Array.toList_filter, List.filter_map, List.length_map]
  rfl
 rw [e1, ← h.snd, List.filter_map, List.length_map]
 rfl
end
section
variable {w : World} {tb : Nat} {L : Ly} {T : Tb} {n : Nat} {lv : Nat → Nat} {p : Nat → Nat}
set_option maxHeartbeats 4000000 in
theorem busiest_any (h : TAt w tb L T) (ht : Tbl n lv p T) (hO : Ords n lv T) (hn : n < 20) (hml : T.made.length ≤ 274877906944) :
 Calls Tryz.prog 51 #[.pointer (some ⟨tb, 0, none⟩)] w fun e w' => ∃ (a : Option Addr) (cap : Nat) (d : List Nat), e = .returned (.slice a n cap) ∧ IntsV w' a (nodesI d) ∧ (∀ q : Addr, a = some q → w.heap.size ≤ q.block ∧ q.block < w'.heap.size) ∧ d.Perm (List.range n) ∧ d.Pairwise (Rk (cntV T)) ∧ Fr (fun _ => True) w w' := by
 have hon : T.ord.length = n := ht.inv.on
 have hpm := hO.perm hon
 obtain ⟨oa, oc, ho2⟩ := h.len 2 (by omega) (by omega)
 have ho2 : L.val 2 = .slice oa n oc := by rw [ho2, ← hon]; rfl
 have OV : Hid (IntsV w oa (nodesI T.ord)) := ⟨fun i x hx => by
  by_cases he : T.ord = []
  · rw [he] at hx; cases hx
  · obtain ⟨og, ocap, OG⟩ := h.ordG he
    have e := OG.eq
    rw [ho2] at e
    injection e with e1 e2 e3
    subst e1
    unfold nodesI at hx
    rw [List.getElem?_map] at hx
    cases q : T.ord[i]? with
    | none => rw [q] at hx; cases hx
    | some y =>
      rw [q] at hx; cases hx
      refine ⟨_, rfl, ?_⟩
      have := OG.cell i y q
      unfold Addr.add
      by_cases hi0 : i = 0
      · subst hi0; simpa using this
      · simpa [hi0] using this⟩
 have o0 : w.cell? ⟨tb, 0, none⟩ = some (.slice oa n oc) := by rw [h.cell 0, ← ho2]; rfl
 obtain ⟨i0, hi0, hz0, hz1, hz2⟩ := infoInt
 have m1 : (Instr.makeSlice 27 (.int .i64 (n : Int)) (.int .i64 (n : Int))).run Tryz.prog w = .ok (.slice (some ⟨w.heap.size, 0, none⟩) n n) (w.alloc (.cells (i64C (List.replicate n 0)).toArray 3)) := by
  have := run_makeSlice (P := Tryz.prog) w 27 3 i0 _ Tryz.underlying27 hi0 hz0 .i64 .i64 (n : Int) (n : Int) (by omega) (by omega) (by rw [hz1]; omega) (by rw [hz2]; omega) (by omega)
  rw [hz1, show ((n : Int)).toNat = n by omega, made_ints] at this
  exact this
 have f01 : Fr (fun _ => True) w ((w.alloc (.cells (i64C (List.replicate n 0)).toArray 3)).alloc (.cells #[.slice (some ⟨w.heap.size, 0, none⟩) n n] 27)) := ((Fr.refl _ w).alloc _).alloc _
 have o1 : ((w.alloc (.cells (i64C (List.replicate n 0)).toArray 3)).alloc (.cells #[.slice (some ⟨w.heap.size, 0, none⟩) n n] 27)).cell? ⟨tb, 0, none⟩ = some (.slice oa n oc) := (World.cell?_of_block (w := w) (f01.block tb (block_lt (h.st trivial).1) trivial)).trans o0
 have HX : Hid (TAt w tb L T) := h
 have HT : Hid (Tbl n lv p T) := ht
 have HPM : Hid (T.ord.Perm (List.range n)) := hpm
 have hmf : ∀ (fn : Fn) (first cap : Array Value) (w : World), (Instr.makeFunc fn first cap).run Tryz.prog w = .ok (.func fn first cap) w := fun _ _ _ _ => rfl
 have mo := follows
 clear h ht hO hpm ho2 hon
 go_enter Tryz.func51, Tryz.ntmps51
 go_wp2_with fail
 obtain ⟨W1, hW1⟩ : ∃ W1, ((w.alloc (.cells (i64C (List.replicate n 0)).toArray 3)).alloc (.cells #[.slice (some ⟨w.heap.size, 0, none⟩) n n] 27)) = W1 := ⟨_, rfl⟩
 have BA : Hid (IRow n W1 w.heap.size (List.replicate n 0)) := by
  rw [← hW1]
  refine ⟨_, (((Fr.refl (fun _ => True) _).alloc _).block _ (by simp) trivial).trans (heap_new rfl), ?_, by simp [i64C]⟩
  simp [i64C]
 have BX : Hid (W1.heap[w.heap.size + 1]? = some (.cells #[.slice (some ⟨w.heap.size, 0, none⟩) n n] 27 (0, 0))) := by rw [← hW1]; exact heap_new (by simp)
 have SZ1 : Hid (W1.heap.size = w.heap.size + 2) := (by rw [← hW1]; simp : W1.heap.size = w.heap.size + 2)
 have F1 : Hid (Fr (fun _ => True) w W1) := by rw [← hW1]; exact f01
 rw [hW1] at o1 ⊢
 clear hW1 m1 f01 o0
 have HV : Hid (Calls _ _ _ _ _) := values_any W1 oa n oc
 go_wp2_with fail
 refine HV.out.mono ?_
 rintro e W2 ⟨rfl, hW2⟩
 have F2 : Hid (Fr (fun _ => True) W1 W2) := by rw [hW2]; exact (Fr.refl _ W1).alloc _
 have cv : W2.cell? ⟨W1.heap.size, 0, none⟩ = some (.slice oa n oc) := by rw [hW2, block_cell (heap_new rfl)]; rfl
 have HS : Hid (Calls _ _ _ _ _) := sorted_any W2 W1.heap.size n T.ord oa oc (by omega) HPM.out cv ⟨fun i x hx => by
  obtain ⟨a, e, hc⟩ := OV.out.cell i x hx
  exact ⟨a, e, (World.cell?_of_block (w := w) ((F1.out.trans F2.out).block _ (World.block_lt_of_cell? w _ hc) trivial)).trans hc⟩⟩
 clear hW2 cv HV o1
 go_wp2_with fail
 refine HS.out.mono ?_
 rintro e W3 ⟨v, rfl, hR, hF⟩
 have F3 : Hid (Fr (fun _ => True) W1 W3) := F2.out.trans hF
 have R3 : Hid (W3.ownsRow W2.heap.size 3 1 v n (i64C (List.range n))) := hR
 have SZ2 : Hid (W1.heap.size ≤ W2.heap.size) := F2.out.size
 clear HS hR hF F2
 have X3 : TAt W3 tb L T := HX.out.grew (F1.out.trans F3.out)
 have b4 := X3.b4
 obtain ⟨es, clock, Z, hZ⟩ := (X3.md trivial).1.zip
 have hrg := run_range_map (P := Tryz.prog) W3 77 _ _ L.mb es clock Tryz.underlying77 hZ.at_
 have MZ : Hid (MapZ W3 L.mb T.made es clock Z) := hZ
 have BA3 : Hid (IRow n W3 w.heap.size (List.replicate n 0)) := BA.out.of (F3.out.block _ BA.out.lt trivial)
 have BX3 : Hid (W3.heap[w.heap.size + 1]? = some (.cells #[.slice (some ⟨w.heap.size, 0, none⟩) n n] 27 (0, 0))) := (F3.out.block _ (block_lt BX.out) trivial).trans BX.out
 clear hZ X3 BA BX
 go_wp2_with fail
 clear b4 hrg
 have hmb : L.mb < w.heap.size := (HX.out.md trivial).1.lt
 have hw3 : w.heap.size + 2 ≤ W3.heap.size := by have h1 := F3.out.size; have h2 := SZ1.out; omega
 obtain ⟨Wr, hWr⟩ : ∃ Wr, W3.alloc (.mapIter (some L.mb) clock #[] clock) = Wr := ⟨_, rfl⟩
 have RI : Hid (Wr.heap[W3.heap.size]? = some (.mapIter (some L.mb) clock #[] clock)) := by rw [← hWr]; exact heap_new rfl
 have FR3 : Hid (Fr (fun _ => True) W3 Wr) := by rw [← hWr]; exact (Fr.refl _ W3).alloc _
 have BA4 : Hid (IRow n Wr w.heap.size (List.replicate n 0)) := BA3.out.of (FR3.out.block _ BA3.out.lt trivial)
 rw [hWr]
 clear hWr BA3
 obtain ⟨r, hr⟩ : ∃ r, W3.heap.size = r := ⟨_, rfl⟩
 rw [hr] at RI hw3 ⊢
 have HR : Hid (W3.heap.size = r) := hr
 clear hr
 go_loopg [] (leftC Z #[]) (fun c wr => ∃ (seen : Array Nat) (c0 : Nat) (aks : List Nat), Hid (wr.heap[r]? = some (.mapIter (some L.mb) clock seen c0)) ∧ clock ≤ c0 ∧ leftC Z seen = c ∧ aks.length = n ∧ Hid (IRow n wr w.heap.size aks) ∧ Hid (∀ v, v < n → aks.getD v 0 = seenC Z (fun q => decide (q.1.1 = (v : Int))) seen) ∧ Hid (Fr (fun b => b ≠ w.heap.size ∧ b ≠ r) Wr wr))
 case atStart => exact ⟨#[], clock, _, RI, Nat.le_refl _, rfl, by simp, BA4, fun v hv => by
  rw [seenC_none, List.getD_eq_getElem?_getD, List.getElem?_replicate, if_pos hv]; rfl, Fr.refl _ _⟩
 case round =>
  clear RI BA4
  obtain ⟨seen, c0, aks, RI, hc0, hlc, hal, BA, AC, F⟩ := hrel
  have hMZ : MapZ wr L.mb T.made es clock Z := by
   have hz := MZ.out
   exact ⟨(F.out.block _ (by have := FR3.out.size; have := HR.out; omega) ⟨by omega, by omega⟩).trans ((FR3.out.block _ (by have := HR.out; omega) trivial).trans hz.at_), hz.fst, hz.snd, hz.key, hz.old, hz.nd⟩
  have hmz : Hid (MapZ wr L.mb T.made es clock Z) := hMZ
  rcases run_next_at (P := Tryz.prog) wr 0 r L.mb clock c0 seen es clock RI.out hMZ.at_ hMZ.old hc0 with ⟨h0, hrun⟩ | ⟨e, he, w1, hw1, hrun⟩
  · have hl0 : leftC Z seen = 0 := by rw [← hMZ.left]; exact h0
    have hcnt : ∀ v, v < n → aks.getD v 0 = cntV T v := fun v hv => by
     rw [AC.out v hv, seenC_all hl0]
     unfold cntV
     rw [← hMZ.fst, List.filter_map, List.length_map]
     rfl
    have HCN : Hid (∀ v, v < n → aks.getD v 0 = cntV T v) := hcnt
    have FA : Hid (Fr (fun b => b ≠ w.heap.size ∧ b ≠ r) W1 wr) := by
     refine ((F3.out.trans FR3.out).mono fun _ _ => trivial).trans F.out
    have hBX : wr.cell? ⟨w.heap.size + 1, 0, none⟩ = some (.slice (some ⟨w.heap.size, 0, none⟩) n n) := by
     have hb : wr.heap[w.heap.size + 1]? = some (.cells #[.slice (some ⟨w.heap.size, 0, none⟩) n n] 27 (0, 0)) := (F.out.block _ (by have := FR3.out.size; have := HR.out; omega) ⟨by omega, by omega⟩).trans ((FR3.out.block _ (by have := HR.out; omega) trivial).trans BX3.out)
     rw [block_cell hb]; rfl
    have hro : wr.ownsRow 0 3 1 v n (i64C (List.range n)) := by
     have h1 := ownsRow_fr (w' := wr) R3.out fun g hg hgl => (F.out.block g (Nat.lt_of_lt_of_le hgl FR3.out.size) ⟨by have h2 := SZ2.out; have h3 := SZ1.out; omega, by have := HR.out; omega⟩).trans (FR3.out.block g hgl trivial)
     refine ⟨h1.1, ?_⟩
     rcases h1.2 with q | ⟨g, cap, cur, e1, hb, q⟩
     · exact .inl q
     · exact .inr ⟨g, cap, cur, e1, Nat.zero_le _, q⟩
    have hge : ∀ g, v.ownBlock = some g → W2.heap.size ≤ g := fun g hg => (R3.out.lt g hg).1
    have hs2 := SZ2.out
    have hs1 := SZ1.out
    have HC : Hid (Calls _ _ _ _ _) := sortStable_any wr v (w.heap.size + 1) w.heap.size n aks ⟨⟨n, by rw [hal]; exact hBX⟩, n, BA.out⟩ (fun e => by have := hge _ e; omega) (fun e => by have := hge _ e; omega) hn hro (by omega)
    have HGE : Hid (∀ g, v.ownBlock = some g → W2.heap.size ≤ g) := hge
    clear hMZ hBX hro hge hcnt RI BA AC F
    go_wp2_with fail
    refine HC.out.mono ?_
    rintro e W9 ⟨rfl, d, hd, hdl, hf, hp, hs⟩
    have HQ : Hid (W9.ownsRow 0 3 1 v n (i64C d) ∧ Fr (fun b => v.ownBlock ≠ some b) wr W9 ∧ d.Perm (List.range n) ∧ d.Pairwise (Rk fun x => aks.getD x 0)) := ⟨hd, hf, hp, hs⟩
    have HDL : Hid (d.length = n) := hdl
    clear hd hdl hf hp hs HC
    go_wp2_with fail
    go_ret
    obtain ⟨h1, h2, h3, h4⟩ := HQ.out
    have hfin : Fr (fun _ => True) w W9 := ⟨h2.os.trans (FA.out.os.trans F1.out.os), h2.tape.trans (FA.out.tape.trans F1.out.tape), h2.output.trans (FA.out.output.trans F1.out.output), Nat.le_trans F1.out.size (Nat.le_trans FA.out.size h2.size), fun b hb _ => by
     have hb1 : b < W1.heap.size := by omega
     exact (h2.block b (Nat.lt_of_lt_of_le hb1 FA.out.size) (fun e => by have := HGE.out b e; omega)).trans ((FA.out.block b hb1 ⟨by omega, by omega⟩).trans (F1.out.block b hb trivial))⟩
    have h5 : d.Pairwise (Rk (cntV T)) := by
     refine h4.imp_of_mem fun {a b} ha hb hR => ?_
     have ea := HCN.out a (List.mem_range.1 (h3.mem_iff.1 ha))
     have eb := HCN.out b (List.mem_range.1 (h3.mem_iff.1 hb))
     have hR : aks.getD b 0 < aks.getD a 0 ∨ aks.getD a 0 = aks.getD b 0 ∧ a < b := hR
     rw [ea, eb] at hR
     exact hR
    rcases h1.2 with ⟨hv, hn0⟩ | ⟨g, cap, cur, hv, _, hgb, q1, _⟩
    · refine ⟨none, 0, d, (show Ending.returned v = _ by rw [hv, hn0]), ⟨fun i x hx => ?_⟩, (fun q hq => by cases hq), h3, h5, hfin⟩
      have hi := lt_of_at hx
      unfold nodesI at hi
      rw [List.length_map, HDL.out, hn0] at hi
      omega
    · refine ⟨some ⟨g, 0, none⟩, cap, d, congrArg Ending.returned hv, ⟨fun i x hx => ⟨_, rfl, ?_⟩⟩, (fun q hq => by cases hq; exact ⟨by have := HGE.out g (by rw [hv]; rfl); show w.heap.size ≤ g; omega, block_lt hgb⟩), h3, h5, hfin⟩
      unfold nodesI at hx
      rw [List.getElem?_map] at hx
      cases hq : d[i]? with
      | none => rw [hq] at hx; cases hx
      | some y =>
        rw [hq] at hx
        obtain rfl : (y : Int) = x := Option.some.inj hx
        rw [hv] at h1
        have := h1.cellAt i (by rw [Nat.mul_one, ← HDL.out]; exact lt_of_at hq)
        rw [i64C_at hq] at this
        unfold Addr.add
        by_cases hi0 : i = 0
        · subst hi0; simpa using this
        · simpa [hi0] using this
  · have hes : e ∈ es.toList ∧ seen.contains e.born = false := by
     unfold leftOf at he
     rw [Array.toList_filter, List.mem_filter] at he
     exact ⟨he.1, by simpa using he.2⟩
    obtain ⟨q, hq, hk⟩ := hMZ.key e hes.1
    have hqm : q ∈ T.made := by rw [← hMZ.fst]; exact List.mem_map.2 ⟨_, hq, rfl⟩
    obtain ⟨hx2, z, hz, hzd, hkz⟩ := (HT.out.inv.made q.1 q.2).1 hqm
    obtain ⟨a1, a2, _⟩ := HT.out.inv.nd q.2 z hx2 hz hzd
    have hqa : q.1.1 = z.about := by rw [hkz]; rfl
    obtain ⟨a, ha⟩ : ∃ a : Nat, q.1.1 = (a : Int) := ⟨q.1.1.toNat, by omega⟩
    have han : a < n := by omega
    obtain ⟨k, hk2⟩ : ∃ k, aks[a]? = some k := ⟨_, List.getElem?_eq_getElem (by omega)⟩
    have hke : aks.getD a 0 = k := by rw [List.getD_eq_getElem?_getD, hk2]; rfl
    have hzn : (Z.map Prod.snd).Nodup := by rw [hMZ.snd]; exact hMZ.nd
    have hZl : Z.length = T.made.length := by rw [← hMZ.fst, List.length_map]
    have hkb : k ≤ 274877906944 := by
     have h1 := AC.out a han
     have h2 : seenC Z (fun q => decide (q.1.1 = (a : Int))) seen ≤ Z.length := List.length_filter_le _ _
     omega
    obtain ⟨lo, hlo⟩ : ∃ lo, q.1.2.1 = lo := ⟨_, rfl⟩
    obtain ⟨hh, hhh⟩ : ∃ hh, q.1.2.2 = hh := ⟨_, rfl⟩
    have hask : e.key = .agg #[.int .i64 (a : Int), .int .i64 (lo : Int), .int .i64 (hh : Int)] := by rw [hk]; unfold askV; rw [ha, hlo, hhh]
    obtain ⟨w2, hw2⟩ : ∃ w2, ChangeMaps.setBlock w1 r (.mapIter (some L.mb) clock (seen.push e.born) clock) = w2 := ⟨_, rfl⟩
    have hr1 : w1.heap[r]? = some (.mapIter (some L.mb) clock seen c0) := by rcases hw1 with rfl | rfl <;> exact RI.out
    have hr2 : w2.heap[r]? = some (.mapIter (some L.mb) clock (seen.push e.born) clock) := by rw [← hw2]; show (w1.heap.setIfInBounds r _)[r]? = _; rw [Array.getElem?_setIfInBounds_self_of_lt (block_lt hr1)]
    have f12 : Fr (· ≠ r) wr w2 := by
     have f1 : Fr (fun _ => True) wr w1 := by rcases hw1 with rfl | rfl; exact Fr.refl _ _; exact (Fr.refl _ _).drew
     rw [← hw2]
     exact (f1.mono fun _ _ => trivial).trans ⟨rfl, rfl, rfl, by simp [ChangeMaps.setBlock], fun i _ hi => by show (w1.heap.setIfInBounds r _)[i]? = _; rw [Array.getElem?_setIfInBounds_ne (Ne.symm hi)]⟩
    have hmr : L.mb ≠ r := by omega
    have hmb2 : w2.heap[L.mb]? = some (.map es clock) := (f12.block _ (block_lt hMZ.at_) hmr).trans hMZ.at_
    have hen := run_entry_at (P := Tryz.prog) w2 r L.mb clock seen es clock e hr2 hmb2 hes.1 hMZ.nd
    rw [hw2, hask] at hrun
    rw [hask] at hen
    have hBX2 : w2.heap[w.heap.size + 1]? = some (.cells #[.slice (some ⟨w.heap.size, 0, none⟩) n n] 27 (0, 0)) := by
     have hb : wr.heap[w.heap.size + 1]? = some (.cells #[.slice (some ⟨w.heap.size, 0, none⟩) n n] 27 (0, 0)) := (F.out.block _ (by have := FR3.out.size; have := HR.out; omega) ⟨by omega, by omega⟩).trans ((FR3.out.block _ (by have := HR.out; omega) trivial).trans BX3.out)
     exact (f12.block _ (block_lt hb) (by omega)).trans hb
    have BA2 : IRow n w2 w.heap.size aks := BA.out.of (f12.block _ BA.out.lt (by omega))
    have cpx : (w2.alloc (.cells #[.int .i64 (a : Int), .int .i64 (lo : Int), .int .i64 (hh : Int)] 89)).cell? ⟨w.heap.size + 1, 0, none⟩ = some (.slice (some ⟨w.heap.size, 0, none⟩) n n) := by
     rw [block_cell ((heap_old (block_lt hBX2)).trans hBX2)]; rfl
    have BA4 : IRow n (w2.alloc (.cells #[.int .i64 (a : Int), .int .i64 (lo : Int), .int .i64 (hh : Int)] 89)) w.heap.size aks := BA2.of (heap_old BA2.lt)
    have hbk : (w2.alloc (.cells #[.int .i64 (a : Int), .int .i64 (lo : Int), .int .i64 (hh : Int)] 89)).heap[w2.heap.size]? = some (.cells #[.int .i64 (a : Int), .int .i64 (lo : Int), .int .i64 (hh : Int)] 89 (0, 0)) := heap_new rfl
    have ca := BA4.cell hk2
    have za := BA4.frz a
    have e0 := block_cell hbk 0
    have ha0 : (0 : Int) ≤ (a : Int) := by omega
    have ha1 : (a : Int) < (n : Int) := by omega
    have hkk : ((k + 1 : Nat) : Int) = (k : Int) + 1 := by omega
    have f24 : Fr (· ≠ r) wr (w2.alloc (.cells #[.int .i64 (a : Int), .int .i64 (lo : Int), .int .i64 (hh : Int)] 89)) := f12.alloc _
    have hb9 := BA4.set a (k + 1)
    rw [hkk] at hb9
    have BA5 : Hid (IRow n ((w2.alloc (.cells #[.int .i64 (a : Int), .int .i64 (lo : Int), .int .i64 (hh : Int)] 89)).setCell ⟨w.heap.size, a, none⟩ (.int .i64 ((k : Int) + 1))) w.heap.size (aks.set a (k + 1))) := hb9
    have F5 : Hid (Fr (fun b => b ≠ w.heap.size ∧ b ≠ r) Wr ((w2.alloc (.cells #[.int .i64 (a : Int), .int .i64 (lo : Int), .int .i64 (hh : Int)] 89)).setCell ⟨w.heap.size, a, none⟩ (.int .i64 ((k : Int) + 1)))) := (F.out.trans (f24.mono fun b hb => hb.2)).set (by simp) _
    have RI5 : Hid (((w2.alloc (.cells #[.int .i64 (a : Int), .int .i64 (lo : Int), .int .i64 (hh : Int)] 89)).setCell ⟨w.heap.size, a, none⟩ (.int .i64 ((k : Int) + 1))).heap[r]? = some (.mapIter (some L.mb) clock (seen.push e.born) clock)) := by
     rw [Below.heap_setCell _ ⟨w.heap.size, a, none⟩ _ r (by show r ≠ w.heap.size; omega)]
     exact (heap_old (block_lt hr2)).trans hr2
    obtain ⟨gk', rfl⟩ : ∃ g, gk = g + 1 := ⟨leftC Z (seen.push e.born), by have := (seenC_push (P := fun q => decide (q.1.1 = (a : Int))) hzn hq hes.2).2; omega⟩
    have HLC : Hid (leftC Z (seen.push e.born) = gk') := (by have := (seenC_push (P := fun q => decide (q.1.1 = (a : Int))) hzn hq hes.2).2; omega : leftC Z (seen.push e.born) = gk')
    have AC5 : Hid (∀ v, v < n → (aks.set a (k + 1)).getD v 0 = seenC Z (fun q => decide (q.1.1 = (v : Int))) (seen.push e.born)) := fun v hv => by
     rw [(seenC_push (P := fun q => decide (q.1.1 = (v : Int))) hzn hq hes.2).1, ← AC.out v hv, List.getD_eq_getElem?_getD, List.getD_eq_getElem?_getD]
     by_cases ev : v = a
     · rw [ev, List.getElem?_set_self (by omega), hk2]
       have : decide (q.1.1 = (a : Int)) = true := by simp [ha]
       rw [if_pos this]; rfl
     · rw [List.getElem?_set_ne (Ne.symm ev)]
       have : ¬ decide (q.1.1 = (v : Int)) = true := by simp [ha]; omega
       rw [if_neg this]; rfl
    have hal5 : (aks.set a (k + 1)).length = n := by rw [List.length_set]; exact hal
    clear hBX2 BA2 BA4 hbk f12 f24 hb9 hr1 hr2 hmb2 hMZ BA F RI AC hw1 hw2
    go_wp2_with fail
    go_roundg gk'
    case measure => omega
    case rel => exact ⟨_, clock, _, RI5, Nat.le_refl _, HLC.out, hal5, BA5, AC5, F5⟩
end
end Go.Proofs.YtaakjjefnjbabaaGreat.Sx
