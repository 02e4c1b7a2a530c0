/- A table: a number for a new node. -/
import Derived.Test.YtaakjjefnjbabaaGreatQ01
set_option maxRecDepth 100000
namespace Go.Proofs.YtaakjjefnjbabaaGreat.Sx
open Go.RowKit Go.Sort Go.Maps Go.WideMaps
theorem infoRow : ∃ i0, Tryz.prog.info? 91 = some i0 ∧ i0.zero = some (.agg #[.int .i64 0, .int .i64 0, .int .i64 0, .int .i64 0, .bool false]) ∧ i0.size = 5 ∧ i0.bytes = 40 := by
 have h : ((Tryz.prog.info? 91).map fun i => (i.zero, i.size, i.bytes)) = some (some (.agg #[.int .i64 0, .int .i64 0, .int .i64 0, .int .i64 0, .bool false]), 5, 40) := by kernel_rfl
 cases hq : Tryz.prog.info? 91 with
 | none => rw [hq] at h; simp at h
 | some j => rw [hq] at h; simp at h; exact ⟨j, rfl, h.1, h.2.1, h.2.2⟩
theorem infoNode : ∃ i0, Tryz.prog.info? 32 = some i0 ∧ i0.zero = some (.int .i64 0) ∧ i0.size = 1 ∧ i0.bytes = 8 := by
 have h : ((Tryz.prog.info? 32).map fun i => (i.zero, i.size, i.bytes)) = some (some (.int .i64 0), 1, 8) := by kernel_rfl
 cases hq : Tryz.prog.info? 32 with
 | none => rw [hq] at h; simp at h
 | some j => rw [hq] at h; simp at h; exact ⟨j, rfl, h.1, h.2.1, h.2.2⟩
theorem infoInt : ∃ i0, Tryz.prog.info? 3 = some i0 ∧ i0.zero = some (.int .i64 0) ∧ i0.size = 1 ∧ i0.bytes = 8 := by
 have h : ((Tryz.prog.info? 3).map fun i => (i.zero, i.size, i.bytes)) = some (some (.int .i64 0), 1, 8) := by kernel_rfl
 cases hq : Tryz.prog.info? 3 with
 | none => rw [hq] at h; simp at h
 | some j => rw [hq] at h; simp at h; exact ⟨j, rfl, h.1, h.2.1, h.2.2⟩
def newRow : Rw := ⟨0, 0, 0, 0, false⟩
def numberP (T : Tb) : Tb × Nat :=
 match T.free.getLast? with
 | some f => ({ T with free := T.free.dropLast }, f)
 | none => ({ T with rows := T.rows ++ [newRow] }, T.rows.length)
theorem flatR_push (R : List Rw) (r : Rw) : flatR (R ++ [r]) = flatR R ++ rwV r := by simp [flatR]
theorem OwnR.cut {w : World} {own : Nat → Nat} {t e : Nat} {v : Value} {l : List Nat} {a : Option Addr} {m cap : Nat} (h : OwnR w own t e 1 v l.length (i64C l)) (hv : v = .slice a m cap) (hl : l ≠ []) : OwnR w own t e 1 (.slice a (l.length - 1) cap) l.dropLast.length (i64C l.dropLast) := by
 have h0 : 0 < l.length := List.length_pos_iff.2 hl
 have hd : l.dropLast.length = l.length - 1 := List.length_dropLast
 rcases h.1.2 with ⟨_, hn⟩ | ⟨g, cap', cur, e1, h1, hg, hc, hm, hs, ht⟩
 · omega
 · rw [hv] at e1
   cases e1
   refine ⟨⟨by simp [i64C], .inr ⟨g, cap, cur, by rw [hd], h1, hg, by omega, hm, hs, ?_⟩⟩, fun b hb => h.2 b (by rw [hv]; exact hb)⟩
   have e3 : i64C l.dropLast = (i64C l).take (l.length - 1) := by simp [i64C, List.dropLast_eq_take]
   rw [e3, ← ht, List.take_take, hd]
   congr 1
   omega
set_option maxHeartbeats 1000000 in
theorem number_any {w : World} {tb : Nat} {L : Ly} {T : Tb} (h : TAt w tb L T) (h0 : 0 < T.rows.length) (hl : Sm (T.rows.length + 1)) :
 Calls Tryz.prog 90 #[.pointer (some ⟨tb, 0, none⟩)] w fun e w' => e = .returned (.int .i64 ((numberP T).2 : Int)) ∧ ∃ L', TAt w' tb L' (numberP T).1 ∧ FrT L L' w w' := by
 have hl' : T.rows.length + 1 ≤ 1099511627776 := hl
 have HG : Hid (TAt w tb L T) := h
 have mo := follows
 by_cases hf : T.free = []
 · have hP : Hid (numberP T = ({ T with rows := T.rows ++ [newRow] }, T.rows.length)) := by unfold numberP; rw [hf]; exact rfl
   have HW : Hid (OwnR w L.own 4 91 5 (L.val 4) T.rows.length (flatR T.rows)) := h.sl 4 (by omega) (by omega) trivial
   obtain ⟨rv, hrv⟩ : ∃ rv, L.val 4 = rv := ⟨_, rfl⟩
   obtain ⟨a, cap, e4⟩ := h.len 4 (by omega) (by omega)
   have e4 : L.val 4 = .slice a T.rows.length cap := e4
   obtain ⟨fa, fcap, e5⟩ := h.len 5 (by omega) (by omega)
   have e5 : L.val 5 = .slice fa 0 fcap := by rw [e5]; show Value.slice fa T.free.length fcap = _; rw [hf]; rfl
   have h2 : w.cell? ⟨tb, 2, none⟩ = some (.slice a T.rows.length cap) := by rw [h.cell 2]; show some (L.val 4) = _; rw [e4]
   have h3 : w.cell? ⟨tb, 3, none⟩ = some (.slice fa 0 fcap) := by rw [h.cell 3]; show some (L.val 5) = _; rw [e5]
   obtain ⟨i0, hi0, hz0, hz1, hz2⟩ := infoRow
   have HOA : Hid ((w.alloc (.cells #[.int .i64 0, .int .i64 0, .int .i64 0, .int .i64 0, .bool false] 91)).ownsRow 0 91 5 (.slice a T.rows.length cap) T.rows.length (flatR T.rows)) := by rw [← e4]; exact HW.out.1.alloc _
   have HV : Hid (L.val 4 = .slice a T.rows.length cap) := e4
   clear h e4 e5 hrv hf
   go_enter Tryz.func90, Tryz.ntmps90
   go_wp2_with (at_builtin; refine wpList_append_lies _ rfl _ _ 76 rfl 0 91 i0 _ 5 40 Tryz.underlying76 hi0 hz0 hz1 hz2 rfl (by decide) (.slice a T.rows.length cap) _ (flatR T.rows) rfl HOA.out ⟨w.heap.size, 0, none⟩ 1 1 [.int .i64 0, .int .i64 0, .int .i64 0, .int .i64 0, .bool false] rfl rfl ?q1 ?q2 (by decide) ?q3 ?q4 ?q5 (w.heap.size + 1) ?q6 ?_)
   case q1 => exact World.news_of_block (heap_new rfl)
   case q2 =>
    intro u hu
    simp only [List.mem_cons, List.not_mem_nil, or_false] at hu
    rcases hu with rfl | rfl | rfl | rfl | rfl <;> rfl
   case q3 => unfold maxLen; omega
   case q4 => omega
   case q5 => simp <;> omega
   case q6 => simp
   intro g' cap' w1 ho hg hat hlt
   obtain ⟨p0, p1, p2, p3⟩ := (HG.out.alloc (.cells #[.int .i64 0, .int .i64 0, .int .i64 0, .int .i64 0, .bool false] 91)).app (t := 4) (T' := { T with rows := T.rows ++ [newRow] }) ((Fr.refl _ w).alloc _) (by omega) (by omega) ⟨fun s hs => by unfold Tb.len Tb.cells; simp [hs], fun _ => rfl, fun _ => rfl⟩ (g := g') (cap := cap') (v' := .slice (some ⟨g', 0, none⟩) (T.rows.length + 1) cap') (by show _ = Value.slice _ (T.rows ++ [newRow]).length _; simp) (by
    show w1.ownsRow 0 91 5 _ (T.rows ++ [newRow]).length (flatR (T.rows ++ [newRow]))
    rw [flatR_push, List.length_append]; exact ho) (by rw [HV.out]; exact hg) (by
    rw [HV.out]
    rcases hat with q | q
    · exact .inl q
    · exact .inr (by simp; omega))
   have P2 : Hid (TAt _ tb _ _) := p2
   have P3 : Hid (FrT _ _ _ _) := p3
   have p1' : w1.cell? ⟨tb, 2, none⟩ = some (.slice a T.rows.length cap) := by rw [← HV.out]; exact p1
   have p0' : w1.frozen? ⟨tb, 2, none⟩ = false := p0
   clear p0 p1 p2 p3 ho hg hat hlt h2 h3 HG HOA HW
   go_wp2_with fail
   go_ret
   rw [hP.out]
   exact ⟨rfl, _, P2.out, P3.out⟩
 · obtain ⟨x, hx⟩ : ∃ x, T.free.getLast? = some x := by
    cases q : T.free.getLast? with
    | none => exact absurd (List.getLast?_eq_none_iff.1 q) hf
    | some x => exact ⟨x, rfl⟩
   have hP : Hid (numberP T = ({ T with free := T.free.dropLast }, x)) := by unfold numberP; rw [hx]; exact rfl
   have HW : Hid (OwnR w L.own 5 32 1 (L.val 5) T.free.length (i64C T.free)) := h.sl 5 (by omega) (by omega) trivial
   obtain ⟨g, cap, e5, ho5, hg5, hc5, hz5, hm5, hcap5⟩ := HW.out.ints hf
   have h3 : w.cell? ⟨tb, 3, none⟩ = some (.slice (some ⟨g, 0, none⟩) T.free.length cap) := by rw [h.cell 3]; show some (L.val 5) = _; rw [e5]
   have hlen : 0 < T.free.length := List.length_pos_iff.2 hf
   have cx := hc5 (T.free.length - 1) x (by rw [← List.getLast?_eq_getElem?]; exact hx)
   obtain ⟨q1, q2, q3⟩ := h.store (t := 5) (T' := { T with free := T.free.dropLast }) (v := .slice (some ⟨g, 0, none⟩) (T.free.length - 1) cap) (by omega) (by omega) ⟨fun s hs => by unfold Tb.len Tb.cells; simp [hs], fun _ => rfl, fun _ => rfl⟩ (HW.out.cut e5 hf)
   have Q2 : Hid (TAt _ tb _ _) := q2
   have Q3 : Hid (FrT _ _ _ _) := q3
   have q1' : w.frozen? ⟨tb, 3, none⟩ = false := q1
   obtain ⟨k, hk⟩ : ∃ k, T.free.length = k + 1 := ⟨T.free.length - 1, by omega⟩
   have hm5' : k + 1 ≤ maxLen := by omega
   rw [hk] at h3 cx Q2 Q3 hcap5
   simp only [Nat.add_sub_cancel] at cx Q2 Q3
   have n0 : (0 : Int) ≤ (k : Int) := by omega
   have n1 : ¬ ((k : Int) < 0) := by omega
   have n2 : (((k + 1 : Nat) : Int) - 1) = (k : Int) := by omega
   have n3 : k ≤ 9223372036854775806 := by unfold maxLen at hm5'; omega
   clear q1 q2 q3 e5 ho5 hg5 hc5 hz5 hm5 HG HW h hlen hx hf hl' hl hm5'
   go_enter Tryz.func90, Tryz.ntmps90
   go_wp2_with fail
   go_ret
   rw [hP.out]
   exact ⟨rfl, _, Q2.out, Q3.out⟩
end Go.Proofs.YtaakjjefnjbabaaGreat.Sx
namespace Go.Proofs.YtaakjjefnjbabaaGreat.Sx
open Go.RowKit Go.Sort Go.Maps Go.WideMaps
theorem get_modify {α : Type} (l : List α) (i j : Nat) (g : α → α) : (l.modify i g)[j]? = if i = j then l[j]?.map g else l[j]? := by
 rw [List.getElem?_modify]
 by_cases e : i = j
 · simp [e]
 · simp [e]
theorem modify_set {α : Type} {l : List α} {i : Nat} {x : α} (g : α → α) (h : l[i]? = some x) : l.modify i g = l.set i (g x) := by
 refine List.ext_getElem? fun j => ?_
 rw [get_modify, List.getElem?_set]
 by_cases e : i = j
 · subst e
   rw [if_pos rfl, if_pos rfl, h, if_pos (lt_of_at h)]; rfl
 · rw [if_neg e, if_neg e]
def askR (ab : Int) (lo hh : Nat) (r : Rw) : Rw := { r with about := ab, low := lo, high := hh }
def moreR (r : Rw) : Rw := { r with users := r.users + 1 }
def layM (R : List Rw) (f : Nat) (ab : Int) (lo hh : Nat) : List Rw := ((R.modify f (askR ab lo hh)).modify lo moreR).modify hh moreR
theorem layM_eq {R : List Rw} {f : Nat} {ab : Int} {lo hh : Nat} (hf : f < R.length) (hlo : lo < R.length) (hhi : hh < R.length) : ∃ r r1 r2, R[f]? = some r ∧ (R.set f { r with about := ab, low := lo, high := hh })[lo]? = some r1 ∧ ((R.set f { r with about := ab, low := lo, high := hh }).set lo { r1 with users := r1.users + 1 })[hh]? = some r2 ∧ layM R f ab lo hh = layR R f ab lo hh r r1 r2 := by
 obtain ⟨r, q1⟩ : ∃ r, R[f]? = some r := ⟨_, List.getElem?_eq_getElem hf⟩
 obtain ⟨R1, hR1⟩ : ∃ R1, R.set f { r with about := ab, low := lo, high := hh } = R1 := ⟨_, rfl⟩
 have hl1 : R1.length = R.length := by rw [← hR1]; simp
 obtain ⟨r1, q2⟩ : ∃ r1, R1[lo]? = some r1 := ⟨_, List.getElem?_eq_getElem (by omega)⟩
 obtain ⟨R2, hR2⟩ : ∃ R2, R1.set lo { r1 with users := r1.users + 1 } = R2 := ⟨_, rfl⟩
 have hl2 : R2.length = R.length := by rw [← hR2]; simpa using hl1
 obtain ⟨r2, q3⟩ : ∃ r2, R2[hh]? = some r2 := ⟨_, List.getElem?_eq_getElem (by omega)⟩
 refine ⟨r, r1, r2, q1, by rw [hR1]; exact q2, by rw [hR1, hR2]; exact q3, ?_⟩
 unfold layM layR
 rw [modify_set _ q1, show askR ab lo hh r = { r with about := ab, low := lo, high := hh } from rfl, hR1, modify_set _ q2, show moreR r1 = { r1 with users := r1.users + 1 } from rfl, hR2, modify_set _ q3]
 rfl
theorem users_modify {R : List Rw} {i j : Nat} {g : Rw → Rw} {r : Rw} {m : Nat} (hg : ∀ x, (g x).users ≤ x.users + 1) (h : ∀ x ∈ R, x.users ≤ m) (hr : (R.modify i g)[j]? = some r) : r.users ≤ m + 1 := by
 rw [get_modify] at hr
 cases q : R[j]? with
 | none => rw [q] at hr; split at hr <;> simp at hr
 | some x =>
   have hx := h x (List.mem_of_getElem? q)
   rw [q] at hr
   split at hr
   · obtain rfl : g x = r := by simpa using hr
     have := hg x; omega
   · obtain rfl : x = r := by simpa using hr
     omega
def nodeP (T : Tb) (ab : Int) (lo hh : Nat) : Tb :=
 { (numberP T).1 with fresh := (numberP T).1.fresh ++ [(numberP T).2], rows := layM (numberP T).1.rows (numberP T).2 ab lo hh, made := (numberP T).1.made ++ [((ab, lo, hh), (numberP T).2)] }
theorem zeroN (w : World) : (zeroValue 32).run Tryz.prog w = .ok (.int .i64 0) w := by kernel_rfl
set_option maxHeartbeats 1000000 in
theorem node_same {w : World} {tb : Nat} (ab : Int) (lo : Nat) :
 Calls Tryz.prog 64 #[.pointer (some ⟨tb, 0, none⟩), .int .i64 ab, .int .i64 (lo : Int), .int .i64 (lo : Int)] w fun e w' => e = .returned (.int .i64 (lo : Int)) ∧ Fr (fun _ => True) w w' := by
 have mo := follows
 go_enter Tryz.func64, Tryz.ntmps64
 go_wp2_with fail
 go_ret
 exact ⟨rfl, Fr.refl _ _⟩
set_option maxHeartbeats 1000000 in
theorem node_hit {w : World} {tb : Nat} {L : Ly} {T : Tb} (h : TAt w tb L T) (ab : Int) (lo hh f : Nat) (hab : Fits ab) (hlo : Sm lo) (hhi : Sm hh) (hne : lo ≠ hh) (hm : ((ab, lo, hh), f) ∈ T.made) (hu : ∀ p ∈ T.made, p.1 = (ab, lo, hh) → p.2 = f) :
 Calls Tryz.prog 64 #[.pointer (some ⟨tb, 0, none⟩), .int .i64 ab, .int .i64 (lo : Int), .int .i64 (hh : Int)] w fun e w' => e = .returned (.int .i64 (f : Int)) ∧ Fr (fun _ => True) w w' := by
 have hk := keyA (a := ab) (b := (lo : Int)) (c := (hh : Int)) hab hlo.fits hhi.fits
 have n1 : ((lo : Int) == (hh : Int)) = false := by simp; omega
 have HG : Hid (TAt (w.alloc (.cells #[.int .i64 ab, .int .i64 (lo : Int), .int .i64 (hh : Int)] 89)) tb L T) := h.alloc _
 have HF : Hid (Fr (fun _ => True) w (w.alloc (.cells #[.int .i64 ab, .int .i64 (lo : Int), .int .i64 (hh : Int)] 89))) := (Fr.refl _ w).alloc _
 have HB : Hid ((w.alloc (.cells #[.int .i64 ab, .int .i64 (lo : Int), .int .i64 (hh : Int)] 89)).heap[w.heap.size]? = some (.cells #[.int .i64 ab, .int .i64 (lo : Int), .int .i64 (hh : Int)] 89 (0, 0))) := heap_new rfl
 have hmv : (askV (ab, lo, hh), Value.int .i64 (f : Int)) ∈ madeL T.made := List.mem_map.2 ⟨_, hm, rfl⟩
 have huv : ∀ p ∈ madeL T.made, p.1 = askV (ab, lo, hh) → p.2 = .int .i64 (f : Int) := by
  intro p hp q
  obtain ⟨x, hx, rfl⟩ := List.mem_map.1 hp
  rw [← hu x hx (askV_inj q)]
 have mo := follows
 clear h hlo hhi
 go_enter Tryz.func64, Tryz.ntmps64
 go_wp2_with fail
 generalize (w.alloc (.cells #[.int .i64 ab, .int .i64 (lo : Int), .int .i64 (hh : Int)] 89)) = W at HG HF HB ⊢
 generalize w.heap.size = ba at HB ⊢
 have HGd : Hid (TAt W.drew tb L T) := HG.out.drew
 have HBd : Hid (W.drew.heap[ba]? = _) := HB.out
 have l1 := (HG.out.md trivial).1.hit lawA Tryz.underlying77 hk hmv huv true
 have l1d := (HGd.out.md trivial).1.hit lawA Tryz.underlying77 hk hmv huv true
 rw [if_pos rfl] at l1 l1d
 have b4 := HG.out.b4
 have b4d := HGd.out.b4
 have a0 := block_cell HB.out 0
 have a1 := block_cell HB.out 1
 have a2 := block_cell HB.out 2
 have a0d := block_cell HBd.out 0
 have a1d := block_cell HBd.out 1
 have a2d := block_cell HBd.out 2
 go_big_region_o
 clear a0 a1 a2 a0d a1d a2d b4 b4d l1 l1d
 all_goals
  go_wp2_with fail
  go_ret
  exact ⟨rfl, HF.out.drew⟩
theorem numberP_facts (T : Tb) (hf : ∀ x ∈ T.free, x < T.rows.length) : (numberP T).1.ord = T.ord ∧ (numberP T).1.lev = T.lev ∧ (numberP T).1.made = T.made ∧ (numberP T).1.found = T.found ∧ (numberP T).1.fresh = T.fresh ∧ (numberP T).2 < (numberP T).1.rows.length ∧ T.rows.length ≤ (numberP T).1.rows.length ∧ (numberP T).1.rows.length ≤ T.rows.length + 1 ∧ (∀ m, (∀ r ∈ T.rows, r.users ≤ m) → ∀ r ∈ (numberP T).1.rows, r.users ≤ m) := by
 unfold numberP
 cases q : T.free.getLast? with
 | some f => exact ⟨rfl, rfl, rfl, rfl, rfl, hf f (List.mem_of_getLast? q), Nat.le_refl _, Nat.le_succ _, fun m h => h⟩
 | none => exact ⟨rfl, rfl, rfl, rfl, rfl, by simp, by simp, by simp, fun m h r hr => by
    rcases List.mem_append.1 hr with hr | hr
    · exact h r hr
    · rw [List.mem_singleton.1 hr]; exact Nat.zero_le _⟩
set_option maxHeartbeats 1000000 in
theorem node_miss {w : World} {tb : Nat} {L : Ly} {T : Tb} (h : TAt w tb L T) (ab : Int) (lo hh : Nat) (hab : Fits ab) (hne : lo ≠ hh) (hu : ∀ p ∈ T.made, p.1 ≠ (ab, lo, hh)) (hrl : Sm (T.rows.length + 1)) (hfl : Sm (T.fresh.length + 1)) (hlo : lo < T.rows.length) (hhi : hh < T.rows.length) (hfree : ∀ x ∈ T.free, x < T.rows.length) (hus : ∀ r ∈ T.rows, r.users ≤ 549755813888) :
 Calls Tryz.prog 64 #[.pointer (some ⟨tb, 0, none⟩), .int .i64 ab, .int .i64 (lo : Int), .int .i64 (hh : Int)] w fun e w' => e = .returned (.int .i64 ((numberP T).2 : Int)) ∧ ∃ L', TAt w' tb L' (nodeP T ab lo hh) ∧ FrT L L' w w' := by
 have hrl' : T.rows.length + 1 ≤ 1099511627776 := hrl
 have hfl' : T.fresh.length + 1 ≤ 1099511627776 := hfl
 have slo : Sm lo := by unfold Sm; omega
 have shh : Sm hh := by unfold Sm; omega
 have hk := keyA (a := ab) (b := (lo : Int)) (c := (hh : Int)) hab slo.fits shh.fits
 have n1 : ((lo : Int) == (hh : Int)) = false := by simp; omega
 obtain ⟨e1, e2, e3, e4, e5, e6, e7, e8, e9⟩ := numberP_facts T hfree
 obtain ⟨r, r1, r2, p1, p2, p3, p4⟩ := layM_eq (ab := ab) (f := (numberP T).2) (lo := lo) (hh := hh) e6 (Nat.lt_of_lt_of_le hlo e7) (Nat.lt_of_lt_of_le hhi e7)
 have hN : Hid (Calls _ _ _ _ _) := number_any (h.alloc (.cells #[.int .i64 ab, .int .i64 (lo : Int), .int .i64 (hh : Int)] 89)).drew (by omega) hrl
 have hus' := e9 _ hus
 have u1 : r1.users ≤ 1099511627776 := by
  have h1 := users_modify (g := askR ab lo hh) (i := (numberP T).2) (fun x => Nat.le_succ _) hus' (by rw [modify_set _ p1]; exact p2)
  omega
 have u2 : r2.users ≤ 1099511627776 := by
  have hx : ∀ x ∈ (numberP T).1.rows.modify (numberP T).2 (askR ab lo hh), x.users ≤ 549755813888 + 1 := fun x hx => by
   obtain ⟨j, hj⟩ := List.getElem?_of_mem hx
   exact users_modify (g := askR ab lo hh) (fun x => Nat.le_succ _) hus' hj
  have h1 := users_modify (g := moreR) (i := lo) (fun x => Nat.le_refl _) hx (by rw [modify_set _ p1]; rw [show askR ab lo hh r = { r with about := ab, low := lo, high := hh } from rfl, modify_set _ p2]; exact p3)
  omega
 obtain ⟨T1, hT1⟩ : ∃ T1, (numberP T).1 = T1 := ⟨_, rfl⟩
 obtain ⟨f, hf⟩ : ∃ f, (numberP T).2 = f := ⟨_, rfl⟩
 have hNP : nodeP T ab lo hh = { T1 with fresh := T1.fresh ++ [f], rows := layR T1.rows f ab lo hh r r1 r2, made := T1.made ++ [((ab, lo, hh), f)] } := by
  unfold nodeP; rw [p4, hT1, hf]
 have HNP : Hid (nodeP T ab lo hh = { T1 with fresh := T1.fresh ++ [f], rows := layR T1.rows f ab lo hh r r1 r2, made := T1.made ++ [((ab, lo, hh), f)] }) := hNP
 clear hNP p4
 rw [hT1] at e1 e2 e3 e4 e5 e6 e7 e8 p1 p2 p3 hN
 rw [hf] at e6 p1 p2 p3 hN ⊢
 have hfs : f ≤ 1099511627776 := by omega
 have hfr1 : T1.fresh.length + 1 ≤ 1099511627776 := by rw [e5]; exact hfl'
 have HL : Hid (∀ (W : World) (L2 : Ly), TAt W tb L2 { T1 with fresh := T1.fresh ++ [f] } → Calls _ _ _ _ _) := fun W L2 hT => lay_any hT f ab lo hh r r1 r2 hab slo shh p1 p2 p3 u1 u2 (by show ∀ p ∈ T1.made, _; rw [e3]; exact hu)
 unfold askV at HL
 have HM : Hid (∀ p ∈ T.made, p.1 ≠ (ab, lo, hh)) := hu
 have HG : Hid (TAt (w.alloc (.cells #[.int .i64 ab, .int .i64 (lo : Int), .int .i64 (hh : Int)] 89)) tb L T) := h.alloc _
 have HF : Hid (FrT L L w (w.alloc (.cells #[.int .i64 ab, .int .i64 (lo : Int), .int .i64 (hh : Int)] 89))) := FrT.of ((Fr.refl (fun _ => True) w).alloc _) fun _ _ _ => trivial
 have HB : Hid ((w.alloc (.cells #[.int .i64 ab, .int .i64 (lo : Int), .int .i64 (hh : Int)] 89)).heap[w.heap.size]? = some (.cells #[.int .i64 ab, .int .i64 (lo : Int), .int .i64 (hh : Int)] 89 (0, 0))) := heap_new rfl
 have hba0 := h.hi _ (Nat.le_refl _)
 have mo := follows
 clear h hu hus hus' e1 e2 e3 e4 e5 e6 e7 e8 e9 hrl hfl hfree p1 p2 p3 u1 u2 hlo hhi hT1 hf slo shh
 go_enter Tryz.func64, Tryz.ntmps64
 go_wp2_with fail
 generalize (w.alloc (.cells #[.int .i64 ab, .int .i64 (lo : Int), .int .i64 (hh : Int)] 89)) = W at HG HF HB hN ⊢
 obtain ⟨ba, hba⟩ : ∃ ba, w.heap.size = ba := ⟨_, rfl⟩
 rw [hba] at HB hba0 ⊢
 have HBA : Hid (L.own ba = 0) := hba0
 have HW : Hid (w.heap.size = ba) := hba
 clear hba hba0
 have HGd : Hid (TAt W.drew tb L T) := HG.out.drew
 have HBd : Hid (W.drew.heap[ba]? = _) := HB.out
 have l1 := (HG.out.md trivial).1.miss lawA Tryz.underlying77 (zeroN W) hk (madeL_ne HM.out) true
 have l1d := (HGd.out.md trivial).1.miss lawA Tryz.underlying77 (zeroN W.drew) hk (madeL_ne HM.out) true
 rw [if_pos rfl] at l1 l1d
 have b4 := HG.out.b4
 have b4d := HGd.out.b4
 have a0 := block_cell HB.out 0
 have a1 := block_cell HB.out 1
 have a2 := block_cell HB.out 2
 have a0d := block_cell HBd.out 0
 have a1d := block_cell HBd.out 1
 have a2d := block_cell HBd.out 2
 go_big_region_o
 clear a0 a1 a2 a0d a1d a2d b4 b4d l1 l1d
 all_goals
  have HFd : Hid (FrT L L w W.drew) := HF.out.trans (FrT.of (Fr.refl (fun _ => True) W).drew fun _ _ _ => trivial)
  clear HG HF HB HM
  generalize W.drew = W1 at HGd HFd HBd hN ⊢
  go_wp2_with fail
  refine hN.out.mono ?_
  rintro e W2 ⟨rfl, L2, hG2, hf2⟩
  have F2 : Hid (FrT L L2 w W2) := HFd.out.trans hf2
  have B2 : Hid (W2.heap[ba]? = some (.cells #[.int .i64 ab, .int .i64 (lo : Int), .int .i64 (hh : Int)] 89 (0, 0))) := (hf2.block ba (block_lt HBd.out) HBA.out).trans HBd.out
  have B2o : Hid (L2.own ba = 0) := (hf2.own ba (block_lt HBd.out)).trans HBA.out
  have X2 : Hid (TAt W2 tb L2 T1) := hG2
  obtain ⟨fa, fc, hfs6⟩ := hG2.len 6 (by omega) (by omega)
  have hfs6 : L2.val 6 = .slice fa T1.fresh.length fc := hfs6
  have c6 : W2.cell? ⟨tb, 6, none⟩ = some (.slice fa T1.fresh.length fc) := by rw [hG2.cell 6]; show some (L2.val 6) = _; rw [hfs6]
  obtain ⟨i0, hi0, hz0, hz1, hz2⟩ := infoNode
  have HO6 : Hid (OwnR W2 L2.own 6 32 1 (L2.val 6) T1.fresh.length (i64C T1.fresh)) := hG2.sl 6 (by omega) (by omega) trivial
  have HV : Hid (L2.val 6 = .slice fa T1.fresh.length fc) := hfs6
  have HOA : Hid ((W2.alloc (.cells #[.int .i64 (f : Int)] 32)).ownsRow 0 32 1 (.slice fa T1.fresh.length fc) T1.fresh.length (i64C T1.fresh)) := by rw [← hfs6]; exact HO6.out.1.alloc _
  clear hN HGd HFd HBd hf2 hG2 hfs6
  go_wp2_with (at_builtin; refine wpList_append_lies _ rfl _ _ 35 rfl 0 32 i0 _ 1 8 Tryz.underlying35 hi0 hz0 hz1 hz2 rfl (by decide) (.slice fa T1.fresh.length fc) _ _ rfl HOA.out ⟨W2.heap.size, 0, none⟩ 1 1 [.int .i64 (f : Int)] rfl rfl ?q1 ?q2 (by decide) ?q3 ?q4 ?q5 (W2.heap.size + 1) ?q6 ?_)
  case q1 => exact World.news_of_block (heap_new rfl)
  case q2 =>
   intro u hu
   simp only [List.mem_cons, List.not_mem_nil, or_false] at hu
   rcases hu with rfl; rfl
  case q3 => unfold maxLen; omega
  case q4 => omega
  case q5 => simp
  case q6 => simp
  intro g' cap' w1 ho hg hat hlt
  obtain ⟨p0, p1, p2, p3⟩ := (X2.out.alloc (.cells #[.int .i64 (f : Int)] 32)).app (t := 6) (T' := { T1 with fresh := T1.fresh ++ [f] }) ((Fr.refl _ W2).alloc _) (by omega) (by omega) ⟨fun s hs => by unfold Tb.len Tb.cells; simp [hs], fun _ => rfl, fun _ => rfl⟩ (g := g') (cap := cap') (v' := .slice (some ⟨g', 0, none⟩) (T1.fresh.length + 1) cap') (by show _ = Value.slice _ (T1.fresh ++ [f]).length _; simp) (by
   show w1.ownsRow 0 32 1 _ (T1.fresh ++ [f]).length (i64C (T1.fresh ++ [f]))
   rw [List.length_append, show i64C (T1.fresh ++ [f]) = i64C T1.fresh ++ [.int .i64 (f : Int)] by simp [i64C]]; exact ho) (by rw [HV.out]; exact hg) (by
   rw [HV.out]
   rcases hat with q | q
   · exact .inl q
   · exact .inr (by simp; omega))
  have P2 : Hid (TAt _ tb _ { T1 with fresh := T1.fresh ++ [f] }) := p2
  have P3 : Hid (FrT _ _ _ _) := p3
  have p1' : w1.cell? ⟨tb, 6, none⟩ = some (.slice fa T1.fresh.length fc) := by rw [← HV.out]; exact p1
  have p0' : w1.frozen? ⟨tb, 6, none⟩ = false := p0
  have B3 : Hid (_ = _) := (p3.block ba (block_lt B2.out) B2o.out).trans B2.out
  have a0 := block_cell B3.out 0
  have a1 := block_cell B3.out 1
  have a2 := block_cell B3.out 2
  rw [show fld 6 = 6 from rfl] at P2 P3 B3 a0 a1 a2
  have HLC : Hid (Calls _ _ _ _ _) := HL.out _ _ P2.out
  have F3 : Hid (FrT L _ w _) := F2.out.trans P3.out
  clear p0 p1 p2 p3 ho hg hat hlt HL HOA HO6 c6 X2 F2 B2 B2o P2 P3 B3
  go_wp2_with (go_at_call 60; refine HLC.out.mono ?_; rintro e W5 ⟨rfl, hX5, hF5⟩; have X5 : Hid (TAt _ tb _ _) := hX5; have F5 : Hid (FrT L _ w W5) := F3.out.trans hF5; clear hX5 hF5)
  go_ret
  rw [HNP.out]
  exact ⟨rfl, _, X5.out, F5.out⟩
end Go.Proofs.YtaakjjefnjbabaaGreat.Sx
