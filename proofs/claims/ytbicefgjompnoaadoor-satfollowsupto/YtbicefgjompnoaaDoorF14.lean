/- The program: set. -/
import Derived.Test.YtbicefgjompnoaaDoorF13
import Derived.Deep.RegionLawGrows
namespace Go.Proofs.YtbicefgjompnoaaDoor.Sx
open Go.RowKit Go.Sort Go.Lib

/-- what set gives: nothing, if it is always true, else a row of its own -/
def SetPost2 (w : World) (len : Nat) (L : List Nat) (e : Ending) (w' : World) : Prop := Fr (fun _ => True) w w' ∧ ∃ c, SetOf L c ∧ ((alwaysP c = true ∧ e = .returned (.tuple #[.slice none 0 0, .bool true])) ∨ (alwaysP c = false ∧ e = .returned (.tuple #[.slice (some ⟨w.heap.size, 0, none⟩) c.length len, .bool false]) ∧ ∃ d : Array Nat, d.size = len ∧ d.toList.take c.length = c ∧ LRow w' w.heap.size d))

theorem litV_small {n : Nat} {s : List Nat × List Nat} (h : NmOK n s) (hn : n ≤ 16777216) (x : Int) : litV s x < 33554434 := by
  have hq : s.1.getD x.natAbs 0 ≤ n := by
    cases hv : s.1.getD x.natAbs 0 with
    | zero => omega
    | succ k =>
      have := (List.getElem?_eq_some_iff.1 (h.back _ _ hv)).1
      have := h.few
      omega
  unfold litV
  split <;> omega

set_option maxRecDepth 100000 in
set_option maxHeartbeats 2000000 in
theorem set2_any (w : World) (n pb fb base lo : Nat) (s : List Nat × List Nat) (lv : Value) (l : List Int) (hn : n ≤ 16777216) (hA : NmAt w n pb fb base s) (hl : IntsAt w lo lv l) (hll : l.length ≤ 4294967296) (hL : ∀ x ∈ l, LitN n x ∧ s.1.getD x.natAbs 0 ≠ 0) :
    Calls Tryd.prog 43 #[.pointer (some ⟨fb, 0, none⟩), lv] w (SetPost2 w l.length (l.map (litV s))) := by
  have mo := follows
  obtain ⟨a_, cc_, rfl, _⟩ := hl.ex
  have HLC := lits_any w n pb fb base lo s _ l hn hA hl hll hL
  have hsm : ∀ x ∈ l.map (litV s), x < 33554434 := fun x hx => by
    obtain ⟨y, _, rfl⟩ := List.mem_map.1 hx
    exact litV_small hA.ok hn y
  have HSM : Hid (∀ x ∈ l.map (litV s), x < 33554434) := hsm
  have hlm : (l.map (litV s)).length = l.length := by simp
  generalize l.map (litV s) = LL at HLC HSM hlm ⊢
  obtain ⟨g, hg⟩ : ∃ g, w.heap.size = g := ⟨_, rfl⟩
  have HG : Hid (w.heap.size = g) := hg
  have FT : Hid (∀ W, Fr (· ≠ g) w W → Fr (fun _ => True) w W) := fun W f => ⟨f.os, f.tape, f.output, f.size, fun t ht _ => f.block t ht (by show t ≠ g; omega)⟩
  rw [hg] at HLC
  unfold SetPost2
  rw [hg]
  have HC1 : Hid (Calls Tryd.prog 16 #[.pointer (some ⟨fb, 0, none⟩), .slice a_ l.length cc_] w fun e w' => e = .returned (.slice (some ⟨g, 0, none⟩) l.length l.length) ∧ LRow w' g LL.toArray ∧ Fr (fun _ => True) w w') := HLC
  clear hl hL hA hg HLC hsm
  go_enter Tryd.func43, Tryd.ntmps43
  go_upto_region 2 with (go_at_call 16; refine HC1.out.mono ?_; rintro e w1 ⟨rfl, h1, h2⟩)
  have F1 : Hid (Fr (· ≠ g) w w1) := h2.mono fun _ _ => trivial
  have HC2 := sort_any w1 g l.length l.length LL.toArray h1 hll (by simp; omega)
  clear HC1 h2
  go_upto_region 3 with (go_at_call 59; refine HC2.mono ?_; rintro e w2 ⟨rfl, d, hd, h3, h4⟩)
  have F2 : Hid (Fr (· ≠ g) w w2) := F1.out.trans h4
  have hds : d.size = l.length := hd.1.1.trans (by simp [hlm])
  have hd2 : SortsTo LL.toArray.size LL.toArray d := by rw [show LL.toArray.size = l.length from by simp [hlm]]; exact hd
  have hset := (sorts_set hd2).2
  have HC3 := compact_any w2 g l.length d h3 (by omega) (by omega)
  rw [hds] at HC3 hset
  rw [show LL.toArray.toList = LL from by simp] at hset
  obtain ⟨c, hc⟩ : ∃ c, compactUpTo d l.length = c := ⟨_, rfl⟩
  rw [hc] at HC3 hset
  have HST : Hid (SetOf LL c) := hset
  have HC4 : Hid (Calls _ _ _ _ _) := HC3
  clear HC2 h1 h3 h4 F1 hd hd2 hds hset hc HC3
  go_upto_region 4 with (go_at_call 60; refine HC4.out.mono ?_; rintro e w3 ⟨rfl, ⟨d, hds, htk, h5⟩, h6⟩)
  have HF : Hid (Fr (· ≠ g) w w3) := F2.out.trans h6
  have HL : Hid (LRow w3 g d) := h5
  have HT : Hid (d.toList.take c.length = c) := htk
  have hcl : c.length ≤ l.length := by
    have := congrArg List.length htk
    rw [List.length_take] at this
    have : d.toList.length = l.length := by simp [hds]
    omega
  have hdl : d.size = l.length := hds
  have hget : ∀ i x, c[i]? = some x → i < d.size ∧ d[i]! = x := fun i x hx => by
    have hi : i < c.length := (List.getElem?_eq_some_iff.1 hx).1
    rw [← htk, List.getElem?_take, if_pos hi] at hx
    have hi2 : i < d.size := by omega
    refine ⟨hi2, ?_⟩
    simpa [hi2] using hx
  have HGT : Hid (∀ i x, c[i]? = some x → i < d.size ∧ d[i]! = x) := hget
  have HAN := always_near HST.out.asc
  clear HC4 h5 h6 F2 htk hds hget
  rcases (show c = [] ∨ (∃ x, c = [x]) ∨ 2 ≤ c.length from by
    match c with
    | [] => exact .inl rfl
    | [x] => exact .inr (.inl ⟨x, rfl⟩)
    | _ :: _ :: _ => exact .inr (.inr (by simp))) with rfl | ⟨x, rfl⟩ | hc2
  · have HB : Hid (alwaysP [] = false) := rfl
    clear HAN
    by_cases hl0 : l.length = 0
    · go_wp2_with fail
      go_loopg [22] (0) (fun k s22 wr => s22 = .int .i64 0 ∧ wr = w3)
      case atStart => exact ⟨rfl, rfl⟩
      case round =>
        obtain ⟨rfl, rfl⟩ := hrel
        go_wp2_with fail
        exact bodyPost_ret (v := .tuple #[.slice (some ⟨g, 0, none⟩) 0 l.length, .bool false]) (by simp [results, Tryd.results43, go_sem]) rfl ⟨FT.out _ HF.out, _, HST.out, .inr ⟨HB.out, rfl, d, hdl, HT.out, HL.out⟩⟩
    · go_wp2_with fail
      go_loopg [22] (0) (fun k s22 wr => s22 = .int .i64 0 ∧ wr = w3)
      case atStart => exact ⟨rfl, rfl⟩
      case round =>
        obtain ⟨rfl, rfl⟩ := hrel
        go_wp2_with fail
        exact bodyPost_ret (v := .tuple #[.slice (some ⟨g, 0, none⟩) 0 l.length, .bool false]) (by simp [results, Tryd.results43, go_sem]) rfl ⟨FT.out _ HF.out, _, HST.out, .inr ⟨HB.out, rfl, d, hdl, HT.out, HL.out⟩⟩
  · have HB : Hid (alwaysP [x] = false) := HAN
    clear HAN
    by_cases hl1 : l.length = 1
    · go_wp2_with fail
      go_loopg [22] (0) (fun k s22 wr => s22 = .int .i64 0 ∧ wr = w3)
      case atStart => exact ⟨rfl, rfl⟩
      case round =>
        obtain ⟨rfl, rfl⟩ := hrel
        go_wp2_with fail
        exact bodyPost_ret (v := .tuple #[.slice (some ⟨g, 0, none⟩) 1 l.length, .bool false]) (by simp [results, Tryd.results43, go_sem]) rfl ⟨FT.out _ HF.out, _, HST.out, .inr ⟨HB.out, rfl, d, hdl, HT.out, HL.out⟩⟩
    · have hl2 : 1 < l.length := by simp at hcl; omega
      go_wp2_with fail
      go_loopg [22] (0) (fun k s22 wr => s22 = .int .i64 0 ∧ wr = w3)
      case atStart => exact ⟨rfl, rfl⟩
      case round =>
        obtain ⟨rfl, rfl⟩ := hrel
        go_wp2_with fail
        exact bodyPost_ret (v := .tuple #[.slice (some ⟨g, 0, none⟩) 1 l.length, .bool false]) (by simp [results, Tryd.results43, go_sem]) rfl ⟨FT.out _ HF.out, _, HST.out, .inr ⟨HB.out, rfl, d, hdl, HT.out, HL.out⟩⟩
  · have hmin : min (1 : Int) (c.length : Int) = 1 := by omega
    obtain ⟨B, hB⟩ : ∃ B, nearP c = B := ⟨_, rfl⟩
    rw [hB] at HAN
    have HB : Hid (alwaysP c = B) := HAN
    have HU0 : Hid (nearP (c.drop 0) = B) := hB
    clear HAN hB
    have hl2 : 2 ≤ l.length := by omega
    have hl3 : 1 < l.length := by omega
    have hl4 : l.length ≠ 1 := by omega
    have hc1 : 1 ≤ c.length := by omega
    go_wp2_with fail
    go_loopg [22] (c.length - 1) (fun k s22 wr => ∃ (j : Nat), s22 = .int .i64 (j : Int) ∧ j + k = c.length - 1 ∧ Hid (LRow wr g d) ∧ Hid (Fr (· ≠ g) w wr) ∧ Hid (nearP (c.drop j) = B))
    case atStart => exact ⟨0, rfl, by omega, HL, HF, HU0⟩
    case round =>
      clear HL HF HU0
      obtain ⟨j, rfl, hjk, HL, HF, HU⟩ := hrel
      by_cases hj : j < c.length - 1
      · obtain ⟨k, rfl⟩ : ∃ k, gk = k + 1 := ⟨gk - 1, by omega⟩
        have hj1 : j < c.length := by omega
        have hj2 : j + 1 < c.length := by omega
        obtain ⟨x, hx⟩ : ∃ x, c[j] = x := ⟨_, rfl⟩
        obtain ⟨y, hy⟩ : ∃ y, c[j + 1] = y := ⟨_, rfl⟩
        have hd : c.drop j = x :: y :: c.drop (j + 2) := by rw [List.drop_eq_getElem_cons hj1, List.drop_eq_getElem_cons hj2, hx, hy]
        have hd1 : c.drop (j + 1) = y :: c.drop (j + 2) := by rw [List.drop_eq_getElem_cons hj2, hy]
        obtain ⟨q1, q2⟩ := HGT.out j x (by rw [List.getElem?_eq_getElem hj1, hx])
        obtain ⟨q3, q4⟩ := HGT.out (j + 1) y (by rw [List.getElem?_eq_getElem hj2, hy])
        have c0 := HL.out.cell q1
        have c1 := HL.out.cell q3
        rw [q2] at c0
        rw [q4, Nat.add_comm] at c1
        have hys : y < 33554434 := HSM.out y ((HST.out.mem y).1 (hy ▸ List.getElem_mem hj2))
        have j0 : (0 : Int) ≤ (j : Int) := by omega
        have j1 : (j : Int) < ((c.length - 1 : Nat) : Int) := by omega
        have j2 : (j : Int) < (c.length : Int) := by omega
        have hu := HU.out
        rw [hd] at hu
        unfold nearP at hu
        rw [← hd1] at hu
        have HO : Hid (∀ w, Calls Tryd.prog 33 #[.int .i32 (y : Int)] w fun e w' => e = .returned (.int .i32 (opp y : Int)) ∧ w' = w) := fun w => opposite_any w y (by omega)
        clear HU hx hy hd hd1 q1 q2 q3 q4
        cases hxy : (x == opp y) with
        | true =>
          rw [hxy, Bool.true_or] at hu
          subst hu
          have e1 : ((x : Int) == (opp y : Int)) = true := by rw [beq_iff_eq] at hxy ⊢; rw [hxy]
          clear hxy
          go_wp2_with fail
          go_quiet ((go_at_call 33; exact Calls.quiet_of_same (HO.out _)))
          go_wp2_with fail
          exact bodyPost_ret (v := .tuple #[.slice none 0 0, .bool true]) (by simp [results, Tryd.results43, go_sem]) rfl ⟨FT.out _ (HF.out.drewN _), c, HST.out, .inl ⟨HB.out, rfl⟩⟩
        | false =>
          rw [hxy, Bool.false_or] at hu
          have HU : Hid (nearP (c.drop (j + 1)) = B) := hu
          have e1 : ((x : Int) == (opp y : Int)) = false := by
            rw [beq_eq_false_iff_ne] at hxy ⊢
            omega
          clear hxy hu
          go_wp2_with fail
          go_quiet ((go_at_call 33; exact Calls.quiet_of_same (HO.out _)))
          go_wp2_with fail
          go_roundg k
          case measure => omega
          case rel => exact ⟨j + 1, by simp, by omega, HL.out.drewN _, HF.out.drewN _, HU⟩
      · have j1 : ¬ (j : Int) < ((c.length - 1 : Nat) : Int) := by omega
        have hdl1 : c.drop j = [c[c.length - 1]] := by
          obtain rfl : j = c.length - 1 := by omega
          rw [List.drop_eq_getElem_cons (by omega), show c.length - 1 + 1 = c.length from by omega, List.drop_length]
        have hu := HU.out
        rw [hdl1] at hu
        unfold nearP at hu
        subst hu
        clear HU hdl1
        go_wp2_with fail
        exact bodyPost_ret (v := .tuple #[.slice (some ⟨g, 0, none⟩) c.length l.length, .bool false]) (by simp [results, Tryd.results43, go_sem]) rfl ⟨FT.out _ HF.out, c, HST.out, .inr ⟨HB.out, rfl, d, hdl, HT.out, HL.out⟩⟩

end Go.Proofs.YtbicefgjompnoaaDoor.Sx
/- The store in memory. -/
namespace Go.Proofs.YtbicefgjompnoaaDoor.Sx
open Go.RowKit Go.Sort

/-- a store (plain) -/
structure St where
  rows : List (Option (List Nat))
  single : List Nat
  empty : Nat
  watches : List (List (Nat × Nat))
  truth : List Int
  why : List Int
  depth : List Int
  trail : List Nat
  done : Nat
  cuts : List Nat
/-- where it lies: blocks, rows' values, and which block is whose: (1, 0) the struct, (2, 0) rows, (3, 0) single, (4, 0) watches, (5, 0) truth, (6, 0) why, (7, 0) depth, (8, 0) trail, (9, 0) cuts, (10, l) the watches of a literal, (11, r) a row; (0, 0) none of it -/
structure Ly where
  sb : Nat
  wb : Nat
  tb : Nat
  yb : Nat
  db : Nat
  rv : Value
  sv : Value
  tv : Value
  cv : Value
  wv : List Value
  rr : List Value
  own : Nat → Nat × Nat

def stC (L : Ly) (n : Nat) (s : St) : Array Value := #[L.rv, L.sv, .int .i64 (s.empty : Int), .slice (some ⟨L.wb, 0, none⟩) (2 * n) (2 * n), .slice (some ⟨L.tb, 0, none⟩) (2 * n) (2 * n), .slice (some ⟨L.yb, 0, none⟩) n n, .slice (some ⟨L.db, 0, none⟩) n n, L.tv, .int .i64 (s.done : Int), L.cv]
def i8C (l : List Int) : Array Value := (l.map fun x => Value.int .i8 x).toArray
def i32C (l : List Int) : Array Value := (l.map fun x => Value.int .i32 x).toArray
def i64C (l : List Nat) : List Value := l.map fun x : Nat => Value.int .i64 (x : Int)
def flatW (l : List (Nat × Nat)) : List Value := l.flatMap fun p => [Value.int .i32 (p.1 : Int), Value.int .i32 (p.2 : Int)]
/-- a row of its own whose block is the tag's -/
def OwnR (w : World) (own : Nat → Nat × Nat) (t : Nat × Nat) (e k : Nat) (v : Value) (n : Nat) (xs : List Value) : Prop := w.ownsRow 0 e k v n xs ∧ ∀ g, v.ownBlock = some g → own g = t
/-- a row of literals, or one that is gone -/
def RowAt (w : World) (own : Nat → Nat × Nat) (r : Nat) (v : Value) : Option (List Nat) → Prop
  | none => v = .slice none 0 0
  | some c => ∃ (b : Nat) (d : Array Nat), v = .slice (some ⟨b, 0, none⟩) c.length d.size ∧ own b = (11, r) ∧ LRow w b d ∧ d.toList.take c.length = c ∧ d.size ≤ 4294967296

/-- the store in memory, as far as the tags are asked for -/
structure SAtK (K : Nat × Nat → Prop) (w : World) (L : Ly) (n : Nat) (s : St) : Prop where
  st : K (1, 0) → w.heap[L.sb]? = some (.cells (stC L n s) 54 (0, 0)) ∧ L.own L.sb = (1, 0)
  wt : K (4, 0) → w.heap[L.wb]? = some (.cells L.wv.toArray 86 (0, 0)) ∧ L.own L.wb = (4, 0)
  tr : K (5, 0) → w.heap[L.tb]? = some (.cells (i8C s.truth) 72 (0, 0)) ∧ L.own L.tb = (5, 0)
  wy : K (6, 0) → w.heap[L.yb]? = some (.cells (i32C s.why) 21 (0, 0)) ∧ L.own L.yb = (6, 0)
  dp : K (7, 0) → w.heap[L.db]? = some (.cells (i32C s.depth) 21 (0, 0)) ∧ L.own L.db = (7, 0)
  ro : K (2, 0) → OwnR w L.own (2, 0) 43 1 L.rv s.rows.length L.rr
  si : K (3, 0) → OwnR w L.own (3, 0) 21 1 L.sv s.single.length (v32 s.single)
  ta : K (8, 0) → OwnR w L.own (8, 0) 45 1 L.tv s.trail.length (v32 s.trail)
  cu : K (9, 0) → OwnR w L.own (9, 0) 3 1 L.cv s.cuts.length (i64C s.cuts)
  wl : ∀ l, K (10, l) → l < 2 * n → ∃ v, L.wv[l]? = some v ∧ OwnR w L.own (10, l) 88 2 v (s.watches.getD l []).length (flatW (s.watches.getD l []))
  rl : ∀ r, K (11, r) → ∀ c, s.rows[r]? = some c → ∃ v, L.rr[r]? = some v ∧ RowAt w L.own r v c
/-- lengths -/
structure SzS (L : Ly) (n : Nat) (s : St) : Prop where
  n_ : n ≤ 16777216
  tr : s.truth.length = 2 * n
  wy : s.why.length = n
  dp : s.depth.length = n
  wt : s.watches.length = 2 * n
  wv : L.wv.length = 2 * n
  rr : L.rr.length = s.rows.length
  t3 : ∀ l, s.truth.getD l 0 = 1 ∨ s.truth.getD l 0 = 0 ∨ s.truth.getD l 0 = -1
  lit : ∀ l ∈ s.trail, l < 2 * n
  few : s.trail.length ≤ n
  rows : s.rows.length ≤ 1000000000
def SAt (w : World) (L : Ly) (n : Nat) (s : St) : Prop := SAtK (fun _ => True) w L n s ∧ SzS L n s

theorem OwnR.fr {w w' : World} {own : Nat → Nat × Nat} {t : Nat × Nat} {e k : Nat} {v : Value} {n : Nat} {xs : List Value} (h : OwnR w own t e k v n xs) (f : ∀ b, b < w.heap.size → own b = t → w'.heap[b]? = w.heap[b]?) : OwnR w' own t e k v n xs := by
  refine ⟨⟨h.1.1, ?_⟩, h.2⟩
  rcases h.1.2 with q | ⟨g, cap, cur, e1, hb, hg, q⟩
  · exact .inl q
  · exact .inr ⟨g, cap, cur, e1, hb, (f g (block_lt hg) (h.2 g (by rw [e1]; rfl))).trans hg, q⟩
theorem RowAt.fr {w w' : World} {own : Nat → Nat × Nat} {r : Nat} {v : Value} {c : Option (List Nat)} (h : RowAt w own r v c) (f : ∀ b, b < w.heap.size → own b = (11, r) → w'.heap[b]? = w.heap[b]?) : RowAt w' own r v c := by
  cases c with
  | none => exact h
  | some c =>
    obtain ⟨b, d, h1, h2, h3, h4⟩ := h
    exact ⟨b, d, h1, h2, (f b (block_lt h3) h2).trans h3, h4⟩
theorem SAtK.fr {K : Nat × Nat → Prop} {w w' : World} {L : Ly} {n : Nat} {s : St} (h : SAtK K w L n s) (f : ∀ b, b < w.heap.size → K (L.own b) → w'.heap[b]? = w.heap[b]?) : SAtK K w' L n s := by
  have g : ∀ t, K t → ∀ b, b < w.heap.size → L.own b = t → w'.heap[b]? = w.heap[b]? := fun t ht b hb e => f b hb (by rw [e]; exact ht)
  have g1 : ∀ {b : Nat} {o : Obj} {t : Nat × Nat}, K t → (w.heap[b]? = some o ∧ L.own b = t) → (w'.heap[b]? = some o ∧ L.own b = t) := fun ht q => ⟨(g _ ht _ (block_lt q.1) q.2).trans q.1, q.2⟩
  exact ⟨fun k => g1 k (h.st k), fun k => g1 k (h.wt k), fun k => g1 k (h.tr k), fun k => g1 k (h.wy k), fun k => g1 k (h.dp k), fun k => (h.ro k).fr (g _ k), fun k => (h.si k).fr (g _ k), fun k => (h.ta k).fr (g _ k), fun k => (h.cu k).fr (g _ k),
    fun l k hl => by obtain ⟨v, h1, h2⟩ := h.wl l k hl; exact ⟨v, h1, h2.fr (g _ k)⟩,
    fun r k c hc => by obtain ⟨v, h1, h2⟩ := h.rl r k c hc; exact ⟨v, h1, h2.fr (g _ k)⟩⟩
theorem SAtK.mono {K K' : Nat × Nat → Prop} {w : World} {L : Ly} {n : Nat} {s : St} (h : SAtK K w L n s) (f : ∀ t, K' t → K t) : SAtK K' w L n s :=
  ⟨fun k => h.st (f _ k), fun k => h.wt (f _ k), fun k => h.tr (f _ k), fun k => h.wy (f _ k), fun k => h.dp (f _ k), fun k => h.ro (f _ k), fun k => h.si (f _ k), fun k => h.ta (f _ k), fun k => h.cu (f _ k), fun l k => h.wl l (f _ k), fun r k => h.rl r (f _ k)⟩
/-- the same blocks, other names for blocks that are new -/
theorem OwnR.own {w : World} {own own' : Nat → Nat × Nat} {t : Nat × Nat} {e k : Nat} {v : Value} {n : Nat} {xs : List Value} (h : OwnR w own t e k v n xs) (f : ∀ b, b < w.heap.size → own' b = own b) : OwnR w own' t e k v n xs := by
  refine ⟨h.1, fun g hg => ?_⟩
  rcases h.1.2 with ⟨e1, _⟩ | ⟨g', cap, cur, e1, hb, hg', q⟩
  · rw [e1] at hg; cases hg
  · have : g' = g := by rw [e1] at hg; exact Option.some.inj hg
    subst this
    rw [f _ (block_lt hg')]
    exact h.2 _ hg
theorem SAtK.own {K : Nat × Nat → Prop} {w : World} {L : Ly} {n : Nat} {s : St} (h : SAtK K w L n s) (own' : Nat → Nat × Nat) (f : ∀ b, b < w.heap.size → own' b = L.own b) : SAtK K w { L with own := own' } n s := by
  have g1 : ∀ {b : Nat} {o : Obj} {t : Nat × Nat}, (w.heap[b]? = some o ∧ L.own b = t) → (w.heap[b]? = some o ∧ own' b = t) := fun q => ⟨q.1, (f _ (block_lt q.1)).trans q.2⟩
  exact ⟨fun k => g1 (h.st k), fun k => g1 (h.wt k), fun k => g1 (h.tr k), fun k => g1 (h.wy k), fun k => g1 (h.dp k), fun k => (h.ro k).own f, fun k => (h.si k).own f, fun k => (h.ta k).own f, fun k => (h.cu k).own f,
    fun l k hl => by obtain ⟨v, h1, h2⟩ := h.wl l k hl; exact ⟨v, h1, h2.own f⟩,
    fun r k c hc => by
      obtain ⟨v, h1, h2⟩ := h.rl r k c hc
      refine ⟨v, h1, ?_⟩
      cases c with
      | none => exact h2
      | some c =>
        obtain ⟨b, d, e1, e2, e3, e4⟩ := h2
        exact ⟨b, d, e1, (f _ (block_lt e3)).trans e2, e3, e4⟩⟩
/-- what is none of the store's is as it was; old blocks keep their tags -/
structure FrS (L L' : Ly) (w w' : World) : Prop where
  os : w'.os = w.os
  tape : w'.tape = w.tape
  output : w'.output = w.output
  size : w.heap.size ≤ w'.heap.size
  block : ∀ b, b < w.heap.size → L.own b = (0, 0) → w'.heap[b]? = w.heap[b]?
  own : ∀ b, b < w.heap.size → L'.own b = L.own b
  sb : L'.sb = L.sb
theorem FrS.refl (L : Ly) (w : World) : FrS L L w w := ⟨rfl, rfl, rfl, Nat.le_refl _, fun _ _ _ => rfl, fun _ _ => rfl, rfl⟩
theorem FrS.trans {L L' L'' : Ly} {a b c : World} (h : FrS L L' a b) (k : FrS L' L'' b c) : FrS L L'' a c :=
  ⟨k.os.trans h.os, k.tape.trans h.tape, k.output.trans h.output, Nat.le_trans h.size k.size, fun i hi ho => (k.block i (Nat.lt_of_lt_of_le hi h.size) ((h.own i hi).trans ho)).trans (h.block i hi ho), fun i hi => (k.own i (Nat.lt_of_lt_of_le hi h.size)).trans (h.own i hi), k.sb.trans h.sb⟩

end Go.Proofs.YtbicefgjompnoaaDoor.Sx
/- The store in memory: cells, appends; level, open. -/
namespace Go.Proofs.YtbicefgjompnoaaDoor.Sx
open Go.RowKit Go.Sort

section
variable {w : World} {L : Ly} {n : Nat} {s : St}
theorem SAt.cell (h : SAt w L n s) (i : Nat) : w.cell? ⟨L.sb, i, none⟩ = (stC L n s)[i]? := block_cell (h.1.st trivial).1 i
theorem SAt.free (h : SAt w L n s) (i : Nat) : w.frozen? ⟨L.sb, i, none⟩ = false := frozen_block (h.1.st trivial).1 i
theorem SAt.drew (h : SAt w L n s) : SAt w.drew L n s := ⟨h.1.fr fun _ _ _ => rfl, h.2⟩
theorem SAt.drewN (h : SAt w L n s) (q : Nat) : SAt (w.drewN q) L n s := ⟨h.1.fr fun _ _ _ => rfl, h.2⟩
theorem SAt.alloc (h : SAt w L n s) (o : Obj) : SAt (w.alloc o) L n s := ⟨h.1.fr fun _ hb _ => heap_alloc_old w o hb, h.2⟩
theorem SAt.truth (h : SAt w L n s) {l : Nat} (hl : l < 2 * n) : w.cell? ⟨L.tb, l, none⟩ = some (.int .i8 (s.truth.getD l 0)) := by
  rw [block_cell (h.1.tr trivial).1]
  have : l < s.truth.length := by rw [h.2.tr]; exact hl
  simp [i8C, this]
end
/-- the tag of the block that comes next -/
def ownT (own : Nat → Nat × Nat) (k : Nat) (t : Nat × Nat) (b : Nat) : Nat × Nat := if b = k then t else own b
theorem ownT_old {own : Nat → Nat × Nat} {k b : Nat} {t : Nat × Nat} (h : b < k) : ownT own k t b = own b := by unfold ownT; rw [if_neg (by omega)]
/-- a row that has grown -/
theorem OwnR.app {w w1 : World} {own : Nat → Nat × Nat} {t : Nat × Nat} {e k : Nat} {v v' : Value} {n n' : Nat} {xs xs' : List Value} (h : OwnR w own t e k v n xs) (ho : w1.ownsRow 0 e k v' n' xs') (hb : v'.ownBlock = v.ownBlock ∨ v'.ownBlock = some w.heap.size) : OwnR w1 (ownT own w.heap.size t) t e k v' n' xs' := by
  refine ⟨ho, fun g hg => ?_⟩
  unfold ownT
  split
  · rfl
  · rename_i hne
    rcases hb with q | q
    · rw [q] at hg
      exact h.2 g hg
    · rw [q] at hg
      exact absurd (Option.some.inj hg).symm hne
theorem OwnR.lt {w : World} {own : Nat → Nat × Nat} {t : Nat × Nat} {e k : Nat} {v : Value} {n : Nat} {xs : List Value} (h : OwnR w own t e k v n xs) {g : Nat} (hg : v.ownBlock = some g) : g < w.heap.size := by
  rcases h.1.2 with ⟨e1, _⟩ | ⟨g', cap, cur, e1, hb, hg', q⟩
  · rw [e1] at hg; cases hg
  · have : g' = g := by rw [e1] at hg; exact Option.some.inj hg
    subst this
    exact block_lt hg'
theorem OwnR.form {w : World} {own : Nat → Nat × Nat} {t : Nat × Nat} {e k : Nat} {v : Value} {n : Nat} {xs : List Value} (h : OwnR w own t e k v n xs) : ∃ a cap, v = .slice a n cap := by
  rcases h.1.2 with ⟨e, hn⟩ | ⟨g', cap', cur, e, _⟩
  · exact ⟨none, 0, by rw [e, hn]⟩
  · exact ⟨_, _, e⟩
/-- what an append leaves: the blocks of all other tags -/
theorem OwnR.kept {w w1 : World} {own : Nat → Nat × Nat} {t : Nat × Nat} {e k : Nat} {v : Value} {n : Nat} {xs : List Value} (h : OwnR w own t e k v n xs) (hg : w.grownBy w1 v.ownBlock) {b : Nat} (hb : b < w.heap.size) (ht : own b ≠ t) : w1.heap[b]? = w.heap[b]? := hg.block b hb fun q => ht (h.2 b q.symm)
/-- the store, when a row of one tag has grown, and nothing else: what is left of it -/
theorem SAt.grown {w w1 : World} {L : Ly} {n : Nat} {s : St} (h : SAt w L n s) {t : Nat × Nat} {e k : Nat} {v : Value} {m : Nat} {xs : List Value} (hr : OwnR w L.own t e k v m xs) (hg : w.grownBy w1 v.ownBlock) : SAtK (· ≠ t) w1 { L with own := ownT L.own w.heap.size t } n s := by
  have h1 : SAtK (· ≠ t) w { L with own := ownT L.own w.heap.size t } n s := (h.1.mono (K' := (· ≠ t)) fun _ _ => trivial).own _ fun b hb => ownT_old hb
  refine h1.fr fun b hb ht => hr.kept hg hb ?_
  have : ownT L.own w.heap.size t b = L.own b := ownT_old hb
  exact fun q => ht (this.trans q)

set_option maxRecDepth 100000 in
set_option maxHeartbeats 1000000 in
theorem level_any (w : World) (L : Ly) (n : Nat) (s : St) (h : SAt w L n s) : Calls Tryd.prog 34 #[.pointer (some ⟨L.sb, 0, none⟩)] w fun e w' => e = .returned (.int .i64 (s.cuts.length : Int)) ∧ w' = w := by
  have mo := follows
  obtain ⟨a, cap, hv⟩ := (h.1.cu trivial).form
  have c9 := h.cell 9
  simp only [stC, hv] at c9
  have c9 : w.cell? ⟨L.sb, 9, none⟩ = some (.slice a s.cuts.length cap) := c9
  go_enter Tryd.func34, Tryd.ntmps34
  go_wp2_with fail
  go_ret
  exact ⟨rfl, rfl⟩

end Go.Proofs.YtbicefgjompnoaaDoor.Sx
