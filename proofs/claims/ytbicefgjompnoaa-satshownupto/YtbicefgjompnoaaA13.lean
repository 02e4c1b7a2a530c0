/- The program: lits. -/
import Derived.Test.YtbicefgjompnoaaA05
import Derived.Test.YtbicefgjompnoaaA12
namespace Go.Proofs.Ytbicefgjompnoaa.Sx
open Go.RowKit Go.Sort

/-- a number's literal -/
def litV (s : List Nat × List Nat) (x : Int) : Nat := if 0 < x then 2 * (s.1.getD x.natAbs 0 - 1) else 2 * (s.1.getD x.natAbs 0 - 1) + 1
theorem info70 : ∃ i0, Try.prog.info? 70 = some i0 ∧ i0.zero = some (.int .i32 0) ∧ i0.size = 1 ∧ i0.bytes = 4 := by
  have h : ((Try.prog.info? 70).map fun i => (i.zero, i.size, i.bytes)) = some (some (.int .i32 0), 1, 4) := by kernel_rfl
  cases hq : Try.prog.info? 70 with
  | none => rw [hq] at h; simp at h
  | some j => rw [hq] at h; simp at h; exact ⟨j, rfl, h.1, h.2.1, h.2.2⟩
theorem LRow.new (w : World) (m : Nat) : LRow (w.alloc (.cells (Array.replicate m (Value.int .i32 0)) 70)) w.heap.size (Array.replicate m 0) := by
  unfold LRow
  rw [heap_new rfl]
  simp [encL]

set_option maxRecDepth 100000 in
set_option maxHeartbeats 2000000 in
theorem lits_any (w : World) (n pb fb base lo : Nat) (s : List Nat × List Nat) (lv : Value) (l : List Int) (hn : n ≤ 16777216) (hA : NmAt w n pb fb base s) (hl : IntsAt w lo lv l) (hll : l.length ≤ 4294967296) (hL : ∀ x ∈ l, LitN n x ∧ s.1.getD x.natAbs 0 ≠ 0) :
    Calls Try.prog 30 #[.pointer (some ⟨fb, 0, none⟩), lv] w fun e w' => e = .returned (.slice (some ⟨w.heap.size, 0, none⟩) l.length l.length) ∧ LRow w' w.heap.size (l.map (litV s)).toArray ∧ Fr (fun _ => True) w w' := by
  have mo := follows
  obtain ⟨i0_, hi0, hz0, hz1, hz2⟩ := info70
  obtain ⟨a, cc, rfl, _⟩ := hl.ex
  have HI : Hid (IntsAt w lo (.slice a l.length cc) l) := hl
  have HLN : Hid (∀ x ∈ l, LitN n x ∧ s.1.getD x.natAbs 0 ≠ 0) := hL
  have NA0 : Hid (NmAt w n pb fb base s) := hA
  have m1 : (Instr.makeSlice 44 (.int .i64 (l.length : Int)) (.int .i64 (l.length : Int))).run Try.prog w = .ok (.slice (some ⟨w.heap.size, 0, none⟩) l.length l.length) (w.alloc (.cells (Array.replicate l.length (Value.int .i32 0)) 70)) := by
    have := run_make (P := Try.prog) w 44 70 i0_ _ Try.underlying44 hi0 hz0 .i64 .i64 (l.length : Int) (l.length : Int) (by omega) (by omega) (by rw [hz2]; omega) (by omega)
    rw [this]
    rw [Int.toNat_natCast, hz1, made_32]
  have L0 : Hid (LRow (w.alloc (.cells (Array.replicate l.length (Value.int .i32 0)) 70)) w.heap.size (Array.replicate l.length 0)) := LRow.new w _
  have F0 : Hid (Fr (fun _ => True) w (w.alloc (.cells (Array.replicate l.length (Value.int .i32 0)) 70))) := (Fr.refl _ w).alloc _
  obtain ⟨g, hg⟩ : ∃ g, w.heap.size = g := ⟨_, rfl⟩
  have HG : Hid (w.heap.size = g) := hg
  rw [hg] at m1 L0 ⊢
  clear hl hL hA hg
  go_enter Try.func30, Try.ntmps30
  go_upto_region 2 with fail
  clear m1
  generalize w.alloc (.cells (Array.replicate l.length (Value.int .i32 0)) 70) = W0 at L0 F0 ⊢
  go_wp2_with fail
  go_loopg [13] (l.length) (fun k s13 wr => ∃ (j : Nat) (d : Array Nat), s13 = .int .i64 (j : Int) ∧ j + k = l.length ∧ d.size = l.length ∧ Hid (LRow wr g d) ∧ Hid (Fr (fun _ => True) w wr) ∧ Hid (∀ i, i < j → d[i]? = (l[i]?).map (litV s)))
  case atStart => exact ⟨0, _, rfl, by omega, by simp, L0, F0, fun i hi => by omega⟩
  case round =>
    clear L0 F0
    obtain ⟨j, d, rfl, hjk, hds, HL, HF, HD⟩ := hrel
    have NA : Hid (NmAt wr n pb fb base s) := NA0.out.of HF.out
    by_cases hj : j < l.length
    · obtain ⟨k, rfl⟩ : ∃ k, gk = k + 1 := ⟨gk - 1, by omega⟩
      obtain ⟨x, hx⟩ : ∃ x, l[j] = x := ⟨_, rfl⟩
      have hxj : l[j]? = some x := by rw [List.getElem?_eq_getElem hj, hx]
      have HX : Hid (l[j]? = some x) := hxj
      obtain ⟨a', c', e', hrow⟩ := (HI.out.of (HF.out.mono fun _ _ => trivial)).ex
      cases e'
      obtain ⟨p, rfl, _, hp⟩ : ∃ p : Addr, a = some p ∧ p.block < lo ∧ ∀ i x, l[i]? = some x → wr.cell? (p.add i) = some (.int .i64 x) := by
        rcases hrow with q | q
        · rw [q] at hj; simp at hj
        · exact q
      have cj := hp j x hxj
      have j0 : (0 : Int) ≤ (j : Int) := by omega
      have j1 : (j : Int) < (l.length : Int) := by omega
      obtain ⟨hxl, hnz⟩ := HLN.out x (hx ▸ List.getElem_mem hj)
      unfold LitN at hxl
      obtain ⟨x0, x1, x2⟩ := hxl
      have HV : Hid (x.natAbs = x.natAbs) := rfl
      clear hx hxj hp hrow
      by_cases hpos : 0 < x
      · obtain ⟨y, rfl⟩ : ∃ y : Nat, x = (y : Int) := ⟨x.natAbs, by omega⟩
        have hy : ((y : Int)).natAbs = y := by omega
        have sg : (0 : Int) < (y : Int) := by omega
        rw [hy] at hnz HV
        have hyn : y ≤ n := by omega
        have y0 : (0 : Int) ≤ (y : Int) := by omega
        have y1 : (y : Int) < (n : Int) + 1 := by omega
        have yl : y < s.1.length := by rw [NA.out.ok.len]; omega
        obtain ⟨q, hq⟩ : ∃ q, s.1.getD y 0 = q + 1 := ⟨s.1.getD y 0 - 1, by omega⟩
        have hqn : q < n := by
          have := NA.out.ok.back y q hq
          have := (List.getElem?_eq_some_iff.1 this).1
          have := NA.out.ok.few
          omega
        have cy : wr.cell? ⟨pb, y, none⟩ = some (.int .i32 ((q : Int) + 1)) := by
          rw [block_cell NA.out.pl]
          rw [List.getD_eq_getElem?_getD, List.getElem?_eq_getElem yl] at hq
          have hq2 : s.1[y] = q + 1 := by simpa using hq
          simp [v32, yl, hq2]
        have hval : litV s (y : Int) = 2 * q := by unfold litV; rw [if_pos sg, hy, hq]; omega
        have HL2 : Hid (LRow (wr.setCell ⟨g, j, none⟩ (.int .i32 (2 * (q : Int)))) g (d.setIfInBounds j (2 * q))) := by
          have := HL.out.set j (2 * q)
          rw [show ((2 * q : Nat) : Int) = 2 * (q : Int) from by omega] at this
          exact this
        have HF2 : Hid (Fr (fun _ => True) w (wr.setCell ⟨g, j, none⟩ (.int .i32 (2 * (q : Int))))) := HF.out.setB (p := ⟨g, j, none⟩) (by show w.heap.size ≤ g; rw [HG.out]; exact Nat.le_refl _) _
        have HD2 : Hid (∀ i, i < j + 1 → (d.setIfInBounds j (2 * q))[i]? = (l[i]?).map (litV s)) := by
          intro i hi
          rw [Array.getElem?_setIfInBounds]
          by_cases q : j = i
          · subst q
            rw [if_pos rfl, if_pos (by omega), HX.out]
            simp [hval]
          · rw [if_neg q]
            exact HD.out i (by omega)
        have gc := HL.out.cell (i := j) (by omega)
        have gz := HL.out.free j
        clear HD HL HF hval hq
        have NA2 : Hid (NmAt (wr.setCell ⟨g, j, none⟩ (.int .i32 (2 * (q : Int)))) n pb fb base s) := NA0.out.of HF2.out
        obtain ⟨vv, hblk, _⟩ := NA.out.ex
        have b0 := block_cell hblk 0
        clear hblk
        go_wp2_with fail
        go_roundg k
        case measure => omega
        case rel => exact ⟨j + 1, _, by simp, by omega, by simpa using hds, HL2, HF2, HD2⟩
      · obtain ⟨y, rfl⟩ : ∃ y : Nat, x = -(y : Int) := ⟨x.natAbs, by omega⟩
        have hy : (-(y : Int)).natAbs = y := by omega
        have sg : ¬ (0 : Int) < -(y : Int) := by omega
        rw [hy] at hnz HV
        have hyn : y ≤ n := by omega
        have y0 : (0 : Int) ≤ (y : Int) := by omega
        have y1 : (y : Int) < (n : Int) + 1 := by omega
        have yl : y < s.1.length := by rw [NA.out.ok.len]; omega
        obtain ⟨q, hq⟩ : ∃ q, s.1.getD y 0 = q + 1 := ⟨s.1.getD y 0 - 1, by omega⟩
        have hqn : q < n := by
          have := NA.out.ok.back y q hq
          have := (List.getElem?_eq_some_iff.1 this).1
          have := NA.out.ok.few
          omega
        have cy : wr.cell? ⟨pb, y, none⟩ = some (.int .i32 ((q : Int) + 1)) := by
          rw [block_cell NA.out.pl]
          rw [List.getD_eq_getElem?_getD, List.getElem?_eq_getElem yl] at hq
          have hq2 : s.1[y] = q + 1 := by simpa using hq
          simp [v32, yl, hq2]
        have hval : litV s (-(y : Int)) = 2 * q + 1 := by unfold litV; rw [if_neg sg, hy, hq]; omega
        have HL2 : Hid (LRow (wr.setCell ⟨g, j, none⟩ (.int .i32 (2 * (q : Int) + 1))) g (d.setIfInBounds j (2 * q + 1))) := by
          have := HL.out.set j (2 * q + 1)
          rw [show ((2 * q + 1 : Nat) : Int) = 2 * (q : Int) + 1 from by omega] at this
          exact this
        have HF2 : Hid (Fr (fun _ => True) w (wr.setCell ⟨g, j, none⟩ (.int .i32 (2 * (q : Int) + 1)))) := HF.out.setB (p := ⟨g, j, none⟩) (by show w.heap.size ≤ g; rw [HG.out]; exact Nat.le_refl _) _
        have HD2 : Hid (∀ i, i < j + 1 → (d.setIfInBounds j (2 * q + 1))[i]? = (l[i]?).map (litV s)) := by
          intro i hi
          rw [Array.getElem?_setIfInBounds]
          by_cases q : j = i
          · subst q
            rw [if_pos rfl, if_pos (by omega), HX.out]
            simp [hval]
          · rw [if_neg q]
            exact HD.out i (by omega)
        have gc := HL.out.cell (i := j) (by omega)
        have gz := HL.out.free j
        clear HD HL HF hval hq
        have NA2 : Hid (NmAt (wr.setCell ⟨g, j, none⟩ (.int .i32 (2 * (q : Int) + 1))) n pb fb base s) := NA0.out.of HF2.out
        obtain ⟨vv, hblk, _⟩ := NA.out.ex
        have b0 := block_cell hblk 0
        clear hblk
        go_wp2_with fail
        go_roundg k
        case measure => omega
        case rel => exact ⟨j + 1, _, by simp, by omega, by simpa using hds, HL2, HF2, HD2⟩
    · have j1 : ¬ (j : Int) < (l.length : Int) := by omega
      obtain rfl : j = l.length := by omega
      have hd : d = (l.map (litV s)).toArray := by
        apply Array.ext_getElem?
        intro i
        by_cases hi : i < l.length
        · rw [HD.out i hi]; simp
        · rw [Array.getElem?_eq_none (by omega)]
          simp [hi]
      go_wp2_with fail
      go_ret
      exact ⟨rfl, by rw [← hd]; exact HL.out, HF.out⟩

end Go.Proofs.Ytbicefgjompnoaa.Sx
/- The program: slices.Compact of literals. -/
namespace Go.Proofs.Ytbicefgjompnoaa.Sx
open Go.RowKit Go.Sort Go.Lib

def encN (x : Nat) : Value := .int .i32 (x : Int)
theorem LRow.holds {w : World} {g : Nat} {d : Array Nat} (h : LRow w g d) : Holds encN w g 0 d := fun j hj => by
  rw [Nat.zero_add]
  exact ⟨h.cell hj, h.free j⟩
theorem LRow.put {w : World} {g : Nat} {d D : Array Nat} (h : LRow w g d) (hs : D.size = d.size) : LRow (putRow encN w g 0 D) g D := by
  have hb : ∃ vs : Array Value, vs.size = d.size ∧ (putRow encN w g 0 D).heap[g]? = some (.cells vs 70 (0, 0)) := by
    unfold LRow at h
    refine ⟨putCells encN 0 D (encL d), ?_, ?_⟩
    · simp [putCells, encL]
    · simp [putRow, mapBlock, Array.getElem?_modify, h, onCells]
  obtain ⟨vs, h1, h2⟩ := hb
  have hc := fun j hj => cell?_putRow encN w g 0 d D h.holds hs j hj
  have : vs = encL D := by
    apply Array.ext_getElem?
    intro i
    by_cases hi : i < D.size
    · have := hc i hi
      rw [Nat.zero_add, block_cell h2] at this
      rw [this]
      simp [encL, encN, hi]
    · rw [Array.getElem?_eq_none (by omega), Array.getElem?_eq_none (by simp [encL]; omega)]
  rw [this] at h2
  exact h2
theorem eqlN (P : Program) (T : TypeId) : EqlAt P T encN (fun x y => decide (x = y)) := ⟨fun x y w => by
  have := (EqlAt.intD P T .i32).1 (x : Int) (y : Int) w
  rw [show encN x = Value.int .i32 (x : Int) from rfl, show encN y = Value.int .i32 (y : Int) from rfl, this]
  simp <;> omega, fun op a b x y w => (EqlAt.intD P T .i32).2 op a b (x : Int) (y : Int) w⟩
theorem neqN (P : Program) (T : TypeId) : NeqAt P T encN (fun x y => decide (x = y)) := ⟨fun x y w => by
  have := (NeqAt.intD P T .i32).1 (x : Int) (y : Int) w
  rw [show encN x = Value.int .i32 (x : Int) from rfl, show encN y = Value.int .i32 (y : Int) from rfl, this]
  simp <;> omega, fun op a b x y w => (NeqAt.intD P T .i32).2 op a b (x : Int) (y : Int) w⟩

theorem compact_any (w : World) (g cap : Nat) (d : Array Nat) (h : LRow w g d) (hs : d.size ≤ 4294967296) (hc : d.size ≤ cap) :
    Calls Try.prog 32 #[.slice (some ⟨g, 0, none⟩) d.size cap] w fun e w' => e = .returned (.slice (some ⟨g, 0, none⟩) (compactUpTo d d.size).length cap) ∧ (∃ d' : Array Nat, d'.size = d.size ∧ d'.toList.take (compactUpTo d d.size).length = compactUpTo d d.size ∧ LRow w' g d') ∧ Fr (· ≠ g) w w' := by
  have H := AnyE.slices_Compact Try.laysCompact encN (fun _ => rfl) (eqlN _ _) (neqN _ _) 0 (fun w => by kernel_rfl) g 0 cap d w h.holds (by omega) hc
  refine H.mono ?_
  rintro e w' ⟨rfl, q, rfl⟩
  have hlen : (compactUpTo d d.size).length ≤ d.size := by
    unfold compactUpTo
    rw [List.length_map]
    exact Nat.le_trans (List.length_filter_le _ _) (by simp)
  refine ⟨rfl, ⟨(compactUpTo d d.size ++ List.replicate (d.size - (compactUpTo d d.size).length) 0).toArray, by simp; omega, by simp, ?_⟩, ?_⟩
  · exact LRow.put (w := Sort.ahead w q) (d := d) h (by simp; omega)
  · refine ⟨rfl, rfl, rfl, by simp, fun k hk hkg => ?_⟩
    simp [putRow, mapBlock, Array.getElem?_modify, Ne.symm hkg]

end Go.Proofs.Ytbicefgjompnoaa.Sx
/- Literals in order, each once (plain). -/
namespace Go.Proofs.Ytbicefgjompnoaa.Sx
open Go.RowKit Go.Sort Go.Lib

/-- ascending, each once -/
def Asc (c : List Nat) : Prop := c.Pairwise (· < ·)
theorem compact_asc {d : Array Nat} (h : SortedIn ltN 0 d.size d) : ∀ m, m ≤ d.size → Asc (compactUpTo d m) ∧ (∀ x, x ∈ compactUpTo d m ↔ ∃ i, i < m ∧ d[i]! = x) ∧ (∀ x ∈ compactUpTo d m, ∀ i, m ≤ i + 1 → i < d.size → x ≤ d[i]!) := by
  have hs : ∀ i j, i < j → j < d.size → d[i]! ≤ d[j]! := fun i j hij hj => by
    have := h i j (Nat.zero_le _) hij hj
    simpa [ltN] using this
  have hs' : ∀ i j, i ≤ j → j < d.size → d[i]! ≤ d[j]! := fun i j hij hj => by
    rcases Nat.lt_or_eq_of_le hij with q | q
    · exact hs i j q hj
    · rw [q]; exact Nat.le_refl _
  intro m
  induction m with
  | zero => intro _; exact ⟨List.Pairwise.nil, fun x => by simp [compactUpTo], fun x hx => by simp [compactUpTo] at hx⟩
  | succ m ih =>
    intro hm
    obtain ⟨i1, i2, i3⟩ := ih (by omega)
    rw [compactUpTo_succ]
    by_cases hk : keeps d m = true
    · rw [if_pos hk]
      have hk2 : m = 0 ∨ d[m]! ≠ d[m - 1]! := by simpa [keeps] using hk
      refine ⟨?_, fun x => ?_, fun x hx i hi hid => ?_⟩
      · refine List.pairwise_append.2 ⟨i1, List.pairwise_singleton _ _, fun x hx y hy => ?_⟩
        rw [List.mem_singleton.1 hy]
        rcases hk2 with q | q
        · subst q; simp [compactUpTo] at hx
        · have h1 := i3 x hx (m - 1) (by omega) (by omega)
          have h2 : d[m - 1]! ≤ d[m]! := hs' _ _ (by omega) (by omega)
          have h3 : m ≠ 0 := fun e => q (by rw [e])
          omega
      · rw [List.mem_append, i2, List.mem_singleton]
        constructor
        · rintro (⟨i, hi, e⟩ | e)
          · exact ⟨i, by omega, e⟩
          · exact ⟨m, by omega, e.symm⟩
        · rintro ⟨i, hi, e⟩
          by_cases q : i = m
          · subst q; exact .inr e.symm
          · exact .inl ⟨i, by omega, e⟩
      · rcases List.mem_append.1 hx with q | q
        · obtain ⟨t, ht, e⟩ := (i2 x).1 q
          rw [← e]; exact hs' _ _ (by omega) hid
        · rw [List.mem_singleton.1 q]; exact hs' _ _ (by omega) hid
    · rw [if_neg hk, List.append_nil]
      have hk2 : ¬ (m = 0 ∨ d[m]! ≠ d[m - 1]!) := by simpa [keeps] using hk
      have hm0 : m ≠ 0 := fun e => hk2 (.inl e)
      have he : d[m]! = d[m - 1]! := Classical.byContradiction fun q => hk2 (.inr q)
      refine ⟨i1, fun x => ?_, fun x hx i hi hid => i3 x hx i (by omega) hid⟩
      rw [i2]
      constructor
      · rintro ⟨i, hi, e⟩; exact ⟨i, by omega, e⟩
      · rintro ⟨i, hi, e⟩
        by_cases q : i = m
        · subst q; exact ⟨i - 1, by omega, by rw [← he]; exact e⟩
        · exact ⟨i, by omega, e⟩

/-- ascending literals, each once, of a list: the same as in the list -/
structure SetOf (l c : List Nat) : Prop where
  asc : Asc c
  mem : ∀ x, x ∈ c ↔ x ∈ l
theorem mem_get {d : Array Nat} {x : Nat} : (∃ i, i < d.size ∧ d[i]! = x) ↔ x ∈ d.toList := by
  rw [List.mem_iff_getElem]
  constructor
  · rintro ⟨i, hi, e⟩
    exact ⟨i, by simpa using hi, by rw [← e]; simp [hi]⟩
  · rintro ⟨i, hi, e⟩
    have hi' : i < d.size := by simpa using hi
    exact ⟨i, hi', by rw [← e]; simp [hi']⟩
theorem sorts_set {d d' : Array Nat} (h : SortsTo d.size d d') : d'.size = d.size ∧ SetOf d.toList (compactUpTo d' d'.size) := by
  obtain ⟨hp, hs⟩ := h
  have hsz := hp.1
  rw [← hsz] at hs
  obtain ⟨i1, i2, _⟩ := compact_asc hs d'.size (Nat.le_refl _)
  refine ⟨hsz, i1, fun x => ?_⟩
  rw [i2, mem_get]
  have hq := hp.2.2
  have e1 : d'.extract 0 d.size = d' := by rw [← hsz]; simp
  have e2 : d.extract 0 d.size = d := by simp
  rw [e1, e2] at hq
  exact hq.mem_iff

/-- one stands there with its opposite -/
def alwaysP (c : List Nat) : Bool := c.any fun l => c.contains (opp l)
/-- .. in the order of the row: neighbours -/
def nearP : List Nat → Bool
  | [] => false
  | [_] => false
  | a :: b :: c => (a == opp b) || nearP (b :: c)
theorem opp_near {a b : Nat} (h : a < b) : (a == opp b) = (b == opp a) := by
  rw [Bool.eq_iff_iff]
  simp only [beq_iff_eq]
  unfold opp
  constructor <;> intro h1 <;> (split at h1 <;> split <;> omega)
theorem opp_opp (a : Nat) : opp (opp a) = a := by unfold opp; split <;> split <;> omega
theorem opp_ne (a : Nat) : opp a ≠ a := by unfold opp; split <;> omega
theorem always_near {c : List Nat} (h : Asc c) : alwaysP c = nearP c := by
  have key : ∀ c : List Nat, Asc c → ((∃ l ∈ c, opp l ∈ c) ↔ nearP c = true) := by
    intro c
    induction c with
    | nil => intro _; simp [nearP]
    | cons a c ih =>
      intro h
      cases c with
      | nil =>
        simp only [List.mem_singleton, nearP, Bool.false_eq_true, iff_false]
        rintro ⟨l, rfl, e⟩
        exact opp_ne l e
      | cons b c =>
        have h1 := List.pairwise_cons.1 h
        have h2 := List.pairwise_cons.1 h1.2
        have hab : a < b := h1.1 b List.mem_cons_self
        rw [nearP, Bool.or_eq_true, ← ih h1.2, beq_iff_eq]
        have up : opp a ∈ b :: c → a = opp b := by
          intro hm
          have h3 : a < opp a := h1.1 _ hm
          have h4 : opp a = a + 1 := by unfold opp at h3 ⊢; split <;> rename_i q <;> simp [q] at h3 ⊢ <;> omega
          rcases List.mem_cons.1 hm with q | q
          · rw [← q, opp_opp]
          · have := h2.1 _ q
            omega
        constructor
        · rintro ⟨l, hl, ho⟩
          rcases List.mem_cons.1 hl with q | q
          · subst q
            rcases List.mem_cons.1 ho with r | r
            · exact absurd r (opp_ne l)
            · exact .inl (up r)
          · rcases List.mem_cons.1 ho with r | r
            · refine .inl (up ?_)
              rw [← r, opp_opp]; exact q
            · exact .inr ⟨l, q, r⟩
        · rintro (e | ⟨l, hl, ho⟩)
          · exact ⟨b, by simp, by rw [← e]; simp⟩
          · exact ⟨l, List.mem_cons_of_mem _ hl, List.mem_cons_of_mem _ ho⟩
  rw [Bool.eq_iff_iff, ← key c h]
  unfold alwaysP
  simp

end Go.Proofs.Ytbicefgjompnoaa.Sx
/- The program: set. -/
namespace Go.Proofs.Ytbicefgjompnoaa.Sx
open Go.RowKit Go.Sort Go.Lib

/-- what set gives: nothing, if it is always true, else a row of its own -/
def SetPost2 (w : World) (len : Nat) (L : List Nat) (e : Ending) (w' : World) : Prop := Fr (fun _ => True) w w' ∧ ∃ c, SetOf L c ∧ ((alwaysP c = true ∧ e = .returned (.tuple #[.slice none 0 0, .bool true])) ∨ (alwaysP c = false ∧ e = .returned (.tuple #[.slice (some ⟨w.heap.size, 0, none⟩) c.length len, .bool false]) ∧ ∃ d : Array Nat, d.size = len ∧ d.toList.take c.length = c ∧ LRow w' w.heap.size d))

theorem litV_small {n : Nat} {s : List Nat × List Nat} (h : NmOK n s) (hn : n ≤ 16777216) (x : Int) : litV s x < 33554434 := by
  have hq : s.1.getD x.natAbs 0 ≤ n := by
    cases hv : s.1.getD x.natAbs 0 with
    | zero => omega
    | succ k =>
      have := (List.getElem?_eq_some_iff.1 (h.back _ _ hv)).1
      have := h.few
      omega
  unfold litV
  split <;> omega

set_option maxRecDepth 100000 in
set_option maxHeartbeats 2000000 in
theorem set2_any (w : World) (n pb fb base lo : Nat) (s : List Nat × List Nat) (lv : Value) (l : List Int) (hn : n ≤ 16777216) (hA : NmAt w n pb fb base s) (hl : IntsAt w lo lv l) (hll : l.length ≤ 4294967296) (hL : ∀ x ∈ l, LitN n x ∧ s.1.getD x.natAbs 0 ≠ 0) :
    Calls Try.prog 16 #[.pointer (some ⟨fb, 0, none⟩), lv] w (SetPost2 w l.length (l.map (litV s))) := by
  have mo := follows
  obtain ⟨a_, cc_, rfl, _⟩ := hl.ex
  have HLC := lits_any w n pb fb base lo s _ l hn hA hl hll hL
  have hsm : ∀ x ∈ l.map (litV s), x < 33554434 := fun x hx => by
    obtain ⟨y, _, rfl⟩ := List.mem_map.1 hx
    exact litV_small hA.ok hn y
  have HSM : Hid (∀ x ∈ l.map (litV s), x < 33554434) := hsm
  have hlm : (l.map (litV s)).length = l.length := by simp
  generalize l.map (litV s) = LL at HLC HSM hlm ⊢
  obtain ⟨g, hg⟩ : ∃ g, w.heap.size = g := ⟨_, rfl⟩
  have HG : Hid (w.heap.size = g) := hg
  have FT : Hid (∀ W, Fr (· ≠ g) w W → Fr (fun _ => True) w W) := fun W f => ⟨f.os, f.tape, f.output, f.size, fun t ht _ => f.block t ht (by show t ≠ g; omega)⟩
  rw [hg] at HLC
  unfold SetPost2
  rw [hg]
  have HC1 : Hid (Calls Try.prog 30 #[.pointer (some ⟨fb, 0, none⟩), .slice a_ l.length cc_] w fun e w' => e = .returned (.slice (some ⟨g, 0, none⟩) l.length l.length) ∧ LRow w' g LL.toArray ∧ Fr (fun _ => True) w w') := HLC
  clear hl hL hA hg HLC hsm
  go_enter Try.func16, Try.ntmps16
  go_upto_region 2 with (go_at_call 30; refine HC1.out.mono ?_; rintro e w1 ⟨rfl, h1, h2⟩)
  have F1 : Hid (Fr (· ≠ g) w w1) := h2.mono fun _ _ => trivial
  have HC2 := sort_any w1 g l.length l.length LL.toArray h1 hll (by simp; omega)
  clear HC1 h2
  go_upto_region 3 with (go_at_call 31; refine HC2.mono ?_; rintro e w2 ⟨rfl, d, hd, h3, h4⟩)
  have F2 : Hid (Fr (· ≠ g) w w2) := F1.out.trans h4
  have hds : d.size = l.length := hd.1.1.trans (by simp [hlm])
  have hd2 : SortsTo LL.toArray.size LL.toArray d := by rw [show LL.toArray.size = l.length from by simp [hlm]]; exact hd
  have hset := (sorts_set hd2).2
  have HC3 := compact_any w2 g l.length d h3 (by omega) (by omega)
  rw [hds] at HC3 hset
  rw [show LL.toArray.toList = LL from by simp] at hset
  obtain ⟨c, hc⟩ : ∃ c, compactUpTo d l.length = c := ⟨_, rfl⟩
  rw [hc] at HC3 hset
  have HST : Hid (SetOf LL c) := hset
  have HC4 : Hid (Calls _ _ _ _ _) := HC3
  clear HC2 h1 h3 h4 F1 hd hd2 hds hset hc HC3
  go_upto_region 4 with (go_at_call 32; refine HC4.out.mono ?_; rintro e w3 ⟨rfl, ⟨d, hds, htk, h5⟩, h6⟩)
  have HF : Hid (Fr (· ≠ g) w w3) := F2.out.trans h6
  have HL : Hid (LRow w3 g d) := h5
  have HT : Hid (d.toList.take c.length = c) := htk
  have hcl : c.length ≤ l.length := by
    have := congrArg List.length htk
    rw [List.length_take] at this
    have : d.toList.length = l.length := by simp [hds]
    omega
  have hdl : d.size = l.length := hds
  have hget : ∀ i x, c[i]? = some x → i < d.size ∧ d[i]! = x := fun i x hx => by
    have hi : i < c.length := (List.getElem?_eq_some_iff.1 hx).1
    rw [← htk, List.getElem?_take, if_pos hi] at hx
    have hi2 : i < d.size := by omega
    refine ⟨hi2, ?_⟩
    simpa [hi2] using hx
  have HGT : Hid (∀ i x, c[i]? = some x → i < d.size ∧ d[i]! = x) := hget
  have HAN := always_near HST.out.asc
  clear HC4 h5 h6 F2 htk hds hget
  rcases (show c = [] ∨ (∃ x, c = [x]) ∨ 2 ≤ c.length from by
    match c with
    | [] => exact .inl rfl
    | [x] => exact .inr (.inl ⟨x, rfl⟩)
    | _ :: _ :: _ => exact .inr (.inr (by simp))) with rfl | ⟨x, rfl⟩ | hc2
  · have HB : Hid (alwaysP [] = false) := rfl
    clear HAN
    by_cases hl0 : l.length = 0
    · go_wp2_with fail
      go_loopg [22] (0) (fun k s22 wr => s22 = .int .i64 0 ∧ wr = w3)
      case atStart => exact ⟨rfl, rfl⟩
      case round =>
        obtain ⟨rfl, rfl⟩ := hrel
        go_wp2_with fail
        exact bodyPost_ret (v := .tuple #[.slice (some ⟨g, 0, none⟩) 0 l.length, .bool false]) (by simp [results, Try.results16, go_sem]) rfl ⟨FT.out _ HF.out, _, HST.out, .inr ⟨HB.out, rfl, d, hdl, HT.out, HL.out⟩⟩
    · go_wp2_with fail
      go_loopg [22] (0) (fun k s22 wr => s22 = .int .i64 0 ∧ wr = w3)
      case atStart => exact ⟨rfl, rfl⟩
      case round =>
        obtain ⟨rfl, rfl⟩ := hrel
        go_wp2_with fail
        exact bodyPost_ret (v := .tuple #[.slice (some ⟨g, 0, none⟩) 0 l.length, .bool false]) (by simp [results, Try.results16, go_sem]) rfl ⟨FT.out _ HF.out, _, HST.out, .inr ⟨HB.out, rfl, d, hdl, HT.out, HL.out⟩⟩
  · have HB : Hid (alwaysP [x] = false) := HAN
    clear HAN
    by_cases hl1 : l.length = 1
    · go_wp2_with fail
      go_loopg [22] (0) (fun k s22 wr => s22 = .int .i64 0 ∧ wr = w3)
      case atStart => exact ⟨rfl, rfl⟩
      case round =>
        obtain ⟨rfl, rfl⟩ := hrel
        go_wp2_with fail
        exact bodyPost_ret (v := .tuple #[.slice (some ⟨g, 0, none⟩) 1 l.length, .bool false]) (by simp [results, Try.results16, go_sem]) rfl ⟨FT.out _ HF.out, _, HST.out, .inr ⟨HB.out, rfl, d, hdl, HT.out, HL.out⟩⟩
    · have hl2 : 1 < l.length := by simp at hcl; omega
      go_wp2_with fail
      go_loopg [22] (0) (fun k s22 wr => s22 = .int .i64 0 ∧ wr = w3)
      case atStart => exact ⟨rfl, rfl⟩
      case round =>
        obtain ⟨rfl, rfl⟩ := hrel
        go_wp2_with fail
        exact bodyPost_ret (v := .tuple #[.slice (some ⟨g, 0, none⟩) 1 l.length, .bool false]) (by simp [results, Try.results16, go_sem]) rfl ⟨FT.out _ HF.out, _, HST.out, .inr ⟨HB.out, rfl, d, hdl, HT.out, HL.out⟩⟩
  · have hmin : min (1 : Int) (c.length : Int) = 1 := by omega
    obtain ⟨B, hB⟩ : ∃ B, nearP c = B := ⟨_, rfl⟩
    rw [hB] at HAN
    have HB : Hid (alwaysP c = B) := HAN
    have HU0 : Hid (nearP (c.drop 0) = B) := hB
    clear HAN hB
    have hl2 : 2 ≤ l.length := by omega
    have hl3 : 1 < l.length := by omega
    have hl4 : l.length ≠ 1 := by omega
    have hc1 : 1 ≤ c.length := by omega
    go_wp2_with fail
    go_loopg [22] (c.length - 1) (fun k s22 wr => ∃ (j : Nat), s22 = .int .i64 (j : Int) ∧ j + k = c.length - 1 ∧ Hid (LRow wr g d) ∧ Hid (Fr (· ≠ g) w wr) ∧ Hid (nearP (c.drop j) = B))
    case atStart => exact ⟨0, rfl, by omega, HL, HF, HU0⟩
    case round =>
      clear HL HF HU0
      obtain ⟨j, rfl, hjk, HL, HF, HU⟩ := hrel
      by_cases hj : j < c.length - 1
      · obtain ⟨k, rfl⟩ : ∃ k, gk = k + 1 := ⟨gk - 1, by omega⟩
        have hj1 : j < c.length := by omega
        have hj2 : j + 1 < c.length := by omega
        obtain ⟨x, hx⟩ : ∃ x, c[j] = x := ⟨_, rfl⟩
        obtain ⟨y, hy⟩ : ∃ y, c[j + 1] = y := ⟨_, rfl⟩
        have hd : c.drop j = x :: y :: c.drop (j + 2) := by rw [List.drop_eq_getElem_cons hj1, List.drop_eq_getElem_cons hj2, hx, hy]
        have hd1 : c.drop (j + 1) = y :: c.drop (j + 2) := by rw [List.drop_eq_getElem_cons hj2, hy]
        obtain ⟨q1, q2⟩ := HGT.out j x (by rw [List.getElem?_eq_getElem hj1, hx])
        obtain ⟨q3, q4⟩ := HGT.out (j + 1) y (by rw [List.getElem?_eq_getElem hj2, hy])
        have c0 := HL.out.cell q1
        have c1 := HL.out.cell q3
        rw [q2] at c0
        rw [q4, Nat.add_comm] at c1
        have hys : y < 33554434 := HSM.out y ((HST.out.mem y).1 (hy ▸ List.getElem_mem hj2))
        have j0 : (0 : Int) ≤ (j : Int) := by omega
        have j1 : (j : Int) < ((c.length - 1 : Nat) : Int) := by omega
        have j2 : (j : Int) < (c.length : Int) := by omega
        have hu := HU.out
        rw [hd] at hu
        unfold nearP at hu
        rw [← hd1] at hu
        have HO : Hid (∀ w, Calls Try.prog 33 #[.int .i32 (y : Int)] w fun e w' => e = .returned (.int .i32 (opp y : Int)) ∧ w' = w) := fun w => opposite_any w y (by omega)
        clear HU hx hy hd hd1 q1 q2 q3 q4
        cases hxy : (x == opp y) with
        | true =>
          rw [hxy, Bool.true_or] at hu
          subst hu
          have e1 : ((x : Int) == (opp y : Int)) = true := by rw [beq_iff_eq] at hxy ⊢; rw [hxy]
          clear hxy
          go_wp2_with fail
          go_quiet ((go_at_call 33; exact Calls.quiet_of_same (HO.out _)))
          go_wp2_with fail
          exact bodyPost_ret (v := .tuple #[.slice none 0 0, .bool true]) (by simp [results, Try.results16, go_sem]) rfl ⟨FT.out _ (HF.out.drewN _), c, HST.out, .inl ⟨HB.out, rfl⟩⟩
        | false =>
          rw [hxy, Bool.false_or] at hu
          have HU : Hid (nearP (c.drop (j + 1)) = B) := hu
          have e1 : ((x : Int) == (opp y : Int)) = false := by
            rw [beq_eq_false_iff_ne] at hxy ⊢
            omega
          clear hxy hu
          go_wp2_with fail
          go_quiet ((go_at_call 33; exact Calls.quiet_of_same (HO.out _)))
          go_wp2_with fail
          go_roundg k
          case measure => omega
          case rel => exact ⟨j + 1, by simp, by omega, HL.out.drewN _, HF.out.drewN _, HU⟩
      · have j1 : ¬ (j : Int) < ((c.length - 1 : Nat) : Int) := by omega
        have hdl1 : c.drop j = [c[c.length - 1]] := by
          obtain rfl : j = c.length - 1 := by omega
          rw [List.drop_eq_getElem_cons (by omega), show c.length - 1 + 1 = c.length from by omega, List.drop_length]
        have hu := HU.out
        rw [hdl1] at hu
        unfold nearP at hu
        subst hu
        clear HU hdl1
        go_wp2_with fail
        exact bodyPost_ret (v := .tuple #[.slice (some ⟨g, 0, none⟩) c.length l.length, .bool false]) (by simp [results, Try.results16, go_sem]) rfl ⟨FT.out _ HF.out, c, HST.out, .inr ⟨HB.out, rfl, d, hdl, HT.out, HL.out⟩⟩

end Go.Proofs.Ytbicefgjompnoaa.Sx
