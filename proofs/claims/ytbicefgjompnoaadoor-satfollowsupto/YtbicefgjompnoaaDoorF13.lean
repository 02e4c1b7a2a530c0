/- slices.Sort of literals. -/
import Derived.Test.YtbicefgjompnoaaDoorF06
import Derived.Test.YtbicefgjompnoaaDoorF12
namespace Go.Proofs.YtbicefgjompnoaaDoor.Sx
open Go.RowKit Go.Sort

/-- a row's places below n are put in order, the others stay -/
def SortsTo (n : Nat) (d d' : Array Nat) : Prop := PermIn 0 n d d' ∧ SortedIn ltN 0 n d'

set_option maxRecDepth 100000 in
set_option maxHeartbeats 1000000 in
theorem sort_any (w : World) (g len cap : Nat) (d : Array Nat) (h : LRow w g d) (hl : len ≤ 4294967296) (hd : len ≤ d.size) :
    Calls Tryd.prog 59 #[.slice (some ⟨g, 0, none⟩) len cap] w fun e w' => e = .returned (.tuple #[]) ∧ ∃ d', SortsTo len d d' ∧ LRow w' g d' ∧ Fr (· ≠ g) w w' := by
  have mo := follows
  have hb : Lib.bitLen len ≤ 64 := Lib.bitLen_le len 64 (by omega) (by omega)
  have HB : Hid (∀ w, Calls Tryd.prog 38 #[.int .u64 (len : Int)] w fun e w' => e = .returned (.int .i64 (Lib.bitLen len : Int)) ∧ w' = w) := fun w => by
    have := Any.bits_Len Tryd.lays125 (len : Int) w (by omega) (by omega)
    rw [Int.toNat_natCast] at this
    exact this
  have HP : Hid (Calls _ _ _ _ _) := pdq_any g len cap hl len w 0 len (Lib.bitLen len) d (by omega) h hd (Nat.le_refl _) (by omega) (by omega)
  have HS : Hid (SortsTo len d (pdq ltN d 0 len (Lib.bitLen len) true true)) := pdq_sorted d len _ hd
  generalize pdq ltN d 0 len (Lib.bitLen len) true true = R at HP HS
  generalize Lib.bitLen len = L at HP HB hb
  have hw1 : IntKind.u64.wrap (len : Int) = (len : Int) := by rw [IntKind.wrap_u64]; omega
  clear h
  go_enter Tryd.func59, Tryd.ntmps59
  go_wp2_with fail
  go_at_call 38
  refine (HB.out _).mono ?_
  rintro e w' ⟨rfl, hw⟩
  obtain rfl := hw.symm
  go_wp2_with fail
  go_at_call 69
  refine HP.out.mono ?_
  rintro e w1 ⟨rfl, h1, h2⟩
  go_wp2_with fail
  go_end0
  exact ⟨rfl, R, HS.out, h1, h2⟩

end Go.Proofs.YtbicefgjompnoaaDoor.Sx
/- The program: lits. -/
namespace Go.Proofs.YtbicefgjompnoaaDoor.Sx
open Go.RowKit Go.Sort

/-- a number's literal -/
def litV (s : List Nat × List Nat) (x : Int) : Nat := if 0 < x then 2 * (s.1.getD x.natAbs 0 - 1) else 2 * (s.1.getD x.natAbs 0 - 1) + 1
theorem info70 : ∃ i0, Tryd.prog.info? 45 = some i0 ∧ i0.zero = some (.int .i32 0) ∧ i0.size = 1 ∧ i0.bytes = 4 := by
  have h : ((Tryd.prog.info? 45).map fun i => (i.zero, i.size, i.bytes)) = some (some (.int .i32 0), 1, 4) := by kernel_rfl
  cases hq : Tryd.prog.info? 45 with
  | none => rw [hq] at h; simp at h
  | some j => rw [hq] at h; simp at h; exact ⟨j, rfl, h.1, h.2.1, h.2.2⟩
theorem LRow.new (w : World) (m : Nat) : LRow (w.alloc (.cells (Array.replicate m (Value.int .i32 0)) 45)) w.heap.size (Array.replicate m 0) := by
  unfold LRow
  rw [heap_new rfl]
  simp [encL]

set_option maxRecDepth 100000 in
set_option maxHeartbeats 2000000 in
theorem lits_any (w : World) (n pb fb base lo : Nat) (s : List Nat × List Nat) (lv : Value) (l : List Int) (hn : n ≤ 16777216) (hA : NmAt w n pb fb base s) (hl : IntsAt w lo lv l) (hll : l.length ≤ 4294967296) (hL : ∀ x ∈ l, LitN n x ∧ s.1.getD x.natAbs 0 ≠ 0) :
    Calls Tryd.prog 16 #[.pointer (some ⟨fb, 0, none⟩), lv] w fun e w' => e = .returned (.slice (some ⟨w.heap.size, 0, none⟩) l.length l.length) ∧ LRow w' w.heap.size (l.map (litV s)).toArray ∧ Fr (fun _ => True) w w' := by
  have mo := follows
  obtain ⟨i0_, hi0, hz0, hz1, hz2⟩ := info70
  obtain ⟨a, cc, rfl, _⟩ := hl.ex
  have HI : Hid (IntsAt w lo (.slice a l.length cc) l) := hl
  have HLN : Hid (∀ x ∈ l, LitN n x ∧ s.1.getD x.natAbs 0 ≠ 0) := hL
  have NA0 : Hid (NmAt w n pb fb base s) := hA
  have m1 : (Instr.makeSlice 43 (.int .i64 (l.length : Int)) (.int .i64 (l.length : Int))).run Tryd.prog w = .ok (.slice (some ⟨w.heap.size, 0, none⟩) l.length l.length) (w.alloc (.cells (Array.replicate l.length (Value.int .i32 0)) 45)) := by
    have := run_make (P := Tryd.prog) w 43 45 i0_ _ Tryd.underlying43 hi0 hz0 .i64 .i64 (l.length : Int) (l.length : Int) (by omega) (by omega) (by rw [hz2]; omega) (by omega)
    rw [this]
    rw [Int.toNat_natCast, hz1, made_32]
  have L0 : Hid (LRow (w.alloc (.cells (Array.replicate l.length (Value.int .i32 0)) 45)) w.heap.size (Array.replicate l.length 0)) := LRow.new w _
  have F0 : Hid (Fr (fun _ => True) w (w.alloc (.cells (Array.replicate l.length (Value.int .i32 0)) 45))) := (Fr.refl _ w).alloc _
  obtain ⟨g, hg⟩ : ∃ g, w.heap.size = g := ⟨_, rfl⟩
  have HG : Hid (w.heap.size = g) := hg
  rw [hg] at m1 L0 ⊢
  clear hl hL hA hg
  go_enter Tryd.func16, Tryd.ntmps16
  go_upto_region 2 with fail
  clear m1
  generalize w.alloc (.cells (Array.replicate l.length (Value.int .i32 0)) 45) = W0 at L0 F0 ⊢
  go_wp2_with fail
  go_loopg [13] (l.length) (fun k s13 wr => ∃ (j : Nat) (d : Array Nat), s13 = .int .i64 (j : Int) ∧ j + k = l.length ∧ d.size = l.length ∧ Hid (LRow wr g d) ∧ Hid (Fr (fun _ => True) w wr) ∧ Hid (∀ i, i < j → d[i]? = (l[i]?).map (litV s)))
  case atStart => exact ⟨0, _, rfl, by omega, by simp, L0, F0, fun i hi => by omega⟩
  case round =>
    clear L0 F0
    obtain ⟨j, d, rfl, hjk, hds, HL, HF, HD⟩ := hrel
    have NA : Hid (NmAt wr n pb fb base s) := NA0.out.of HF.out
    by_cases hj : j < l.length
    · obtain ⟨k, rfl⟩ : ∃ k, gk = k + 1 := ⟨gk - 1, by omega⟩
      obtain ⟨x, hx⟩ : ∃ x, l[j] = x := ⟨_, rfl⟩
      have hxj : l[j]? = some x := by rw [List.getElem?_eq_getElem hj, hx]
      have HX : Hid (l[j]? = some x) := hxj
      obtain ⟨a', c', e', hrow⟩ := (HI.out.of (HF.out.mono fun _ _ => trivial)).ex
      cases e'
      obtain ⟨p, rfl, _, hp⟩ : ∃ p : Addr, a = some p ∧ p.block < lo ∧ ∀ i x, l[i]? = some x → wr.cell? (p.add i) = some (.int .i64 x) := by
        rcases hrow with q | q
        · rw [q] at hj; simp at hj
        · exact q
      have cj := hp j x hxj
      have j0 : (0 : Int) ≤ (j : Int) := by omega
      have j1 : (j : Int) < (l.length : Int) := by omega
      obtain ⟨hxl, hnz⟩ := HLN.out x (hx ▸ List.getElem_mem hj)
      unfold LitN at hxl
      obtain ⟨x0, x1, x2⟩ := hxl
      have HV : Hid (x.natAbs = x.natAbs) := rfl
      clear hx hxj hp hrow
      by_cases hpos : 0 < x
      · obtain ⟨y, rfl⟩ : ∃ y : Nat, x = (y : Int) := ⟨x.natAbs, by omega⟩
        have hy : ((y : Int)).natAbs = y := by omega
        have sg : (0 : Int) < (y : Int) := by omega
        rw [hy] at hnz HV
        have hyn : y ≤ n := by omega
        have y0 : (0 : Int) ≤ (y : Int) := by omega
        have y1 : (y : Int) < (n : Int) + 1 := by omega
        have yl : y < s.1.length := by rw [NA.out.ok.len]; omega
        obtain ⟨q, hq⟩ : ∃ q, s.1.getD y 0 = q + 1 := ⟨s.1.getD y 0 - 1, by omega⟩
        have hqn : q < n := by
          have := NA.out.ok.back y q hq
          have := (List.getElem?_eq_some_iff.1 this).1
          have := NA.out.ok.few
          omega
        have cy : wr.cell? ⟨pb, y, none⟩ = some (.int .i32 ((q : Int) + 1)) := by
          rw [block_cell NA.out.pl]
          rw [List.getD_eq_getElem?_getD, List.getElem?_eq_getElem yl] at hq
          have hq2 : s.1[y] = q + 1 := by simpa using hq
          simp [v32, yl, hq2]
        have hval : litV s (y : Int) = 2 * q := by unfold litV; rw [if_pos sg, hy, hq]; omega
        have HL2 : Hid (LRow (wr.setCell ⟨g, j, none⟩ (.int .i32 (2 * (q : Int)))) g (d.setIfInBounds j (2 * q))) := by
          have := HL.out.set j (2 * q)
          rw [show ((2 * q : Nat) : Int) = 2 * (q : Int) from by omega] at this
          exact this
        have HF2 : Hid (Fr (fun _ => True) w (wr.setCell ⟨g, j, none⟩ (.int .i32 (2 * (q : Int))))) := HF.out.setB (p := ⟨g, j, none⟩) (by show w.heap.size ≤ g; rw [HG.out]; exact Nat.le_refl _) _
        have HD2 : Hid (∀ i, i < j + 1 → (d.setIfInBounds j (2 * q))[i]? = (l[i]?).map (litV s)) := by
          intro i hi
          rw [Array.getElem?_setIfInBounds]
          by_cases q : j = i
          · subst q
            rw [if_pos rfl, if_pos (by omega), HX.out]
            simp [hval]
          · rw [if_neg q]
            exact HD.out i (by omega)
        have gc := HL.out.cell (i := j) (by omega)
        have gz := HL.out.free j
        clear HD HL HF hval hq
        have NA2 : Hid (NmAt (wr.setCell ⟨g, j, none⟩ (.int .i32 (2 * (q : Int)))) n pb fb base s) := NA0.out.of HF2.out
        obtain ⟨vv, hblk, _⟩ := NA.out.ex
        have b0 := block_cell hblk 0
        clear hblk
        go_wp2_with fail
        go_roundg k
        case measure => omega
        case rel => exact ⟨j + 1, _, by simp, by omega, by simpa using hds, HL2, HF2, HD2⟩
      · obtain ⟨y, rfl⟩ : ∃ y : Nat, x = -(y : Int) := ⟨x.natAbs, by omega⟩
        have hy : (-(y : Int)).natAbs = y := by omega
        have sg : ¬ (0 : Int) < -(y : Int) := by omega
        rw [hy] at hnz HV
        have hyn : y ≤ n := by omega
        have y0 : (0 : Int) ≤ (y : Int) := by omega
        have y1 : (y : Int) < (n : Int) + 1 := by omega
        have yl : y < s.1.length := by rw [NA.out.ok.len]; omega
        obtain ⟨q, hq⟩ : ∃ q, s.1.getD y 0 = q + 1 := ⟨s.1.getD y 0 - 1, by omega⟩
        have hqn : q < n := by
          have := NA.out.ok.back y q hq
          have := (List.getElem?_eq_some_iff.1 this).1
          have := NA.out.ok.few
          omega
        have cy : wr.cell? ⟨pb, y, none⟩ = some (.int .i32 ((q : Int) + 1)) := by
          rw [block_cell NA.out.pl]
          rw [List.getD_eq_getElem?_getD, List.getElem?_eq_getElem yl] at hq
          have hq2 : s.1[y] = q + 1 := by simpa using hq
          simp [v32, yl, hq2]
        have hval : litV s (-(y : Int)) = 2 * q + 1 := by unfold litV; rw [if_neg sg, hy, hq]; omega
        have HL2 : Hid (LRow (wr.setCell ⟨g, j, none⟩ (.int .i32 (2 * (q : Int) + 1))) g (d.setIfInBounds j (2 * q + 1))) := by
          have := HL.out.set j (2 * q + 1)
          rw [show ((2 * q + 1 : Nat) : Int) = 2 * (q : Int) + 1 from by omega] at this
          exact this
        have HF2 : Hid (Fr (fun _ => True) w (wr.setCell ⟨g, j, none⟩ (.int .i32 (2 * (q : Int) + 1)))) := HF.out.setB (p := ⟨g, j, none⟩) (by show w.heap.size ≤ g; rw [HG.out]; exact Nat.le_refl _) _
        have HD2 : Hid (∀ i, i < j + 1 → (d.setIfInBounds j (2 * q + 1))[i]? = (l[i]?).map (litV s)) := by
          intro i hi
          rw [Array.getElem?_setIfInBounds]
          by_cases q : j = i
          · subst q
            rw [if_pos rfl, if_pos (by omega), HX.out]
            simp [hval]
          · rw [if_neg q]
            exact HD.out i (by omega)
        have gc := HL.out.cell (i := j) (by omega)
        have gz := HL.out.free j
        clear HD HL HF hval hq
        have NA2 : Hid (NmAt (wr.setCell ⟨g, j, none⟩ (.int .i32 (2 * (q : Int) + 1))) n pb fb base s) := NA0.out.of HF2.out
        obtain ⟨vv, hblk, _⟩ := NA.out.ex
        have b0 := block_cell hblk 0
        clear hblk
        go_wp2_with fail
        go_roundg k
        case measure => omega
        case rel => exact ⟨j + 1, _, by simp, by omega, by simpa using hds, HL2, HF2, HD2⟩
    · have j1 : ¬ (j : Int) < (l.length : Int) := by omega
      obtain rfl : j = l.length := by omega
      have hd : d = (l.map (litV s)).toArray := by
        apply Array.ext_getElem?
        intro i
        by_cases hi : i < l.length
        · rw [HD.out i hi]; simp
        · rw [Array.getElem?_eq_none (by omega)]
          simp [hi]
      go_wp2_with fail
      go_ret
      exact ⟨rfl, by rw [← hd]; exact HL.out, HF.out⟩

end Go.Proofs.YtbicefgjompnoaaDoor.Sx
/- The program: slices.Compact of literals. -/
namespace Go.Proofs.YtbicefgjompnoaaDoor.Sx
open Go.RowKit Go.Sort Go.Lib

def encN (x : Nat) : Value := .int .i32 (x : Int)
theorem LRow.holds {w : World} {g : Nat} {d : Array Nat} (h : LRow w g d) : Holds encN w g 0 d := fun j hj => by
  rw [Nat.zero_add]
  exact ⟨h.cell hj, h.free j⟩
theorem LRow.put {w : World} {g : Nat} {d D : Array Nat} (h : LRow w g d) (hs : D.size = d.size) : LRow (putRow encN w g 0 D) g D := by
  have hb : ∃ vs : Array Value, vs.size = d.size ∧ (putRow encN w g 0 D).heap[g]? = some (.cells vs 45 (0, 0)) := by
    unfold LRow at h
    refine ⟨putCells encN 0 D (encL d), ?_, ?_⟩
    · simp [putCells, encL]
    · simp [putRow, mapBlock, Array.getElem?_modify, h, onCells]
  obtain ⟨vs, h1, h2⟩ := hb
  have hc := fun j hj => cell?_putRow encN w g 0 d D h.holds hs j hj
  have : vs = encL D := by
    apply Array.ext_getElem?
    intro i
    by_cases hi : i < D.size
    · have := hc i hi
      rw [Nat.zero_add, block_cell h2] at this
      rw [this]
      simp [encL, encN, hi]
    · rw [Array.getElem?_eq_none (by omega), Array.getElem?_eq_none (by simp [encL]; omega)]
  rw [this] at h2
  exact h2
theorem eqlN (P : Program) (T : TypeId) : EqlAt P T encN (fun x y => decide (x = y)) := ⟨fun x y w => by
  have := (EqlAt.intD P T .i32).1 (x : Int) (y : Int) w
  rw [show encN x = Value.int .i32 (x : Int) from rfl, show encN y = Value.int .i32 (y : Int) from rfl, this]
  simp <;> omega, fun op a b x y w => (EqlAt.intD P T .i32).2 op a b (x : Int) (y : Int) w⟩
theorem neqN (P : Program) (T : TypeId) : NeqAt P T encN (fun x y => decide (x = y)) := ⟨fun x y w => by
  have := (NeqAt.intD P T .i32).1 (x : Int) (y : Int) w
  rw [show encN x = Value.int .i32 (x : Int) from rfl, show encN y = Value.int .i32 (y : Int) from rfl, this]
  simp <;> omega, fun op a b x y w => (NeqAt.intD P T .i32).2 op a b (x : Int) (y : Int) w⟩

theorem compact_any (w : World) (g cap : Nat) (d : Array Nat) (h : LRow w g d) (hs : d.size ≤ 4294967296) (hc : d.size ≤ cap) :
    Calls Tryd.prog 60 #[.slice (some ⟨g, 0, none⟩) d.size cap] w fun e w' => e = .returned (.slice (some ⟨g, 0, none⟩) (compactUpTo d d.size).length cap) ∧ (∃ d' : Array Nat, d'.size = d.size ∧ d'.toList.take (compactUpTo d d.size).length = compactUpTo d d.size ∧ LRow w' g d') ∧ Fr (· ≠ g) w w' := by
  have H := AnyE.slices_Compact Tryd.laysCompact encN (fun _ => rfl) (eqlN _ _) (neqN _ _) 0 (fun w => by kernel_rfl) g 0 cap d w h.holds (by omega) hc
  refine H.mono ?_
  rintro e w' ⟨rfl, q, rfl⟩
  have hlen : (compactUpTo d d.size).length ≤ d.size := by
    unfold compactUpTo
    rw [List.length_map]
    exact Nat.le_trans (List.length_filter_le _ _) (by simp)
  refine ⟨rfl, ⟨(compactUpTo d d.size ++ List.replicate (d.size - (compactUpTo d d.size).length) 0).toArray, by simp; omega, by simp, ?_⟩, ?_⟩
  · exact LRow.put (w := Sort.ahead w q) (d := d) h (by simp; omega)
  · refine ⟨rfl, rfl, rfl, by simp, fun k hk hkg => ?_⟩
    simp [putRow, mapBlock, Array.getElem?_modify, Ne.symm hkg]

end Go.Proofs.YtbicefgjompnoaaDoor.Sx
/- Literals in order, each once (plain). -/
namespace Go.Proofs.YtbicefgjompnoaaDoor.Sx
open Go.RowKit Go.Sort Go.Lib

/-- ascending, each once -/
def Asc (c : List Nat) : Prop := c.Pairwise (· < ·)
theorem compact_asc {d : Array Nat} (h : SortedIn ltN 0 d.size d) : ∀ m, m ≤ d.size → Asc (compactUpTo d m) ∧ (∀ x, x ∈ compactUpTo d m ↔ ∃ i, i < m ∧ d[i]! = x) ∧ (∀ x ∈ compactUpTo d m, ∀ i, m ≤ i + 1 → i < d.size → x ≤ d[i]!) := by
  have hs : ∀ i j, i < j → j < d.size → d[i]! ≤ d[j]! := fun i j hij hj => by
    have := h i j (Nat.zero_le _) hij hj
    simpa [ltN] using this
  have hs' : ∀ i j, i ≤ j → j < d.size → d[i]! ≤ d[j]! := fun i j hij hj => by
    rcases Nat.lt_or_eq_of_le hij with q | q
    · exact hs i j q hj
    · rw [q]; exact Nat.le_refl _
  intro m
  induction m with
  | zero => intro _; exact ⟨List.Pairwise.nil, fun x => by simp [compactUpTo], fun x hx => by simp [compactUpTo] at hx⟩
  | succ m ih =>
    intro hm
    obtain ⟨i1, i2, i3⟩ := ih (by omega)
    rw [compactUpTo_succ]
    by_cases hk : keeps d m = true
    · rw [if_pos hk]
      have hk2 : m = 0 ∨ d[m]! ≠ d[m - 1]! := by simpa [keeps] using hk
      refine ⟨?_, fun x => ?_, fun x hx i hi hid => ?_⟩
      · refine List.pairwise_append.2 ⟨i1, List.pairwise_singleton _ _, fun x hx y hy => ?_⟩
        rw [List.mem_singleton.1 hy]
        rcases hk2 with q | q
        · subst q; simp [compactUpTo] at hx
        · have h1 := i3 x hx (m - 1) (by omega) (by omega)
          have h2 : d[m - 1]! ≤ d[m]! := hs' _ _ (by omega) (by omega)
          have h3 : m ≠ 0 := fun e => q (by rw [e])
          omega
      · rw [List.mem_append, i2, List.mem_singleton]
        constructor
        · rintro (⟨i, hi, e⟩ | e)
          · exact ⟨i, by omega, e⟩
          · exact ⟨m, by omega, e.symm⟩
        · rintro ⟨i, hi, e⟩
          by_cases q : i = m
          · subst q; exact .inr e.symm
          · exact .inl ⟨i, by omega, e⟩
      · rcases List.mem_append.1 hx with q | q
        · obtain ⟨t, ht, e⟩ := (i2 x).1 q
          rw [← e]; exact hs' _ _ (by omega) hid
        · rw [List.mem_singleton.1 q]; exact hs' _ _ (by omega) hid
    · rw [if_neg hk, List.append_nil]
      have hk2 : ¬ (m = 0 ∨ d[m]! ≠ d[m - 1]!) := by simpa [keeps] using hk
      have hm0 : m ≠ 0 := fun e => hk2 (.inl e)
      have he : d[m]! = d[m - 1]! := Classical.byContradiction fun q => hk2 (.inr q)
      refine ⟨i1, fun x => ?_, fun x hx i hi hid => i3 x hx i (by omega) hid⟩
      rw [i2]
      constructor
      · rintro ⟨i, hi, e⟩; exact ⟨i, by omega, e⟩
      · rintro ⟨i, hi, e⟩
        by_cases q : i = m
        · subst q; exact ⟨i - 1, by omega, by rw [← he]; exact e⟩
        · exact ⟨i, by omega, e⟩

/-- ascending literals, each once, of a list: the same as in the list -/
structure SetOf (l c : List Nat) : Prop where
  asc : Asc c
  mem : ∀ x, x ∈ c ↔ x ∈ l
theorem mem_get {d : Array Nat} {x : Nat} : (∃ i, i < d.size ∧ d[i]! = x) ↔ x ∈ d.toList := by
  rw [List.mem_iff_getElem]
  constructor
  · rintro ⟨i, hi, e⟩
    exact ⟨i, by simpa using hi, by rw [← e]; simp [hi]⟩
  · rintro ⟨i, hi, e⟩
    have hi' : i < d.size := by simpa using hi
    exact ⟨i, hi', by rw [← e]; simp [hi']⟩
theorem sorts_set {d d' : Array Nat} (h : SortsTo d.size d d') : d'.size = d.size ∧ SetOf d.toList (compactUpTo d' d'.size) := by
  obtain ⟨hp, hs⟩ := h
  have hsz := hp.1
  rw [← hsz] at hs
  obtain ⟨i1, i2, _⟩ := compact_asc hs d'.size (Nat.le_refl _)
  refine ⟨hsz, i1, fun x => ?_⟩
  rw [i2, mem_get]
  have hq := hp.2.2
  have e1 : d'.extract 0 d.size = d' := by rw [← hsz]; simp
  have e2 : d.extract 0 d.size = d := by simp
  rw [e1, e2] at hq
  exact hq.mem_iff

/-- one stands there with its opposite -/
def alwaysP (c : List Nat) : Bool := c.any fun l => c.contains (opp l)
/-- .. in the order of the row: neighbours -/
def nearP : List Nat → Bool
  | [] => false
  | [_] => false
  | a :: b :: c => (a == opp b) || nearP (b :: c)
theorem opp_near {a b : Nat} (h : a < b) : (a == opp b) = (b == opp a) := by
  rw [Bool.eq_iff_iff]
  simp only [beq_iff_eq]
  unfold opp
  constructor <;> intro h1 <;> (split at h1 <;> split <;> omega)
theorem opp_opp (a : Nat) : opp (opp a) = a := by unfold opp; split <;> split <;> omega
theorem opp_ne (a : Nat) : opp a ≠ a := by unfold opp; split <;> omega
theorem always_near {c : List Nat} (h : Asc c) : alwaysP c = nearP c := by
  have key : ∀ c : List Nat, Asc c → ((∃ l ∈ c, opp l ∈ c) ↔ nearP c = true) := by
    intro c
    induction c with
    | nil => intro _; simp [nearP]
    | cons a c ih =>
      intro h
      cases c with
      | nil =>
        simp only [List.mem_singleton, nearP, Bool.false_eq_true, iff_false]
        rintro ⟨l, rfl, e⟩
        exact opp_ne l e
      | cons b c =>
        have h1 := List.pairwise_cons.1 h
        have h2 := List.pairwise_cons.1 h1.2
        have hab : a < b := h1.1 b List.mem_cons_self
        rw [nearP, Bool.or_eq_true, ← ih h1.2, beq_iff_eq]
        have up : opp a ∈ b :: c → a = opp b := by
          intro hm
          have h3 : a < opp a := h1.1 _ hm
          have h4 : opp a = a + 1 := by unfold opp at h3 ⊢; split <;> rename_i q <;> simp [q] at h3 ⊢ <;> omega
          rcases List.mem_cons.1 hm with q | q
          · rw [← q, opp_opp]
          · have := h2.1 _ q
            omega
        constructor
        · rintro ⟨l, hl, ho⟩
          rcases List.mem_cons.1 hl with q | q
          · subst q
            rcases List.mem_cons.1 ho with r | r
            · exact absurd r (opp_ne l)
            · exact .inl (up r)
          · rcases List.mem_cons.1 ho with r | r
            · refine .inl (up ?_)
              rw [← r, opp_opp]; exact q
            · exact .inr ⟨l, q, r⟩
        · rintro (e | ⟨l, hl, ho⟩)
          · exact ⟨b, by simp, by rw [← e]; simp⟩
          · exact ⟨l, List.mem_cons_of_mem _ hl, List.mem_cons_of_mem _ ho⟩
  rw [Bool.eq_iff_iff, ← key c h]
  unfold alwaysP
  simp

end Go.Proofs.YtbicefgjompnoaaDoor.Sx
