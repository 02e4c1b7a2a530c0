/- First. -/
import Derived.Test.YtaakjjefnjbabaaGreatQ14
import Derived.Laws.MakeOwn
set_option maxRecDepth 100000
namespace Go.Proofs.YtaakjjefnjbabaaGreat.Sx
open Go.RowKit Go.Sort Go.Maps Go.WideMaps
theorem infoB : ∃ i0, Tryz.prog.info? 4 = some i0 ∧ i0.zero = some (.bool false) ∧ i0.size = 1 ∧ i0.bytes = 1 := by
 have h : ((Tryz.prog.info? 4).map fun i => (i.zero, i.size, i.bytes)) = some (some (.bool false), 1, 1) := by kernel_rfl
 cases hq : Tryz.prog.info? 4 with
 | none => rw [hq] at h; simp at h
 | some j => rw [hq] at h; simp at h; exact ⟨j, rfl, h.1, h.2.1, h.2.2⟩
theorem made_one {v : Value} (hv : v.cells = #[v]) (m : Nat) : madeCells v.cells (m * 1) = Array.replicate m v := by
 apply Array.ext
 · simp [madeCells]
 · intro i h1 h2
   have e : i % 1 = 0 := Nat.mod_one i
   simp [madeCells, hv, e]
def rowB (n v j : Nat) : Array Value := ((List.range n).map fun i => Value.bool (decide (i < j) && v.testBit (n - 1 - i))).toArray
theorem rowB_zero (n v : Nat) : Array.replicate n (Value.bool false) = rowB n v 0 := by
 apply Array.ext
 · simp [rowB]
 · intro i h1 h2; simp [rowB]
theorem rowB_get (n v j i : Nat) (hi : i < n) : (rowB n v j)[i]? = some (Value.bool (decide (i < j) && v.testBit (n - 1 - i))) := by
 simp [rowB, hi]
def firstL (n v : Nat) : List Bool := (List.range n).map fun i => v.testBit (n - 1 - i)
theorem rowB_end (n v j : Nat) (hj : n ≤ j) : ((firstL n v).map Value.bool).toArray = rowB n v j := by
 unfold firstL rowB
 rw [List.map_map]
 congr 1
 apply List.map_congr_left
 intro i hi
 have h2 := List.mem_range.1 hi
 simp [show i < j by omega]
theorem rowB_set (n v j : Nat) : (rowB n v j).set! j (Value.bool (v.testBit (n - 1 - j))) = rowB n v (j + 1) := by
 apply Array.ext
 · simp [rowB]
 · intro i h1 h2
   have h3 : i < n := by simpa [rowB] using h2
   by_cases e : j = i
   · subst e; simp [rowB]
   · simp [rowB, e]
     congr 1
     rw [Bool.eq_iff_iff]
     simp
     omega
section
variable {w : World} {tb : Nat} {L : Ly} {T : Tb} {n : Nat} {lv : Nat → Nat} {M A : Nat}
set_option maxHeartbeats 2000000 in
theorem First_any (h : TAt w tb L T) (hm : Mid n lv M A T) (hr0 : A + T.fresh.length ≤ M) (f : Nat) (hf : Live T f) (hf0 : f ≠ 0) :
 Calls Tryz.prog 44 #[.pointer (some ⟨tb, 0, none⟩), .int .i64 (f : Int)] w fun e w' => ∃ a : Nat, e = .returned (.tuple #[.slice (some ⟨a, 0, none⟩) n n, .bool true]) ∧ w'.heap[a]? = some (.cells ((firstL n (lsR n n (vl n T f) zs)).map Value.bool).toArray 4 (0, 0)) ∧ L.own a = 0 ∧ w.heap.size ≤ a ∧ TAt w' tb L T ∧ FrT L L w w' := by
 obtain ⟨rf, ef, df⟩ := id hf
 have h24 := hm.n24
 have hord : T.ord.length = n := hm.t.inv.on
 have HK : Hid (Calls _ _ _ _ _) := known_any h f rf ef df
 have hf1 : ((f : Int) == 0) = false := by simp; omega
 have hf2 : ¬ (f : Int) = 0 := by omega
 obtain ⟨a, cap, b0⟩ := h.b0
 rw [hord] at b0
 obtain ⟨pn, hpn⟩ : ∃ pn, 2 ^ n = pn := ⟨_, rfl⟩
 have hpw : wrap64 (2 ^ n) = (pn : Int) := by
  have := wrap_pow n h24
  rw [IntKind.wrap_i64] at this
  unfold wrap64
  rw [← hpn]; exact this
 obtain ⟨W0, hW0⟩ : ∃ W0, ((w.alloc (.cells #[.int .i64 (n : Int)] 3)).alloc (.cells #[.func (.func 76) #[] #[.pointer (some ⟨w.heap.size, 0, none⟩)]] 84)) = W0 := ⟨_, rfl⟩
 have fW : Fr (fun _ => True) w W0 := by rw [← hW0]; exact ((Fr.refl _ w).alloc _).alloc _
 have n0 : W0.heap[w.heap.size]? = some (.cells #[.int .i64 (n : Int)] 3 (0, 0)) := by
  rw [← hW0]; exact (((Fr.refl (fun _ => True) _).alloc _).block _ (by simp) trivial).trans (heap_new rfl)
 have g0 : W0.heap[w.heap.size + 1]? = some (.cells #[.func (.func 76) #[] #[.pointer (some ⟨w.heap.size, 0, none⟩)]] 84 (0, 0)) := by
  rw [← hW0]; exact heap_new (by simp)
 have hi0 := h.hi w.heap.size (Nat.le_refl _)
 have hi1 := h.hi (w.heap.size + 1) (by omega)
 obtain ⟨v, hv⟩ : ∃ v, lsR n n (vl n T f) zs = v := ⟨_, rfl⟩
 have hvl : v ≤ 33554432 := by
  rw [← hv]
  have h25 : 2 ^ n ≤ 2 ^ 24 := Nat.pow_le_pow_right (by omega) h24
  rcases lsR_or (n := n) (vl n T f) n zs (Nat.le_refl _) with q | q <;> omega
 have HC : Hid (Calls Tryz.prog 74 #[.pointer (some ⟨tb, 0, none⟩), .int .i64 (f : Int), .int .i64 (pn : Int), .int .i64 0, .func (.func 77) #[] #[.pointer (some ⟨w.heap.size + 1, 0, none⟩)]] W0 fun e w' => e = .returned (.int .i64 (v : Int)) ∧ TAt w' tb L T ∧ FrT L L W0 w') := by
  rw [← hpn]
  refine (fold_anyF (ex := exF (w.heap.size + 1) w.heap.size n) (K := 0) (h.grew fW) hm FV.mono (fun q hq => by
   unfold exF at hq
   simp only [List.mem_cons, List.not_mem_nil, or_false] at hq
   rcases hq with rfl | rfl
   · exact ⟨g0, hi1⟩
   · exact ⟨n0, hi0⟩) (fun bm bt bj bo mm => joinF_ok fun q hq => List.mem_append.2 (.inr hq)) f (2 ^ n) 0 hf (FV.zero hm.t) (FV.one hm.t) (by omega)).mono ?_
  rintro e w' ⟨v', T', L', ml', rfl, hX, hF, hO, rfl, rfl⟩
  exact ⟨by rw [hO.val.c, hv], hX, hF⟩
 have HB0 : Hid (∀ W, TAt W tb L T → W.cell? ⟨tb, 0, none⟩ = some (.slice a n cap)) := fun W hW => by
  have e1 : W.cell? ⟨tb, 0, none⟩ = some (L.val 2) := hW.cell 0
  have e2 : w.cell? ⟨tb, 0, none⟩ = some (L.val 2) := h.cell 0
  rw [e1, ← e2, b0]
 have FW : Hid (Fr (fun _ => True) w W0) := fW
 have N0 : Hid (_ = _) := n0
 have G0 : Hid (_ = _) := g0
 have HI0 : Hid (L.own w.heap.size = 0 ∧ L.own (w.heap.size + 1) = 0) := ⟨hi0, hi1⟩
 rw [hv]
 have n0c := block_cell n0 0
 have g0c := block_cell g0 0
 have st := fun (W : World) (m : Mode) => (show Sem.run Tryz.prog (store ⟨w.heap.size + 1, 0, none⟩ (.func (.func 76) #[] #[.pointer (some ⟨w.heap.size, 0, none⟩)]) m) W = stored Tryz.prog W ⟨w.heap.size + 1, 0, none⟩ (.func (.func 76) #[] #[.pointer (some ⟨w.heap.size, 0, none⟩)]) m from run_store _ W _ _ m rfl)
 have mo := follows
 clear h hm hf ef df hord hpn fW n0 g0 hi0 hi1 hv
 go_enter Tryz.func44, Tryz.ntmps44
 go_wp2_with fail
 refine HK.out.mono ?_
 rintro e w' ⟨rfl, hw⟩; replace hw := hw.symm; subst hw
 go_wp2_with fail
 refine HC.out.mono ?_
 rintro e W1 ⟨rfl, hX1, hF1⟩
 have B1 : Hid (W1.heap[w.heap.size]? = _) := (hF1.block _ (block_lt N0.out) HI0.out.1).trans N0.out
 have G1 : Hid (W1.heap[w.heap.size + 1]? = _) := (hF1.block _ (block_lt G0.out) HI0.out.2).trans G0.out
 have X1 : Hid (TAt W1 tb L T) := hX1
 have F1 : Hid (FrT L L w W1) := (FrT.of FW.out fun _ _ _ => trivial).trans hF1
 have c0 := block_cell B1.out 0
 clear hX1 hF1 HC HB0 N0 G0 st hW0 FW b0 n0c g0c
 have m1 : (Instr.makeSlice 28 (.int .i64 (n : Int)) (.int .i64 (n : Int))).run Tryz.prog W1 = .ok (.slice (some ⟨W1.heap.size, 0, none⟩) n n) (W1.alloc (.cells (Array.replicate n (Value.bool false)) 4)) := by
  obtain ⟨i0, hi0, hz0, hz1, hz2⟩ := infoB
  have := run_make (P := Tryz.prog) W1 28 4 i0 _ Tryz.underlying28 hi0 hz0 .i64 .i64 (n : Int) (n : Int) (by omega) (by omega) (by rw [hz2]; omega) (by omega)
  rw [this, Int.toNat_natCast, hz1, made_one rfl]
 go_wp2_with fail
 obtain ⟨ba, hba⟩ : ∃ ba, W1.heap.size = ba := ⟨_, rfl⟩
 have hbw : w.heap.size ≤ ba := by rw [← hba]; exact F1.out.size
 have hbo : L.own ba = 0 := X1.out.hi ba (by omega)
 have fA : Fr (fun _ => True) W1 (W1.alloc (.cells (Array.replicate n (Value.bool false)) 4)) := (Fr.refl _ W1).alloc _
 have X2 : Hid (TAt (W1.alloc (.cells (Array.replicate n (Value.bool false)) 4)) tb L T) := X1.out.alloc _
 have F2 : Hid (FrT L L w (W1.alloc (.cells (Array.replicate n (Value.bool false)) 4))) := F1.out.trans (FrT.of fA fun _ _ _ => trivial)
 have B2 : Hid ((W1.alloc (.cells (Array.replicate n (Value.bool false)) 4)).heap[w.heap.size]? = _) := (fA.block _ (block_lt B1.out) trivial).trans B1.out
 have G2 : Hid ((W1.alloc (.cells (Array.replicate n (Value.bool false)) 4)).heap[w.heap.size + 1]? = _) := (fA.block _ (block_lt G1.out) trivial).trans G1.out
 have A2 : Hid ((W1.alloc (.cells (Array.replicate n (Value.bool false)) 4)).heap[ba]? = some (.cells (rowB n v 0) 4 (0, 0))) := by
  show _ = _
  rw [heap_new hba, rowB_zero]
 have hne : ba ≠ w.heap.size ∧ ba ≠ w.heap.size + 1 := by
  have := block_lt G1.out
  omega
 have HNE : Hid (ba ≠ w.heap.size ∧ ba ≠ w.heap.size + 1 ∧ L.own ba = 0 ∧ w.heap.size ≤ ba) := ⟨hne.1, hne.2, hbo, hbw⟩
 rw [hba]
 clear X1 F1 B1 G1 c0 m1 fA hba hbw hbo hne
 generalize (W1.alloc (.cells (Array.replicate n (Value.bool false)) 4)) = W2 at X2 F2 B2 G2 A2 ⊢
 go_loopg [32] n (fun k s32 wr => ∃ j : Nat, s32 = .int .i64 (j : Int) ∧ j + k = n ∧ Hid (TAt wr tb L T) ∧ Hid (FrT L L w wr) ∧ Hid (wr.heap[w.heap.size]? = some (.cells #[.int .i64 (n : Int)] 3 (0, 0))) ∧ Hid (wr.heap[w.heap.size + 1]? = some (.cells #[.func (.func 76) #[] #[.pointer (some ⟨w.heap.size, 0, none⟩)]] 84 (0, 0))) ∧ Hid (wr.heap[ba]? = some (.cells (rowB n v j) 4 (0, 0))))
 case atStart => exact ⟨0, rfl, by omega, X2, F2, B2, G2, A2⟩
 case round =>
  clear X2 F2 B2 G2 A2
  obtain ⟨j, rfl, hjk, X, F, B, G, R⟩ := hrel
  by_cases hj : j < n
  · obtain ⟨k, rfl⟩ : ∃ k, gk = k + 1 := ⟨gk - 1, by omega⟩
    have hjl : (j : Int) < (n : Int) := by omega
    have hj0 : (0 : Int) ≤ (j : Int) := by omega
    have c1 := block_cell G.out 0
    have HBIT : Hid (Calls _ _ _ _ _) := bit_any wr n j w.heap.size h24 hj (block_cell B.out 0)
    have cR : wr.cell? ⟨ba, j, none⟩ = some (Value.bool (decide (j < j) && v.testBit (n - 1 - j))) := (block_cell R.out j).trans (rowB_get n v j j hj)
    have zR := frozen_block R.out j
    obtain ⟨q, hq⟩ : ∃ q, n - 1 - j = q := ⟨_, rfl⟩
    obtain ⟨pq, hpq⟩ : ∃ pq, 2 ^ q = pq := ⟨_, rfl⟩
    have hpl : pq ≤ 16777216 := by
     rw [← hpq]
     have : 2 ^ q ≤ 2 ^ 24 := Nat.pow_le_pow_right (by omega) (by omega)
     exact this
    have ha := (bits_i64 v pq (by omega) (by omega)).1
    obtain ⟨vb, hvb⟩ : ∃ vb, v.testBit q = vb := ⟨_, rfl⟩
    have hne : (((v &&& pq : Nat) : Int) != 0) = vb := by
     rw [← hvb, ← and_pow v q, hpq]
     generalize v &&& pq = x
     rw [Bool.eq_iff_iff]; simp
    rw [hq, hpq] at HBIT
    obtain ⟨va, hva⟩ : ∃ va, v &&& pq = va := ⟨_, rfl⟩
    rw [hva] at ha hne
    go_wp2_with fail
    refine HBIT.out.mono ?_
    rintro e w' ⟨rfl, hw⟩; replace hw := hw.symm; subst hw
    have X3 : Hid (TAt (wr.setCell ⟨ba, j, none⟩ (.bool vb)) tb L T) := X.out.away HNE.out.2.2.1 j _
    have F3 : Hid (FrT L L w (wr.setCell ⟨ba, j, none⟩ (.bool vb))) := F.out.setB (by exact HNE.out.2.2.2) _
    have fS : Fr (· ≠ ba) wr (wr.setCell ⟨ba, j, none⟩ (.bool vb)) := (Fr.refl _ wr).set (by simp) _
    have B3 : Hid ((wr.setCell ⟨ba, j, none⟩ (.bool vb)).heap[w.heap.size]? = _) := (fS.block _ (block_lt B.out) (Ne.symm HNE.out.1)).trans B.out
    have G3 : Hid ((wr.setCell ⟨ba, j, none⟩ (.bool vb)).heap[w.heap.size + 1]? = _) := (fS.block _ (block_lt G.out) (Ne.symm HNE.out.2.1)).trans G.out
    have R3 : Hid ((wr.setCell ⟨ba, j, none⟩ (.bool vb)).heap[ba]? = some (.cells (rowB n v (j + 1)) 4 (0, 0))) := by
     show _ = _
     rw [set_block R.out j, ← rowB_set n v j, hq, hvb]
    clear HBIT c1 fS X F B G R hq hpq hvb hva
    go_wp2_with fail
    go_roundg k
    case measure => omega
    case rel => exact ⟨j + 1, by simp, by omega, X3, F3, B3, G3, R3⟩
  · have hjl : ¬ (j : Int) < (n : Int) := by omega
    have R4 : Hid (wr.heap[ba]? = some (.cells ((firstL n v).map Value.bool).toArray 4 (0, 0))) := by
     show _ = _
     rw [R.out, ← rowB_end n v j (by omega)]
    go_wp2_with fail
    exact bodyPost_ret (v := .tuple #[.slice (some ⟨ba, 0, none⟩) n n, .bool true]) (by simp [results, Tryz.results44, go_sem]) rfl ⟨ba, rfl, R4.out, HNE.out.2.2.1, HNE.out.2.2.2, X.out, F.out⟩
set_option maxHeartbeats 1000000 in
theorem First_none (h : TAt w tb L T) (hm : Mid n lv M A T) :
 Calls Tryz.prog 44 #[.pointer (some ⟨tb, 0, none⟩), .int .i64 0] w fun e w' => e = .returned (.tuple #[.slice none 0 0, .bool false]) ∧ TAt w' tb L T ∧ FrT L L w w' := by
 obtain ⟨rf, ef, df⟩ := hm.t.inv.live0
 have HK : Hid (Calls Tryz.prog 58 #[.pointer (some ⟨tb, 0, none⟩), .int .i64 0] w _) := known_any h 0 rf ef df
 have HX : Hid (TAt w tb L T) := h
 have mo := follows
 clear h hm ef df
 go_enter Tryz.func44, Tryz.ntmps44
 go_wp2_with fail
 refine HK.out.mono ?_
 rintro e w' ⟨rfl, hw⟩; replace hw := hw.symm; subst hw
 go_wp2_with fail
 exact bodyPost_ret (v := .tuple #[.slice none 0 0, .bool false]) (by simp [results, Tryz.results44, go_sem]) rfl ⟨rfl, HX.out, FrT.refl _ _⟩
end
end Go.Proofs.YtaakjjefnjbabaaGreat.Sx
namespace Go.Proofs.YtaakjjefnjbabaaGreat.Sx
def Rch (T : Tb) (f x : Nat) : Prop := ∀ S : Nat → Prop, S f → (∀ (y : Nat) (r : Rw), 2 ≤ y → S y → T.rows[y]? = some r → S r.low ∧ S r.high) → S x
theorem Rch.here {T : Tb} (f : Nat) : Rch T f f := fun _ h _ => h
theorem Rch.low {T : Tb} {f x : Nat} {r : Rw} (h2 : 2 ≤ f) (hr : T.rows[f]? = some r) (h : Rch T r.low x) : Rch T f x := fun S hf hc => h S (hc f r h2 hf hr).1 hc
theorem Rch.high {T : Tb} {f x : Nat} {r : Rw} (h2 : 2 ≤ f) (hr : T.rows[f]? = some r) (h : Rch T r.high x) : Rch T f x := fun S hf hc => h S (hc f r h2 hf hr).2 hc
def Thr (ls pre : List Nat) (x : Nat) : Prop := x < 2 ∨ x ∈ ls ∨ x ∈ pre
structure VisP (lv : Nat → Nat) (T : Tb) (f : Nat) (sn ls sn' ls' d : List Nat) : Prop where
 eq : ls' = ls ++ d
 mem : ∀ x, x ∈ sn' ↔ x ∈ sn ∨ x ∈ d
 nd : sn'.Nodup
 dnd : d.Nodup
 new : ∀ x ∈ d, x ∉ sn ∧ 2 ≤ x ∧ Live T x ∧ rk lv T f ≤ rk lv T x ∧ Rch T f x
 clo : ∀ (pre post : List Nat) (x : Nat) (r : Rw), d = pre ++ x :: post → T.rows[x]? = some r → Thr ls pre r.low ∧ Thr ls pre r.high
 has : Thr ls d f
def Seen (lv : Nat → Nat) (T : Tb) (f : Nat) (sn ls : List Nat) : Prop := ∀ x ∈ sn, x < 2 ∨ x ∈ ls ∨ rk lv T x < rk lv T f
section
variable {n : Nat} {lv : Nat → Nat} {p : Nat → Nat} {T : Tb} {f : Nat} {r : Rw} {sn ls s1 l1 d1 s2 l2 d2 : List Nat}
theorem VisP.hit (hn : sn.Nodup) (hs : Seen lv T f sn ls) (hf : f ∈ sn) : VisP lv T f sn ls sn ls [] :=
 ⟨by simp, by simp, hn, List.nodup_nil, by simp, fun pre post x r h => by simp at h, by
   rcases hs f hf with h | h | h
   · exact .inl h
   · exact .inr (.inl h)
   · omega⟩
theorem Seen.low (h : Tbl n lv p T) (h2 : 2 ≤ f) (hr : T.rows[f]? = some r) (hd : r.about ≠ -1) (hs : Seen lv T f sn ls) : Seen lv T r.low (sn ++ [f]) ls := by
 obtain ⟨_, _, _, _, _, a6, a7⟩ := h.inv.nd f r h2 hr hd
 intro x hx
 rcases List.mem_append.1 hx with hx | hx
 · rcases hs x hx with q | q | q
   · exact .inl q
   · exact .inr (.inl q)
   · exact .inr (.inr (by omega))
 · rw [List.mem_singleton.1 hx]; exact .inr (.inr a6)
theorem Seen.high (h : Tbl n lv p T) (h2 : 2 ≤ f) (hr : T.rows[f]? = some r) (hd : r.about ≠ -1) (hs : Seen lv T f sn ls) (hv : VisP lv T r.low (sn ++ [f]) ls s1 l1 d1) : Seen lv T r.high s1 l1 := by
 obtain ⟨_, _, _, _, _, a6, a7⟩ := h.inv.nd f r h2 hr hd
 intro x hx
 rcases (hv.mem x).1 hx with hx | hx
 · rcases List.mem_append.1 hx with hx | hx
   · rcases hs x hx with q | q | q
     · exact .inl q
     · exact .inr (.inl (by rw [hv.eq]; exact List.mem_append.2 (.inl q)))
     · exact .inr (.inr (by omega))
   · rw [List.mem_singleton.1 hx]; exact .inr (.inr a7)
 · exact .inr (.inl (by rw [hv.eq]; exact List.mem_append.2 (.inr hx)))
theorem Thr.mono {ls pre ls' pre' : List Nat} {x : Nat} (h : Thr ls pre x) (h1 : ∀ y, y ∈ ls ∨ y ∈ pre → y ∈ ls' ∨ y ∈ pre') : Thr ls' pre' x := by
 rcases h with h | h | h
 · exact .inl h
 · exact .inr (h1 x (.inl h))
 · exact .inr (h1 x (.inr h))
theorem VisP.main (h : Tbl n lv p T) (h2 : 2 ≤ f) (hr : T.rows[f]? = some r) (hd : r.about ≠ -1) (hx : f ∉ sn) (H1 : VisP lv T r.low (sn ++ [f]) ls s1 l1 d1) (H2 : VisP lv T r.high s1 l1 s2 l2 d2) : VisP lv T f sn ls s2 (l2 ++ [f]) (d1 ++ d2 ++ [f]) := by
 obtain ⟨_, _, _, _, _, a6, a7⟩ := h.inv.nd f r h2 hr hd
 have hf1 : f ∈ s1 := (H1.mem f).2 (.inl (by simp))
 have n1 : f ∉ d1 := fun q => (H1.new f q).1 (by simp)
 have n2 : f ∉ d2 := fun q => (H2.new f q).1 hf1
 refine ⟨by rw [H2.eq, H1.eq]; simp, fun x => ?_, H2.nd, ?_, fun x hx2 => ?_, fun pre post x q e hq => ?_, .inr (.inr (by simp))⟩
 · rw [H2.mem x, H1.mem x]
   simp only [List.mem_append, List.mem_singleton]
   constructor
   · rintro ((( a | a) | a) | a)
     · exact .inl a
     · exact .inr (.inr a)
     · exact .inr (.inl (.inl a))
     · exact .inr (.inl (.inr a))
   · rintro (a | (a | a) | a)
     · exact .inl (.inl (.inl a))
     · exact .inl (.inr a)
     · exact .inr a
     · exact .inl (.inl (.inr a))
 · rw [List.nodup_append, List.nodup_append]
   refine ⟨⟨H1.dnd, H2.dnd, fun a ha b hb e => ?_⟩, by simp, fun a ha b hb e => ?_⟩
   · subst e; exact (H2.new a hb).1 ((H1.mem a).2 (.inr ha))
   · rw [List.mem_singleton.1 hb] at e
     subst e
     rcases List.mem_append.1 ha with q | q
     · exact n1 q
     · exact n2 q
 · rcases List.mem_append.1 hx2 with hx2 | hx2
   · rcases List.mem_append.1 hx2 with hx2 | hx2
     · obtain ⟨b1, b2, b3, b4, b5⟩ := H1.new x hx2
       exact ⟨fun q => b1 (List.mem_append.2 (.inl q)), b2, b3, by omega, .low h2 hr b5⟩
     · obtain ⟨b1, b2, b3, b4, b5⟩ := H2.new x hx2
       exact ⟨fun q => b1 ((H1.mem x).2 (.inl (List.mem_append.2 (.inl q)))), b2, b3, by omega, .high h2 hr b5⟩
   · rw [List.mem_singleton.1 hx2]
     exact ⟨hx, h2, ⟨r, hr, hd⟩, Nat.le_refl _, .here f⟩
 · rcases List.append_eq_append_iff.1 e with ⟨t, e1, e2⟩ | ⟨t, e1, e2⟩
   · -- x is the last
     have ht : t = [] := by
      cases t with
      | nil => rfl
      | cons a t => simp at e2
     subst ht
     simp at e2 e1
     obtain ⟨rfl, _⟩ := e2
     rw [hr] at hq; cases hq
     rw [e1]
     exact ⟨H1.has.mono fun y hy => hy.imp id fun q => List.mem_append.2 (.inl q), H2.has.mono fun y hy => by
      rcases hy with q | q
      · rw [H1.eq] at q
        exact (List.mem_append.1 q).imp id fun q => List.mem_append.2 (.inl q)
      · exact .inr (List.mem_append.2 (.inr q))⟩
   · cases t with
     | nil =>
       simp at e2 e1
       obtain ⟨rfl, _⟩ := e2
       rw [hr] at hq; cases hq
       rw [← e1]
       exact ⟨H1.has.mono fun y hy => hy.imp id fun q => List.mem_append.2 (.inl q), H2.has.mono fun y hy => by
        rcases hy with q | q
        · rw [H1.eq] at q
          exact (List.mem_append.1 q).imp id fun q => List.mem_append.2 (.inl q)
        · exact .inr (List.mem_append.2 (.inr q))⟩
     | cons a t =>
       simp only [List.cons_append, List.cons.injEq] at e2
       obtain ⟨rfl, e2⟩ := e2
       rcases List.append_eq_append_iff.1 e1 with ⟨u, e3, e4⟩ | ⟨u, e3, e4⟩
       · -- in d2
         obtain ⟨c1, c2⟩ := H2.clo u t x q (by rw [e4]) hq
         have key : ∀ y, y ∈ l1 ∨ y ∈ u → y ∈ ls ∨ y ∈ pre := fun y hy => by
          rw [e3]
          rcases hy with hy | hy
          · rw [H1.eq] at hy
            exact (List.mem_append.1 hy).imp id fun w => List.mem_append.2 (.inl w)
          · exact .inr (List.mem_append.2 (.inr hy))
         exact ⟨c1.mono key, c2.mono key⟩
       · cases u with
         | nil =>
           simp at e4 e3
           obtain ⟨c1, c2⟩ := H2.clo [] t x q (by simp [e4]) hq
           have key : ∀ y, y ∈ l1 ∨ y ∈ ([] : List Nat) → y ∈ ls ∨ y ∈ pre := fun y hy => by
            rw [← e3]
            rcases hy with hy | hy
            · rw [H1.eq] at hy
              exact List.mem_append.1 hy
            · simp at hy
           exact ⟨c1.mono key, c2.mono key⟩
         | cons b u =>
           simp only [List.cons_append, List.cons.injEq] at e4
           obtain ⟨rfl, e4⟩ := e4
           exact H1.clo pre u x q e3 hq
end
end Go.Proofs.YtaakjjefnjbabaaGreat.Sx
namespace Go.Proofs.YtaakjjefnjbabaaGreat.Sx
def ky (T : Tb) (x : Nat) : Int × Nat × Nat := match T.rows[x]? with
 | some r => keyR r
 | none => (-1, 0, 0)
def pr (T : Tb) (v x : Nat) : Nat × Nat := if (ky T x).1 = (v : Int) then (ky T x).2 else (x, x)
section
variable {n : Nat} {ρ p : Nat → Nat} {T T' : Tb} {x y : Nat}
theorem ky_at {r : Rw} (h : T.rows[x]? = some r) : ky T x = keyR r := by unfold ky; rw [h]
theorem live_ky : Live T x ↔ (ky T x).1 ≠ -1 := by
 unfold ky Live
 cases h : T.rows[x]? with
 | none => simp
 | some r => simp [keyR]
theorem Inv.k0 (h : Inv n ρ p T) : (ky T 0).1 = (n : Int) := by obtain ⟨u, e⟩ := h.e0; rw [ky_at e]; rfl
theorem Inv.k1 (h : Inv n ρ p T) : (ky T 1).1 = (n : Int) := by obtain ⟨u, e⟩ := h.e1; rw [ky_at e]; rfl
theorem Inv.k2 (h : Inv n ρ p T) {a : Nat} (ha : a < n) (hx : (ky T x).1 = (a : Int)) : 2 ≤ x := by
 match x, hx with
 | 0, hx => have := h.k0; omega
 | 1, hx => have := h.k1; omega
 | x + 2, _ => omega
theorem ky_live {a : Nat} (hx : (ky T x).1 = (a : Int)) : Live T x := live_ky.2 (by omega)
theorem Inv.nk (h : Inv n ρ p T) (h2 : 2 ≤ x) (hl : Live T x) : 0 ≤ (ky T x).1 ∧ (ky T x).1 < (n : Int) ∧ (ky T x).2.1 ≠ (ky T x).2.2 ∧ Live T (ky T x).2.1 ∧ Live T (ky T x).2.2 ∧ ρ x < ρ (ky T x).2.1 ∧ ρ x < ρ (ky T x).2.2 := by
 obtain ⟨r, hr, hd⟩ := hl
 rw [ky_at hr]
 exact h.nd x r h2 hr hd
theorem More.ky (h : More T T') (hl : Live T x) : ky T' x = ky T x := by
 obtain ⟨r, hr, hd⟩ := hl
 obtain ⟨q, h1, h2, h3, h4, _⟩ := h.keep x r hr hd
 rw [ky_at hr, ky_at h1]; unfold keyR; rw [h2, h3, h4]
theorem Less.ky (h : Less T T') (hl : Live T' x) : ky T' x = ky T x := by
 obtain ⟨r, hr, hd⟩ := hl
 obtain ⟨q, h1, h2, h3, h4, _⟩ := h.keep x r hr hd
 rw [ky_at hr, ky_at h1]; unfold keyR; rw [h2, h3, h4]
theorem vl_ky (h : Inv n ρ p T) (hb : ∀ x, Live T x → ρ x ≤ n) (σ : Nat → Bool) (h2 : 2 ≤ x) (hl : Live T x) : vl n T x σ = vl n T (if σ (ky T x).1.toNat then (ky T x).2.2 else (ky T x).2.1) σ := by
 obtain ⟨r, hr, hd⟩ := hl
 rw [ky_at hr]
 exact vl_node h hb σ h2 hr hd
theorem vl_pr (h : Inv n ρ p T) (hb : ∀ x, Live T x → ρ x ≤ n) (σ : Nat → Bool) (hl : Live T x) {v : Nat} (hv : v < n) : vl n T x σ = vl n T (if σ v then (pr T v x).2 else (pr T v x).1) σ := by
 by_cases e : (ky T x).1 = (v : Int)
 · unfold pr
   rw [if_pos e, vl_ky h hb σ (h.k2 hv e) hl, e, Int.toNat_natCast]
 · unfold pr
   rw [if_neg e]
   split <;> rfl
end
def rt (lv : Nat → Nat) (u l k : Nat) (T : Tb) (x : Nat) : Nat :=
 if (ky T x).1 = (u : Int) then (if (ky T (ky T x).2.1).1 = (l : Int) ∨ (ky T (ky T x).2.2).1 = (l : Int) then k else k + 1)
 else if (ky T x).1 = (l : Int) then (if (ky T (ky T x).2.1).1 = (u : Int) ∨ (ky T (ky T x).2.2).1 = (u : Int) then k else k + 1)
 else lv (ky T x).1.toNat
theorem rt_congr {lv : Nat → Nat} {u l k : Nat} {T T' : Tb} {x : Nat} (h : ky T' x = ky T x) (h1 : (ky T x).1 = (u : Int) ∨ (ky T x).1 = (l : Int) → (ky T' (ky T x).2.1).1 = (ky T (ky T x).2.1).1 ∧ (ky T' (ky T x).2.2).1 = (ky T (ky T x).2.2).1) : rt lv u l k T' x = rt lv u l k T x := by
 unfold rt
 rw [h]
 by_cases e1 : (ky T x).1 = (u : Int)
 · obtain ⟨a, b⟩ := h1 (.inl e1)
   rw [if_pos e1, if_pos e1, a, b]
 · by_cases e2 : (ky T x).1 = (l : Int)
   · obtain ⟨a, b⟩ := h1 (.inr e2)
     rw [if_neg e1, if_neg e1, if_pos e2, if_pos e2, a, b]
   · rw [if_neg e1, if_neg e1, if_neg e2, if_neg e2]
theorem rt_more {n : Nat} {lv ρ p : Nat → Nat} {u l k : Nat} {T T' : Tb} {x : Nat} (hu : u < n) (hl : l < n) (h : Inv n ρ p T) (m : More T T') (hx : Live T x) : rt lv u l k T' x = rt lv u l k T x := by
 refine rt_congr (m.ky hx) fun e => ?_
 have h2 : 2 ≤ x := e.elim (h.k2 hu) (h.k2 hl)
 obtain ⟨_, _, _, a, b, _⟩ := h.nk h2 hx
 rw [m.ky a, m.ky b]; exact ⟨rfl, rfl⟩
theorem rt_less {n : Nat} {lv ρ p : Nat → Nat} {u l k : Nat} {T T' : Tb} {x : Nat} (hu : u < n) (hl : l < n) (h : Inv n ρ p T') (m : Less T T') (hx : Live T' x) : rt lv u l k T' x = rt lv u l k T x := by
 refine rt_congr (m.ky hx) fun e => ?_
 rw [← m.ky hx] at e ⊢
 have h2 : 2 ≤ x := e.elim (h.k2 hu) (h.k2 hl)
 obtain ⟨_, _, _, a, b, _⟩ := h.nk h2 hx
 rw [m.ky a, m.ky b]; exact ⟨rfl, rfl⟩
theorem rt_le {lv : Nat → Nat} {n u l k : Nat} {T : Tb} {ρ p : Nat → Nat} (hlv : Lv n lv) (h : Inv n ρ p T) (hk : k + 1 < n) {x : Nat} (hx : Live T x) : rt lv u l k T x ≤ n := by
 have hab : (ky T x).1.toNat ≤ n := by
  obtain ⟨r, hr, hd⟩ := hx
  rw [ky_at hr]
  have := h.ab hr
  show r.about.toNat ≤ n
  omega
 unfold rt
 split
 · split <;> omega
 · split
   · split <;> omega
   · exact hlv.le hab
def NodeR (T : Tb) (ab lo hh : Nat) (T' : Tb) (x : Nat) : Prop :=
 (lo = hh ∧ T' = T ∧ x = lo) ∨ (lo ≠ hh ∧ (((ab : Int), lo, hh), x) ∈ T.made ∧ T' = T) ∨ (lo ≠ hh ∧ (∀ q ∈ T.made, q.1 ≠ ((ab : Int), lo, hh)) ∧ T' = nodeP T ab lo hh ∧ x = (numberP T).2)
def cnt (T : Tb) : Nat := T.rows.length - T.free.length
theorem Inv.free_le {n : Nat} {ρ p : Nat → Nat} {T : Tb} (h : Inv n ρ p T) : T.free.length ≤ T.rows.length := nodup_len _ _ h.fn fun x hx => by
 obtain ⟨q, hq, _⟩ := (h.free x).1 hx
 exact lt_of_at hq
theorem number_len (T : Tb) : ((numberP T).1.rows.length = T.rows.length ∧ (numberP T).1.free.length + 1 = T.free.length) ∨ (T.free = [] ∧ (numberP T).1.rows.length = T.rows.length + 1 ∧ (numberP T).1.free = []) := by
 unfold numberP
 cases h : T.free.getLast? with
 | none =>
   have : T.free = [] := List.getLast?_eq_none_iff.1 h
   right; simp [this]
 | some f =>
   have hne : T.free ≠ [] := fun e => by rw [e] at h; cases h
   have := List.length_pos_iff.2 hne
   left
   show T.rows.length = T.rows.length ∧ T.free.dropLast.length + 1 = T.free.length
   rw [List.length_dropLast]
   exact ⟨rfl, by omega⟩
structure NodeQ (n : Nat) (lv : Nat → Nat) (u l k : Nat) (T : Tb) (ab lo hh : Nat) (T' : Tb) (x : Nat) : Prop where
 inv : Inv n (rt lv u l k T') z0 T'
 more : More T T'
 live : Live T' x
 pr : pr T' ab x = (lo, hh)
 gv : ∀ y, Giv T' y → Giv T y
 ng : ∀ S, NG S T → NG (fun y => S y ∨ y = x) T'
 frm : ∀ y, Live T' y → Live T y ∨ (y = x ∧ ky T' y = ((ab : Int), lo, hh) ∧ lo ≠ hh)
 fresh : T'.fresh.length ≤ T.fresh.length + 1
 found : T'.found = T.found
 rank : k + 1 ≤ rt lv u l k T' x
 len : T'.rows.length ≤ max T.rows.length (cnt T + 1)
 cnt : cnt T' ≤ cnt T + 1
 lenle : T.rows.length ≤ T'.rows.length
theorem NG.more {S : Nat → Prop} {T : Tb} (h : NG S T) (x : Nat) : NG (fun y => S y ∨ y = x) T := h.mono fun _ q => .inl q
theorem node_q {n : Nat} {lv : Nat → Nat} {u l k : Nat} {T : Tb} {lo hh : Nat} (hu : u < n) (hl : l < n) (h : Inv n (rt lv u l k T) z0 T) (ll : Live T lo) (lh : Live T hh) (k1 : k + 1 < rt lv u l k T lo) (k2 : k + 1 < rt lv u l k T hh) (b1 : (ky T lo).1 ≠ (u : Int)) (b2 : (ky T lo).1 ≠ (l : Int)) (b3 : (ky T hh).1 ≠ (l : Int)) : ∃ T' x, NodeR T u lo hh T' x ∧ NodeQ n lv u l k T u lo hh T' x := by
 by_cases e : lo = hh
 · subst e
   exact ⟨T, lo, .inl ⟨rfl, rfl, rfl⟩, h, More.refl T, ll, by unfold pr; rw [if_neg b1], fun _ q => q, fun S q => q.more lo, fun y q => .inl q, Nat.le_succ _, rfl, by omega, Nat.le_max_left _ _, Nat.le_succ _, Nat.le_refl _⟩
 by_cases hm : ∃ x, (((u : Int), lo, hh), x) ∈ T.made
 · obtain ⟨x, hm⟩ := hm
   obtain ⟨h2, r, hr, hd, hk⟩ := (h.made _ x).1 hm
   have hkx : ky T x = ((u : Int), lo, hh) := by rw [ky_at hr, ← hk]
   refine ⟨T, x, .inr (.inl ⟨e, hm, rfl⟩), h, More.refl T, ⟨r, hr, hd⟩, ?_, fun _ q => q, fun S q => q.more x, fun y q => .inl q, Nat.le_succ _, rfl, ?_, Nat.le_max_left _ _, Nat.le_succ _, Nat.le_refl _⟩
   · unfold Sx.pr; rw [hkx, if_pos rfl]
   · unfold rt
     rw [hkx, if_pos rfl, if_neg (fun q => q.elim b2 b3)]
     exact Nat.le_refl _
 · have hk : ∀ q ∈ T.made, q.1 ≠ ((u : Int), lo, hh) := fun q hq e2 => hm ⟨q.2, by rw [← e2]; exact hq⟩
   have W0 := h.nodeNew (u : Int) ll lh e
   have m0 : More T (nodeP T u lo hh) := ⟨W0.num.rest.1, W0.num.rest.2.1, fun x q hq hd => by
    have hx : x ≠ (numberP T).2 := fun e => W0.num.dead (e ▸ ⟨q, hq, hd⟩)
    exact ⟨{ q with users := q.users + i1 lo x + i1 hh x }, by rw [W0.get x hx, hq]; rfl, rfl, rfl, rfl, rfl⟩⟩
   have hkx : ky (nodeP T u lo hh) (numberP T).2 = ((u : Int), lo, hh) := by rw [ky_at W0.row]; rfl
   have hrx : rt lv u l k (nodeP T u lo hh) (numberP T).2 = k + 1 := by
    unfold rt
    rw [hkx, if_pos rfl, m0.ky ll, m0.ky lh, if_neg (fun q => q.elim b2 b3)]
   obtain ⟨I, MO, FR, FO, W⟩ := h.node (ρ' := rt lv u l k (nodeP T u lo hh)) (by omega) (by omega : ((u : Nat) : Int) < (n : Int)) ll lh e hk (fun x hx => rt_more hu hl h m0 hx) (by rw [hrx]; exact ⟨k1, k2⟩)
   have hfrom : ∀ (x : Nat) (z : Rw), x ≠ (numberP T).2 → (nodeP T u lo hh).rows[x]? = some z → ∃ q : Rw, T.rows[x]? = some q ∧ z = { q with users := q.users + i1 lo x + i1 hh x } := fun x z hx hz => by
    rw [W.get x hx] at hz
    cases q : T.rows[x]? with
    | none => rw [q] at hz; cases hz
    | some r => rw [q] at hz; exact ⟨r, rfl, (Option.some.inj hz).symm⟩
   have hnl := number_len T
   have hfl := h.free_le
   have hlen : (nodeP T u lo hh).rows.length = (numberP T).1.rows.length := W.len
   have hfree : (nodeP T u lo hh).free = (numberP T).1.free := rfl
   refine ⟨_, _, .inr (.inr ⟨e, hk, rfl, rfl⟩), I, MO, ⟨_, W.row, by show (u : Int) ≠ -1; omega⟩, ?_, fun y ⟨z, hz, hd, hg⟩ => ?_, fun S hS x z hx hz hd hns => ?_, fun y hy => ?_, by rw [FR]; simp, FO, by rw [hrx]; exact Nat.le_refl _, ?_, ?_, ?_⟩
   · unfold Sx.pr; rw [hkx, if_pos rfl]
   · by_cases e2 : y = (numberP T).2
     · subst e2; rw [W.row] at hz; cases hz; cases hg
     · obtain ⟨q, hq, rfl⟩ := hfrom y z e2 hz
       exact ⟨q, hq, hd, hg⟩
   · have hx2 : x ≠ (numberP T).2 := fun e => hns (.inr e)
     obtain ⟨q, hq, rfl⟩ := hfrom x z hx2 hz
     rcases hS x q hx hq hd (fun hm => hns (.inl hm)) with e | e
     · exact .inl e
     · exact .inr (by show 0 < q.users + i1 lo x + i1 hh x; omega)
   · by_cases e2 : y = (numberP T).2
     · subst e2; exact .inr ⟨rfl, hkx, e⟩
     · obtain ⟨z, hz, hd⟩ := hy
       obtain ⟨q, hq, rfl⟩ := hfrom y z e2 hz
       exact .inl ⟨q, hq, hd⟩
   · rw [hlen]; unfold cnt
     rcases hnl with ⟨a, b⟩ | ⟨a, b, c⟩
     · omega
     · rw [a, b]; simp only [List.length_nil]; omega
   · unfold cnt
     rw [hlen, hfree]
     rcases hnl with ⟨a, b⟩ | ⟨a, b, c⟩
     · omega
     · rw [a, b, c]; simp only [List.length_nil]; omega
   · rw [hlen]; omega
end Go.Proofs.YtaakjjefnjbabaaGreat.Sx
