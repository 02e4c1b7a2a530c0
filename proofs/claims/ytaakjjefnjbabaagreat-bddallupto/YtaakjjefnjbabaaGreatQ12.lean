/- Going through a diagram, from where it begins: nodes of nodes. -/
import Derived.Test.YtaakjjefnjbabaaGreatQ11
import Derived.Laws.Bits64b
set_option maxRecDepth 100000
namespace Go.Proofs.YtaakjjefnjbabaaGreat.Sx
open Go.RowKit Go.Sort Go.Maps Go.WideMaps
set_option maxHeartbeats 2000000 in
theorem fold_anyN {n : Nat} {lv : Nat → Nat} {M A K : Nat} {Val : Tb → Nat → Nat → Prop} {ex : List (Nat × Obj)} {tb ca cb cc : Nat} {w : World} {L : Ly} {T : Tb} (h : TAt w tb L T) (hm : Mid n lv M A T) (hV : Mono n lv M A Val) (hX : ∀ p ∈ ex, w.heap[p.1]? = some p.2 ∧ L.own p.1 = 0)
 (hJ : ∀ bm bt bj bo mm : Nat, JoinOKN n lv M A K T Val (EBN tb bm bt bj bo mm ca cb cc ++ ex) mm tb ca cb cc) (f lo hh : Nat) (hf : Live T f) (h0 : Val T 0 lo) (h1 : Val T 1 hh) (hc : A + T.fresh.length + (2 ^ n - 1) * K ≤ M) :
 Calls Tryz.prog 94 #[.pointer (some ⟨tb, 0, none⟩), .int .i64 (f : Int), .int .i64 (lo : Int), .int .i64 (hh : Int), .func (.func 95) #[] #[.pointer (some ⟨ca, 0, none⟩), .pointer (some ⟨cb, 0, none⟩), .pointer (some ⟨cc, 0, none⟩)]] w fun e w' => ∃ (v : Nat) (T' : Tb) (L' : Ly) (ml' : List (Nat × Nat)), e = .returned (.int .i64 (v : Int)) ∧ TAt w' tb L' T' ∧ FrT L L' w w' ∧ OfP n lv M A K n T Val T [(0, lo), (1, hh)] f T' ml' v := by
 have mo := follows
 obtain ⟨W0, hW0⟩ : ∃ W0, ((w.alloc (.cells #[.pointer (some ⟨tb, 0, none⟩)] 36)).alloc (.cells #[.func (.func 95) #[] #[.pointer (some ⟨ca, 0, none⟩), .pointer (some ⟨cb, 0, none⟩), .pointer (some ⟨cc, 0, none⟩)]] 95)) = W0 := ⟨_, rfl⟩
 have fW : Fr (fun _ => True) w W0 := by rw [← hW0]; exact ((Fr.refl _ w).alloc _).alloc _
 have t0 : W0.heap[w.heap.size]? = some (.cells #[.pointer (some ⟨tb, 0, none⟩)] 36 (0, 0)) := by
  rw [← hW0]; exact (((Fr.refl (fun _ => True) _).alloc _).block _ (by simp) trivial).trans (heap_new rfl)
 have j0 : W0.heap[w.heap.size + 1]? = some (.cells #[.func (.func 95) #[] #[.pointer (some ⟨ca, 0, none⟩), .pointer (some ⟨cb, 0, none⟩), .pointer (some ⟨cc, 0, none⟩)]] 95 (0, 0)) := by
  rw [← hW0]; exact heap_new (by simp)
 have m1 : (Instr.makeMap 102 none).run Tryz.prog W0 = .ok (.map (some W0.heap.size)) (W0.alloc (.map #[] 0)) := run_makeMap _ _
 have hz : W0.heap.size = w.heap.size + 2 := by rw [← hW0]; simp
 rw [hz] at m1
 have M1 : MapIs 32 (W0.alloc (.map #[] 0)) (w.heap.size + 2) [] := hz ▸ MapIs.new 32 W0
 have s1 : Sm 0 := by unfold Sm; omega
 have s2 : Sm 1 := by unfold Sm; omega
 obtain ⟨W1, p1, M2, f1, z1⟩ := M1.put lawN Tryz.underlying102 (x := .int .i64 0) (keyN s1.fits) (by simp) (.int .i64 (lo : Int))
 obtain ⟨W2, p2, M3, f2, z2⟩ := M2.put lawN Tryz.underlying102 (x := .int .i64 1) (keyN s2.fits) (by simp) (.int .i64 (hh : Int))
 have hzz : Hid (W2.heap.size = w.heap.size + 3) := (by rw [z2, z1]; simp [hz] : W2.heap.size = w.heap.size + 3)
 have f02 : Fr (· ≠ w.heap.size + 2) W0 W2 := ((Fr.refl _ W0).alloc _).trans (f1.trans f2)
 have o2 := h.hi (w.heap.size + 2) (by omega)
 have g2 : TAt W2 tb L T := (((h.grew fW).alloc _).besideM f1 o2).besideM f2 o2
 have t2 : W2.heap[w.heap.size]? = some (.cells #[.pointer (some ⟨tb, 0, none⟩)] 36 (0, 0)) := (f02.block _ (block_lt t0) (by omega)).trans t0
 have j2 : W2.heap[w.heap.size + 1]? = some (.cells #[.func (.func 95) #[] #[.pointer (some ⟨ca, 0, none⟩), .pointer (some ⟨cb, 0, none⟩), .pointer (some ⟨cc, 0, none⟩)]] 95 (0, 0)) := (f02.block _ (block_lt j0) (by omega)).trans j0
 have HM3 : Hid (MapIs 32 W2 (w.heap.size + 2) (mlV [(0, lo), (1, hh)])) := M3
 have HG2 : Hid (TAt W2 tb L T) := g2
 have HT2 : Hid (_ = _) := t2
 have HJ2 : Hid (_ = _) := j2
 have HFW : Hid (Fr (fun _ => True) w W2) := ⟨f02.os.trans fW.os, f02.tape.trans fW.tape, f02.output.trans fW.output, Nat.le_trans fW.size f02.size, fun k hk _ => (f02.block k (Nat.lt_of_lt_of_le hk fW.size) (by omega)).trans (fW.block k hk trivial)⟩
 have HHI : Hid (∀ b, w.heap.size ≤ b → L.own b = 0) := h.hi
 have HRUN : Hid (∀ (bm bt bj bo mm : Nat) (W : World), TAt W tb L T → Env (EBN tb bm bt bj bo mm ca cb cc ++ ex) mm W L → MapIs 32 W mm (mlV [(0, lo), (1, hh)]) → Calls _ _ _ _ _) := fun bm bt bj bo mm W hW hE hMW =>
  of_okN hV hm.t (by have := hm.rl; have := hm.rm; omega) (hJ bm bt bj bo mm) (fun p hp => List.mem_append.2 (.inl hp)) n W L T [(0, lo), (1, hh)] f hW hm (More.refl T) hE hMW ⟨fun p hp => by
   rcases List.mem_cons.1 hp with rfl | hp
   · exact ⟨h0, s1⟩
   · rw [List.mem_singleton.1 hp]; exact ⟨h1, s2⟩, by simp, ⟨lo, by simp⟩, ⟨hh, by simp⟩⟩ hf (by omega) hc
 have HXX : Hid (∀ p ∈ ex, w.heap[p.1]? = some p.2 ∧ L.own p.1 = 0) := hX
 have st := fun (W : World) (m : Mode) => (show Sem.run Tryz.prog (store ⟨W2.heap.size + 1, 0, none⟩ (.func (.func 104) #[] #[.pointer (some ⟨W2.heap.size, 0, none⟩), .pointer (some ⟨w.heap.size, 0, none⟩), .pointer (some ⟨w.heap.size + 1, 0, none⟩), .pointer (some ⟨W2.heap.size + 1, 0, none⟩)]) m) W = stored Tryz.prog W ⟨W2.heap.size + 1, 0, none⟩ (.func (.func 104) #[] #[.pointer (some ⟨W2.heap.size, 0, none⟩), .pointer (some ⟨w.heap.size, 0, none⟩), .pointer (some ⟨w.heap.size + 1, 0, none⟩), .pointer (some ⟨W2.heap.size + 1, 0, none⟩)]) m from run_store _ W _ _ m rfl)
 clear M1 M2 M3 f1 f2 g2 t2 j2 fW f02 t0 j0 h hm hV hX hJ hf h0 h1 hc s1 s2 z1 z2 o2
 go_enter Tryz.func94, Tryz.ntmps94
 go_wp2_with fail
 clear m1 p1 p2 st
 obtain ⟨W4, hW4⟩ : ∃ W4, ((W2.alloc (.cells #[.map (some (w.heap.size + 2))] 102)).alloc (.cells #[.func (.func 104) #[] #[.pointer (some ⟨W2.heap.size, 0, none⟩), .pointer (some ⟨w.heap.size, 0, none⟩), .pointer (some ⟨w.heap.size + 1, 0, none⟩), .pointer (some ⟨W2.heap.size + 1, 0, none⟩)]] 60)) = W4 := ⟨_, rfl⟩
 have f24 : Fr (fun _ => True) W2 W4 := by rw [← hW4]; exact ((Fr.refl _ _).alloc _).alloc _
 have m4 : W4.heap[W2.heap.size]? = some (.cells #[.map (some (w.heap.size + 2))] 102 (0, 0)) := by
  rw [← hW4]; exact (((Fr.refl (fun _ => True) _).alloc _).block _ (by simp) trivial).trans (heap_new rfl)
 have o4 : W4.heap[W2.heap.size + 1]? = some (.cells #[.func (.func 104) #[] #[.pointer (some ⟨W2.heap.size, 0, none⟩), .pointer (some ⟨w.heap.size, 0, none⟩), .pointer (some ⟨w.heap.size + 1, 0, none⟩), .pointer (some ⟨W2.heap.size + 1, 0, none⟩)]] 60 (0, 0)) := by
  rw [← hW4]; exact heap_new (by simp)
 have hzz := hzz.out
 have hE : Env (EBN tb W2.heap.size w.heap.size (w.heap.size + 1) (W2.heap.size + 1) (w.heap.size + 2) ca cb cc ++ ex) (w.heap.size + 2) W4 L := by
  have hs4 := block_lt o4
  refine ⟨fun p hp => ?_, fun p hp => ?_, fun p hp => ?_, HHI.out _ (by omega), by omega⟩
  · rcases List.mem_append.1 hp with hp | hp
    · unfold EBN at hp
      simp only [List.mem_cons, List.not_mem_nil, or_false] at hp
      rcases hp with rfl | rfl | rfl | rfl
      · exact m4
      · exact (f24.block _ (block_lt HT2.out) trivial).trans HT2.out
      · exact (f24.block _ (block_lt HJ2.out) trivial).trans HJ2.out
      · exact o4
    · have hq := (HXX.out p hp).1
      exact (f24.block _ (Nat.lt_of_lt_of_le (block_lt hq) HFW.out.size) trivial).trans ((HFW.out.block _ (block_lt hq) trivial).trans hq)
  · rcases List.mem_append.1 hp with hp | hp
    · unfold EBN at hp
      simp only [List.mem_cons, List.not_mem_nil, or_false] at hp
      rcases hp with rfl | rfl | rfl | rfl
      · exact HHI.out _ (by show w.heap.size ≤ W2.heap.size; omega)
      · exact HHI.out _ (Nat.le_refl _)
      · exact HHI.out _ (by show w.heap.size ≤ w.heap.size + 1; omega)
      · exact HHI.out _ (by show w.heap.size ≤ W2.heap.size + 1; omega)
    · exact (HXX.out p hp).2
  · rcases List.mem_append.1 hp with hp | hp
    · unfold EBN at hp
      simp only [List.mem_cons, List.not_mem_nil, or_false] at hp
      rcases hp with rfl | rfl | rfl | rfl
      · show W2.heap.size ≠ _; omega
      · show w.heap.size ≠ _; omega
      · show w.heap.size + 1 ≠ _; omega
      · show W2.heap.size + 1 ≠ _; omega
    · have hq := block_lt (HXX.out p hp).1
      omega
 have HC : Hid (Calls _ _ _ _ _) := HRUN.out _ _ _ _ _ W4 (HG2.out.grew f24) hE (HM3.out.of (f24.block _ HM3.out.lt trivial))
 have HF4 : Hid (Fr (fun _ => True) w W4) := HFW.out.trans f24
 rw [hW4]
 clear hE m4 o4 f24 HRUN HG2 HM3 HT2 HJ2 HXX HFW hW4 hW0
 refine HC.out.mono ?_
 rintro e W5 ⟨v, T', L', ml', rfl, hX5, hF5, -, hO5⟩
 have X5 : Hid (TAt W5 tb L' T') := hX5
 have F5 : Hid (FrT L L' w W5) := ⟨hF5.os.trans HF4.out.os, hF5.tape.trans HF4.out.tape, hF5.output.trans HF4.out.output, Nat.le_trans HF4.out.size hF5.size, fun b hb ho => (hF5.block b (Nat.lt_of_lt_of_le hb HF4.out.size) ho (by omega)).trans (HF4.out.block b hb trivial), fun b hb => hF5.own b (Nat.lt_of_lt_of_le hb HF4.out.size)⟩
 have O5 : Hid (OfP n lv M A K n T Val T [(0, lo), (1, hh)] f T' ml' v) := hO5
 clear hX5 hF5 hO5 HC HF4 HHI
 go_wp2_with fail
 go_ret
 exact ⟨v, T', L', ml', rfl, X5.out, F5.out, O5.out⟩
end Go.Proofs.YtaakjjefnjbabaaGreat.Sx
namespace Go.Proofs.YtaakjjefnjbabaaGreat.Sx
open Go.RowKit Go.Sort Go.Maps Go.WideMaps
set_option maxHeartbeats 2000000 in
theorem fold_anyC {n : Nat} {lv : Nat → Nat} {M A K : Nat} {Val : Tb → Nat → Nat → Prop} {ex : List (Nat × Obj)} {tb : Nat} {w : World} {L : Ly} {T : Tb} (h : TAt w tb L T) (hm : Mid n lv M A T) (hV : Mono n lv M A Val) (hX : ∀ p ∈ ex, w.heap[p.1]? = some p.2 ∧ L.own p.1 = 0)
 (hJ : ∀ bm bt bj bo mm : Nat, JoinOKC n lv M A K T Val (EBC tb bm bt bj bo mm ++ ex) mm tb) (f lo hh : Nat) (hf : Live T f) (h0 : Val T 0 lo) (h1 : Val T 1 hh) (hc : A + T.fresh.length + (2 ^ n - 1) * K ≤ M) :
 Calls Tryz.prog 74 #[.pointer (some ⟨tb, 0, none⟩), .int .i64 (f : Int), .int .i64 (lo : Int), .int .i64 (hh : Int), .func (.func 75) #[] #[]] w fun e w' => ∃ (v : Nat) (T' : Tb) (L' : Ly) (ml' : List (Nat × Nat)), e = .returned (.int .i64 (v : Int)) ∧ TAt w' tb L' T' ∧ FrT L L' w w' ∧ OfP n lv M A K n T Val T [(0, lo), (1, hh)] f T' ml' v ∧ T' = T ∧ L' = L := by
 have mo := follows
 obtain ⟨W0, hW0⟩ : ∃ W0, ((w.alloc (.cells #[.pointer (some ⟨tb, 0, none⟩)] 36)).alloc (.cells #[.func (.func 75) #[] #[]] 100)) = W0 := ⟨_, rfl⟩
 have fW : Fr (fun _ => True) w W0 := by rw [← hW0]; exact ((Fr.refl _ w).alloc _).alloc _
 have t0 : W0.heap[w.heap.size]? = some (.cells #[.pointer (some ⟨tb, 0, none⟩)] 36 (0, 0)) := by
  rw [← hW0]; exact (((Fr.refl (fun _ => True) _).alloc _).block _ (by simp) trivial).trans (heap_new rfl)
 have j0 : W0.heap[w.heap.size + 1]? = some (.cells #[.func (.func 75) #[] #[]] 100 (0, 0)) := by
  rw [← hW0]; exact heap_new (by simp)
 have m1 : (Instr.makeMap 124 none).run Tryz.prog W0 = .ok (.map (some W0.heap.size)) (W0.alloc (.map #[] 0)) := run_makeMap _ _
 have hz : W0.heap.size = w.heap.size + 2 := by rw [← hW0]; simp
 rw [hz] at m1
 have M1 : MapIs 32 (W0.alloc (.map #[] 0)) (w.heap.size + 2) [] := hz ▸ MapIs.new 32 W0
 have s1 : Sm 0 := by unfold Sm; omega
 have s2 : Sm 1 := by unfold Sm; omega
 obtain ⟨W1, p1, M2, f1, z1⟩ := M1.put lawN Tryz.underlying124 (x := .int .i64 0) (keyN s1.fits) (by simp) (.int .i64 (lo : Int))
 obtain ⟨W2, p2, M3, f2, z2⟩ := M2.put lawN Tryz.underlying124 (x := .int .i64 1) (keyN s2.fits) (by simp) (.int .i64 (hh : Int))
 have hzz : Hid (W2.heap.size = w.heap.size + 3) := (by rw [z2, z1]; simp [hz] : W2.heap.size = w.heap.size + 3)
 have f02 : Fr (· ≠ w.heap.size + 2) W0 W2 := ((Fr.refl _ W0).alloc _).trans (f1.trans f2)
 have o2 := h.hi (w.heap.size + 2) (by omega)
 have g2 : TAt W2 tb L T := (((h.grew fW).alloc _).besideM f1 o2).besideM f2 o2
 have t2 : W2.heap[w.heap.size]? = some (.cells #[.pointer (some ⟨tb, 0, none⟩)] 36 (0, 0)) := (f02.block _ (block_lt t0) (by omega)).trans t0
 have j2 : W2.heap[w.heap.size + 1]? = some (.cells #[.func (.func 75) #[] #[]] 100 (0, 0)) := (f02.block _ (block_lt j0) (by omega)).trans j0
 have HM3 : Hid (MapIs 32 W2 (w.heap.size + 2) (mlV [(0, lo), (1, hh)])) := M3
 have HG2 : Hid (TAt W2 tb L T) := g2
 have HT2 : Hid (_ = _) := t2
 have HJ2 : Hid (_ = _) := j2
 have HFW : Hid (Fr (fun _ => True) w W2) := ⟨f02.os.trans fW.os, f02.tape.trans fW.tape, f02.output.trans fW.output, Nat.le_trans fW.size f02.size, fun k hk _ => (f02.block k (Nat.lt_of_lt_of_le hk fW.size) (by omega)).trans (fW.block k hk trivial)⟩
 have HHI : Hid (∀ b, w.heap.size ≤ b → L.own b = 0) := h.hi
 have HRUN : Hid (∀ (bm bt bj bo mm : Nat) (W : World), TAt W tb L T → Env (EBC tb bm bt bj bo mm ++ ex) mm W L → MapIs 32 W mm (mlV [(0, lo), (1, hh)]) → Calls _ _ _ _ _) := fun bm bt bj bo mm W hW hE hMW =>
  of_okC hV hm.t (by have := hm.rl; have := hm.rm; omega) (hJ bm bt bj bo mm) (fun p hp => List.mem_append.2 (.inl hp)) n W L T [(0, lo), (1, hh)] f hW hm (More.refl T) hE hMW ⟨fun p hp => by
   rcases List.mem_cons.1 hp with rfl | hp
   · exact ⟨h0, s1⟩
   · rw [List.mem_singleton.1 hp]; exact ⟨h1, s2⟩, by simp, ⟨lo, by simp⟩, ⟨hh, by simp⟩⟩ hf (by omega) hc
 have HXX : Hid (∀ p ∈ ex, w.heap[p.1]? = some p.2 ∧ L.own p.1 = 0) := hX
 have st := fun (W : World) (m : Mode) => (show Sem.run Tryz.prog (store ⟨W2.heap.size + 1, 0, none⟩ (.func (.func 97) #[] #[.pointer (some ⟨W2.heap.size, 0, none⟩), .pointer (some ⟨w.heap.size, 0, none⟩), .pointer (some ⟨w.heap.size + 1, 0, none⟩), .pointer (some ⟨W2.heap.size + 1, 0, none⟩)]) m) W = stored Tryz.prog W ⟨W2.heap.size + 1, 0, none⟩ (.func (.func 97) #[] #[.pointer (some ⟨W2.heap.size, 0, none⟩), .pointer (some ⟨w.heap.size, 0, none⟩), .pointer (some ⟨w.heap.size + 1, 0, none⟩), .pointer (some ⟨W2.heap.size + 1, 0, none⟩)]) m from run_store _ W _ _ m rfl)
 clear M1 M2 M3 f1 f2 g2 t2 j2 fW f02 t0 j0 h hm hV hX hJ hf h0 h1 hc s1 s2 z1 z2 o2
 go_enter Tryz.func74, Tryz.ntmps74
 go_wp2_with fail
 clear m1 p1 p2 st
 obtain ⟨W4, hW4⟩ : ∃ W4, ((W2.alloc (.cells #[.map (some (w.heap.size + 2))] 124)).alloc (.cells #[.func (.func 97) #[] #[.pointer (some ⟨W2.heap.size, 0, none⟩), .pointer (some ⟨w.heap.size, 0, none⟩), .pointer (some ⟨w.heap.size + 1, 0, none⟩), .pointer (some ⟨W2.heap.size + 1, 0, none⟩)]] 68)) = W4 := ⟨_, rfl⟩
 have f24 : Fr (fun _ => True) W2 W4 := by rw [← hW4]; exact ((Fr.refl _ _).alloc _).alloc _
 have m4 : W4.heap[W2.heap.size]? = some (.cells #[.map (some (w.heap.size + 2))] 124 (0, 0)) := by
  rw [← hW4]; exact (((Fr.refl (fun _ => True) _).alloc _).block _ (by simp) trivial).trans (heap_new rfl)
 have o4 : W4.heap[W2.heap.size + 1]? = some (.cells #[.func (.func 97) #[] #[.pointer (some ⟨W2.heap.size, 0, none⟩), .pointer (some ⟨w.heap.size, 0, none⟩), .pointer (some ⟨w.heap.size + 1, 0, none⟩), .pointer (some ⟨W2.heap.size + 1, 0, none⟩)]] 68 (0, 0)) := by
  rw [← hW4]; exact heap_new (by simp)
 have hzz := hzz.out
 have hE : Env (EBC tb W2.heap.size w.heap.size (w.heap.size + 1) (W2.heap.size + 1) (w.heap.size + 2) ++ ex) (w.heap.size + 2) W4 L := by
  have hs4 := block_lt o4
  refine ⟨fun p hp => ?_, fun p hp => ?_, fun p hp => ?_, HHI.out _ (by omega), by omega⟩
  · rcases List.mem_append.1 hp with hp | hp
    · unfold EBC at hp
      simp only [List.mem_cons, List.not_mem_nil, or_false] at hp
      rcases hp with rfl | rfl | rfl | rfl
      · exact m4
      · exact (f24.block _ (block_lt HT2.out) trivial).trans HT2.out
      · exact (f24.block _ (block_lt HJ2.out) trivial).trans HJ2.out
      · exact o4
    · have hq := (HXX.out p hp).1
      exact (f24.block _ (Nat.lt_of_lt_of_le (block_lt hq) HFW.out.size) trivial).trans ((HFW.out.block _ (block_lt hq) trivial).trans hq)
  · rcases List.mem_append.1 hp with hp | hp
    · unfold EBC at hp
      simp only [List.mem_cons, List.not_mem_nil, or_false] at hp
      rcases hp with rfl | rfl | rfl | rfl
      · exact HHI.out _ (by show w.heap.size ≤ W2.heap.size; omega)
      · exact HHI.out _ (Nat.le_refl _)
      · exact HHI.out _ (by show w.heap.size ≤ w.heap.size + 1; omega)
      · exact HHI.out _ (by show w.heap.size ≤ W2.heap.size + 1; omega)
    · exact (HXX.out p hp).2
  · rcases List.mem_append.1 hp with hp | hp
    · unfold EBC at hp
      simp only [List.mem_cons, List.not_mem_nil, or_false] at hp
      rcases hp with rfl | rfl | rfl | rfl
      · show W2.heap.size ≠ _; omega
      · show w.heap.size ≠ _; omega
      · show w.heap.size + 1 ≠ _; omega
      · show W2.heap.size + 1 ≠ _; omega
    · have hq := block_lt (HXX.out p hp).1
      omega
 have HC : Hid (Calls _ _ _ _ _) := HRUN.out _ _ _ _ _ W4 (HG2.out.grew f24) hE (HM3.out.of (f24.block _ HM3.out.lt trivial))
 have HF4 : Hid (Fr (fun _ => True) w W4) := HFW.out.trans f24
 rw [hW4]
 clear hE m4 o4 f24 HRUN HG2 HM3 HT2 HJ2 HXX HFW hW4 hW0
 refine HC.out.mono ?_
 rintro e W5 ⟨v, T', L', ml', rfl, hX5, hF5, -, hO5, q5a, q5b⟩
 have X5 : Hid (TAt W5 tb L' T') := hX5
 have F5 : Hid (FrT L L' w W5) := ⟨hF5.os.trans HF4.out.os, hF5.tape.trans HF4.out.tape, hF5.output.trans HF4.out.output, Nat.le_trans HF4.out.size hF5.size, fun b hb ho => (hF5.block b (Nat.lt_of_lt_of_le hb HF4.out.size) ho (by omega)).trans (HF4.out.block b hb trivial), fun b hb => hF5.own b (Nat.lt_of_lt_of_le hb HF4.out.size)⟩
 have O5 : Hid (OfP n lv M A K n T Val T [(0, lo), (1, hh)] f T' ml' v) := hO5
 clear hX5 hF5 hO5 HC HF4 HHI
 go_wp2_with fail
 go_ret
 exact ⟨v, T', L', ml', rfl, X5.out, F5.out, O5.out, q5a, q5b⟩
end Go.Proofs.YtaakjjefnjbabaaGreat.Sx
namespace Go.Proofs.YtaakjjefnjbabaaGreat.Sx
open Go.RowKit Go.Sort Go.Maps Go.WideMaps
set_option maxHeartbeats 2000000 in
theorem fold_anyF {n : Nat} {lv : Nat → Nat} {M A K : Nat} {Val : Tb → Nat → Nat → Prop} {ex : List (Nat × Obj)} {tb ca : Nat} {w : World} {L : Ly} {T : Tb} (h : TAt w tb L T) (hm : Mid n lv M A T) (hV : Mono n lv M A Val) (hX : ∀ p ∈ ex, w.heap[p.1]? = some p.2 ∧ L.own p.1 = 0)
 (hJ : ∀ bm bt bj bo mm : Nat, JoinOKF n lv M A K T Val (EBF tb bm bt bj bo mm ca ++ ex) mm tb ca) (f lo hh : Nat) (hf : Live T f) (h0 : Val T 0 lo) (h1 : Val T 1 hh) (hc : A + T.fresh.length + (2 ^ n - 1) * K ≤ M) :
 Calls Tryz.prog 74 #[.pointer (some ⟨tb, 0, none⟩), .int .i64 (f : Int), .int .i64 (lo : Int), .int .i64 (hh : Int), .func (.func 77) #[] #[.pointer (some ⟨ca, 0, none⟩)]] w fun e w' => ∃ (v : Nat) (T' : Tb) (L' : Ly) (ml' : List (Nat × Nat)), e = .returned (.int .i64 (v : Int)) ∧ TAt w' tb L' T' ∧ FrT L L' w w' ∧ OfP n lv M A K n T Val T [(0, lo), (1, hh)] f T' ml' v ∧ T' = T ∧ L' = L := by
 have mo := follows
 obtain ⟨W0, hW0⟩ : ∃ W0, ((w.alloc (.cells #[.pointer (some ⟨tb, 0, none⟩)] 36)).alloc (.cells #[.func (.func 77) #[] #[.pointer (some ⟨ca, 0, none⟩)]] 100)) = W0 := ⟨_, rfl⟩
 have fW : Fr (fun _ => True) w W0 := by rw [← hW0]; exact ((Fr.refl _ w).alloc _).alloc _
 have t0 : W0.heap[w.heap.size]? = some (.cells #[.pointer (some ⟨tb, 0, none⟩)] 36 (0, 0)) := by
  rw [← hW0]; exact (((Fr.refl (fun _ => True) _).alloc _).block _ (by simp) trivial).trans (heap_new rfl)
 have j0 : W0.heap[w.heap.size + 1]? = some (.cells #[.func (.func 77) #[] #[.pointer (some ⟨ca, 0, none⟩)]] 100 (0, 0)) := by
  rw [← hW0]; exact heap_new (by simp)
 have m1 : (Instr.makeMap 124 none).run Tryz.prog W0 = .ok (.map (some W0.heap.size)) (W0.alloc (.map #[] 0)) := run_makeMap _ _
 have hz : W0.heap.size = w.heap.size + 2 := by rw [← hW0]; simp
 rw [hz] at m1
 have M1 : MapIs 32 (W0.alloc (.map #[] 0)) (w.heap.size + 2) [] := hz ▸ MapIs.new 32 W0
 have s1 : Sm 0 := by unfold Sm; omega
 have s2 : Sm 1 := by unfold Sm; omega
 obtain ⟨W1, p1, M2, f1, z1⟩ := M1.put lawN Tryz.underlying124 (x := .int .i64 0) (keyN s1.fits) (by simp) (.int .i64 (lo : Int))
 obtain ⟨W2, p2, M3, f2, z2⟩ := M2.put lawN Tryz.underlying124 (x := .int .i64 1) (keyN s2.fits) (by simp) (.int .i64 (hh : Int))
 have hzz : Hid (W2.heap.size = w.heap.size + 3) := (by rw [z2, z1]; simp [hz] : W2.heap.size = w.heap.size + 3)
 have f02 : Fr (· ≠ w.heap.size + 2) W0 W2 := ((Fr.refl _ W0).alloc _).trans (f1.trans f2)
 have o2 := h.hi (w.heap.size + 2) (by omega)
 have g2 : TAt W2 tb L T := (((h.grew fW).alloc _).besideM f1 o2).besideM f2 o2
 have t2 : W2.heap[w.heap.size]? = some (.cells #[.pointer (some ⟨tb, 0, none⟩)] 36 (0, 0)) := (f02.block _ (block_lt t0) (by omega)).trans t0
 have j2 : W2.heap[w.heap.size + 1]? = some (.cells #[.func (.func 77) #[] #[.pointer (some ⟨ca, 0, none⟩)]] 100 (0, 0)) := (f02.block _ (block_lt j0) (by omega)).trans j0
 have HM3 : Hid (MapIs 32 W2 (w.heap.size + 2) (mlV [(0, lo), (1, hh)])) := M3
 have HG2 : Hid (TAt W2 tb L T) := g2
 have HT2 : Hid (_ = _) := t2
 have HJ2 : Hid (_ = _) := j2
 have HFW : Hid (Fr (fun _ => True) w W2) := ⟨f02.os.trans fW.os, f02.tape.trans fW.tape, f02.output.trans fW.output, Nat.le_trans fW.size f02.size, fun k hk _ => (f02.block k (Nat.lt_of_lt_of_le hk fW.size) (by omega)).trans (fW.block k hk trivial)⟩
 have HHI : Hid (∀ b, w.heap.size ≤ b → L.own b = 0) := h.hi
 have HRUN : Hid (∀ (bm bt bj bo mm : Nat) (W : World), TAt W tb L T → Env (EBF tb bm bt bj bo mm ca ++ ex) mm W L → MapIs 32 W mm (mlV [(0, lo), (1, hh)]) → Calls _ _ _ _ _) := fun bm bt bj bo mm W hW hE hMW =>
  of_okF hV hm.t (by have := hm.rl; have := hm.rm; omega) (hJ bm bt bj bo mm) (fun p hp => List.mem_append.2 (.inl hp)) n W L T [(0, lo), (1, hh)] f hW hm (More.refl T) hE hMW ⟨fun p hp => by
   rcases List.mem_cons.1 hp with rfl | hp
   · exact ⟨h0, s1⟩
   · rw [List.mem_singleton.1 hp]; exact ⟨h1, s2⟩, by simp, ⟨lo, by simp⟩, ⟨hh, by simp⟩⟩ hf (by omega) hc
 have HXX : Hid (∀ p ∈ ex, w.heap[p.1]? = some p.2 ∧ L.own p.1 = 0) := hX
 have st := fun (W : World) (m : Mode) => (show Sem.run Tryz.prog (store ⟨W2.heap.size + 1, 0, none⟩ (.func (.func 97) #[] #[.pointer (some ⟨W2.heap.size, 0, none⟩), .pointer (some ⟨w.heap.size, 0, none⟩), .pointer (some ⟨w.heap.size + 1, 0, none⟩), .pointer (some ⟨W2.heap.size + 1, 0, none⟩)]) m) W = stored Tryz.prog W ⟨W2.heap.size + 1, 0, none⟩ (.func (.func 97) #[] #[.pointer (some ⟨W2.heap.size, 0, none⟩), .pointer (some ⟨w.heap.size, 0, none⟩), .pointer (some ⟨w.heap.size + 1, 0, none⟩), .pointer (some ⟨W2.heap.size + 1, 0, none⟩)]) m from run_store _ W _ _ m rfl)
 clear M1 M2 M3 f1 f2 g2 t2 j2 fW f02 t0 j0 h hm hV hX hJ hf h0 h1 hc s1 s2 z1 z2 o2
 go_enter Tryz.func74, Tryz.ntmps74
 go_wp2_with fail
 clear m1 p1 p2 st
 obtain ⟨W4, hW4⟩ : ∃ W4, ((W2.alloc (.cells #[.map (some (w.heap.size + 2))] 124)).alloc (.cells #[.func (.func 97) #[] #[.pointer (some ⟨W2.heap.size, 0, none⟩), .pointer (some ⟨w.heap.size, 0, none⟩), .pointer (some ⟨w.heap.size + 1, 0, none⟩), .pointer (some ⟨W2.heap.size + 1, 0, none⟩)]] 68)) = W4 := ⟨_, rfl⟩
 have f24 : Fr (fun _ => True) W2 W4 := by rw [← hW4]; exact ((Fr.refl _ _).alloc _).alloc _
 have m4 : W4.heap[W2.heap.size]? = some (.cells #[.map (some (w.heap.size + 2))] 124 (0, 0)) := by
  rw [← hW4]; exact (((Fr.refl (fun _ => True) _).alloc _).block _ (by simp) trivial).trans (heap_new rfl)
 have o4 : W4.heap[W2.heap.size + 1]? = some (.cells #[.func (.func 97) #[] #[.pointer (some ⟨W2.heap.size, 0, none⟩), .pointer (some ⟨w.heap.size, 0, none⟩), .pointer (some ⟨w.heap.size + 1, 0, none⟩), .pointer (some ⟨W2.heap.size + 1, 0, none⟩)]] 68 (0, 0)) := by
  rw [← hW4]; exact heap_new (by simp)
 have hzz := hzz.out
 have hE : Env (EBF tb W2.heap.size w.heap.size (w.heap.size + 1) (W2.heap.size + 1) (w.heap.size + 2) ca ++ ex) (w.heap.size + 2) W4 L := by
  have hs4 := block_lt o4
  refine ⟨fun p hp => ?_, fun p hp => ?_, fun p hp => ?_, HHI.out _ (by omega), by omega⟩
  · rcases List.mem_append.1 hp with hp | hp
    · unfold EBF at hp
      simp only [List.mem_cons, List.not_mem_nil, or_false] at hp
      rcases hp with rfl | rfl | rfl | rfl
      · exact m4
      · exact (f24.block _ (block_lt HT2.out) trivial).trans HT2.out
      · exact (f24.block _ (block_lt HJ2.out) trivial).trans HJ2.out
      · exact o4
    · have hq := (HXX.out p hp).1
      exact (f24.block _ (Nat.lt_of_lt_of_le (block_lt hq) HFW.out.size) trivial).trans ((HFW.out.block _ (block_lt hq) trivial).trans hq)
  · rcases List.mem_append.1 hp with hp | hp
    · unfold EBF at hp
      simp only [List.mem_cons, List.not_mem_nil, or_false] at hp
      rcases hp with rfl | rfl | rfl | rfl
      · exact HHI.out _ (by show w.heap.size ≤ W2.heap.size; omega)
      · exact HHI.out _ (Nat.le_refl _)
      · exact HHI.out _ (by show w.heap.size ≤ w.heap.size + 1; omega)
      · exact HHI.out _ (by show w.heap.size ≤ W2.heap.size + 1; omega)
    · exact (HXX.out p hp).2
  · rcases List.mem_append.1 hp with hp | hp
    · unfold EBF at hp
      simp only [List.mem_cons, List.not_mem_nil, or_false] at hp
      rcases hp with rfl | rfl | rfl | rfl
      · show W2.heap.size ≠ _; omega
      · show w.heap.size ≠ _; omega
      · show w.heap.size + 1 ≠ _; omega
      · show W2.heap.size + 1 ≠ _; omega
    · have hq := block_lt (HXX.out p hp).1
      omega
 have HC : Hid (Calls _ _ _ _ _) := HRUN.out _ _ _ _ _ W4 (HG2.out.grew f24) hE (HM3.out.of (f24.block _ HM3.out.lt trivial))
 have HF4 : Hid (Fr (fun _ => True) w W4) := HFW.out.trans f24
 rw [hW4]
 clear hE m4 o4 f24 HRUN HG2 HM3 HT2 HJ2 HXX HFW hW4 hW0
 refine HC.out.mono ?_
 rintro e W5 ⟨v, T', L', ml', rfl, hX5, hF5, -, hO5, q5a, q5b⟩
 have X5 : Hid (TAt W5 tb L' T') := hX5
 have F5 : Hid (FrT L L' w W5) := ⟨hF5.os.trans HF4.out.os, hF5.tape.trans HF4.out.tape, hF5.output.trans HF4.out.output, Nat.le_trans HF4.out.size hF5.size, fun b hb ho => (hF5.block b (Nat.lt_of_lt_of_le hb HF4.out.size) ho (by omega)).trans (HF4.out.block b hb trivial), fun b hb => hF5.own b (Nat.lt_of_lt_of_le hb HF4.out.size)⟩
 have O5 : Hid (OfP n lv M A K n T Val T [(0, lo), (1, hh)] f T' ml' v) := hO5
 clear hX5 hF5 hO5 HC HF4 HHI
 go_wp2_with fail
 go_ret
 exact ⟨v, T', L', ml', rfl, X5.out, F5.out, O5.out, q5a, q5b⟩
end Go.Proofs.YtaakjjefnjbabaaGreat.Sx
namespace Go.Proofs.YtaakjjefnjbabaaGreat.Sx
open Go.RowKit Go.Sort Go.Maps Go.WideMaps
theorem wrapU (i : Nat) (h : i < 25) : IntKind.u64.wrap (2 ^ i) = ((2 ^ i : Nat) : Int) := by
 have k : ∀ m : Fin 25, IntKind.u64.wrap (2 ^ m.val) = ((2 ^ m.val : Nat) : Int) := by decide
 exact k ⟨i, h⟩
set_option maxHeartbeats 1000000 in
theorem Of_any (w : World) (i : Nat) (hi : i < 25) :
 Calls Tryz.prog 93 #[.int .i64 (i : Int)] w fun e w' => e = .returned (.int .u64 ((2 ^ i : Nat) : Int)) ∧ w' = w := by
 have mo := follows
 go_enter Tryz.func93, Tryz.ntmps93
 go_wp2_with fail
 go_ret
 exact ⟨by rw [← wrapU i hi]; rfl, rfl⟩
theorem pow25 {i : Nat} (hi : i < 25) : 2 ^ i < 33554432 := by
 have : 2 ^ i < 2 ^ 25 := Nat.pow_lt_pow_right (by omega) hi
 exact this
theorem and_pow (s i : Nat) : ((s &&& 2 ^ i) != 0) = s.testBit i := by
 cases h : s.testBit i with
 | true =>
   have : (s &&& 2 ^ i).testBit i = true := by rw [Nat.testBit_and, h, Nat.testBit_two_pow_self]; rfl
   have h2 : s &&& 2 ^ i ≠ 0 := fun e => by rw [e] at this; simp at this
   simpa using h2
 | false =>
   have : s &&& 2 ^ i = 0 := Nat.eq_of_testBit_eq fun j => by
    rw [Nat.testBit_and, Nat.zero_testBit, Nat.testBit_two_pow]
    by_cases e : i = j
    · subst e; rw [h]; rfl
    · simp [e]
   rw [this]; rfl
set_option maxHeartbeats 1000000 in
theorem Has_any (w : World) (s i : Nat) (hs : s < 33554432) (hi : i < 25) :
 Calls Tryz.prog 96 #[.int .u64 (s : Int), .int .i64 (i : Int)] w fun e w' => e = .returned (.bool (s.testBit i)) ∧ w' = w := by
 have HO : Hid (Calls _ _ _ _ _) := Of_any w i hi
 have HM : Hid (Calls Tryz.prog 105 #[.int .u64 (s : Int), .int .u64 ((2 ^ i : Nat) : Int)] w fun e w' => e = .returned (.bool (s.testBit i)) ∧ w' = w) := by
  have mo := follows
  clear HO
  obtain ⟨t, ht⟩ : ∃ t, 2 ^ i = t := ⟨_, rfl⟩
  have ht2 : t < 33554432 := by rw [← ht]; exact pow25 hi
  have hb : (bits BinOp.and IntKind.u64 (s : Int) (t : Int) != 0) = s.testBit i := by
   rw [bits_and_u64_nat s t (by omega) (by omega), ← and_pow s i, ht]
   generalize s &&& t = x
   rw [Bool.eq_iff_iff]; simp
  have HB : Hid ((bits BinOp.and IntKind.u64 (s : Int) (t : Int) != 0) = s.testBit i) := hb
  rw [ht]
  clear hb ht ht2
  go_enter Tryz.func105, Tryz.ntmps105
  go_wp2_with fail
  go_ret
  exact ⟨by rw [← HB.out]; rfl, rfl⟩
 have mo := follows
 obtain ⟨t, ht⟩ : ∃ t, 2 ^ i = t := ⟨_, rfl⟩
 rw [ht] at HO HM
 clear ht
 go_enter Tryz.func96, Tryz.ntmps96
 go_wp2_with fail
 refine HO.out.mono ?_
 rintro e w' ⟨rfl, hw⟩; replace hw := hw.symm; subst hw
 go_wp2_with fail
 refine HM.out.mono ?_
 rintro e w' ⟨rfl, hw⟩; replace hw := hw.symm; subst hw
 go_wp2_with fail
 go_ret
 exact ⟨rfl, rfl⟩
def goneS (n : Nat) : List Int → Nat → Nat
 | [], s => s
 | i :: l, s => goneS n l (if 0 ≤ i ∧ i < (n : Int) then s ||| 2 ^ i.toNat else s)
theorem goneS_bit (n : Nat) : ∀ (l : List Int) (s j : Nat), (goneS n l s).testBit j = (s.testBit j || (decide (j < n) && l.any fun i => decide (i = (j : Int))))
 | [], s, j => by simp [goneS]
 | i :: l, s, j => by
   rw [goneS, goneS_bit n l _ j]
   by_cases h : 0 ≤ i ∧ i < (n : Int)
   · rw [if_pos h, Nat.testBit_or, Nat.testBit_two_pow]
     by_cases e : i.toNat = j
     · have e2 : i = (j : Int) := by omega
       have e3 : j < n := by omega
       simp [e2, e3]
     · have e2 : ¬ i = (j : Int) := by omega
       simp [e, e2]
   · rw [if_neg h]
     by_cases e2 : i = (j : Int)
     · have e3 : ¬ j < n := by omega
       simp [e3]
     · simp [e2]
theorem goneS_lt {n : Nat} (hn : n ≤ 24) : ∀ (l : List Int) (s : Nat), s < 33554432 → goneS n l s < 33554432
 | [], s, h => h
 | i :: l, s, h => by
   rw [goneS]
   refine goneS_lt hn l _ ?_
   split
   · rename_i hc
     have h2 : 2 ^ i.toNat < 2 ^ 25 := Nat.pow_lt_pow_right (by omega) (by omega)
     have h3 : s < 2 ^ 25 := h
     exact Nat.or_lt_two_pow h3 h2
   · exact h
def wv (S : Nat) (jn : Bool → Bool → Bool) : Nat → Tb → Nat → (Nat → Bool) → Bool
 | 0, _, f, _ => f == 1
 | k + 1, T, f, σ => if f = 0 then false else if f = 1 then true else match T.rows[f]? with
   | some r => if S.testBit r.about.toNat then jn (wv S jn k T r.low σ) (wv S jn k T r.high σ) else wv S jn k T (if σ r.about.toNat then r.high else r.low) σ
   | none => false
section
variable {S : Nat} {jn : Bool → Bool → Bool} {n : Nat} {lv : Nat → Nat} {p : Nat → Nat} {T : Tb}
theorem wv_zero (k : Nat) (σ : Nat → Bool) : wv S jn k T 0 σ = false := by cases k <;> rfl
theorem wv_one (k : Nat) (σ : Nat → Bool) : wv S jn k T 1 σ = true := by cases k <;> rfl
theorem wv_step {k f : Nat} {r : Rw} (σ : Nat → Bool) (h2 : 2 ≤ f) (hr : T.rows[f]? = some r) : wv S jn (k + 1) T f σ = if S.testBit r.about.toNat then jn (wv S jn k T r.low σ) (wv S jn k T r.high σ) else wv S jn k T (if σ r.about.toNat then r.high else r.low) σ := by
 rw [wv, if_neg (by omega), if_neg (by omega), hr]
theorem wv_stable (h : Tbl n lv p T) (σ : Nat → Bool) : ∀ (k j f : Nat), Live T f → n < rk lv T f + k → n < rk lv T f + j → wv S jn k T f σ = wv S jn j T f σ
 | 0, j, f, hf, h1, h2 => by have := h.rle f hf; omega
 | k + 1, 0, f, hf, h1, h2 => by have := h.rle f hf; omega
 | k + 1, j + 1, f, hf, h1, h2 => by
   by_cases e0 : f = 0
   · subst e0; rw [wv_zero, wv_zero]
   by_cases e1 : f = 1
   · subst e1; rw [wv_one, wv_one]
   obtain ⟨r, hr, hd⟩ := hf
   have h2f : 2 ≤ f := by omega
   obtain ⟨_, _, _, a4, a5, a6, a7⟩ := h.inv.nd f r h2f hr hd
   rw [wv_step σ h2f hr, wv_step σ h2f hr, wv_stable h σ k j _ a4 (by omega) (by omega), wv_stable h σ k j _ a5 (by omega) (by omega)]
   congr 1
   split
   · exact wv_stable h σ k j _ a5 (by omega) (by omega)
   · exact wv_stable h σ k j _ a4 (by omega) (by omega)
theorem wv_node (h : Tbl n lv p T) {f : Nat} {r : Rw} (σ : Nat → Bool) (h2 : 2 ≤ f) (hr : T.rows[f]? = some r) (hd : r.about ≠ -1) : wv S jn (n + 1) T f σ = if S.testBit r.about.toNat then jn (wv S jn (n + 1) T r.low σ) (wv S jn (n + 1) T r.high σ) else wv S jn (n + 1) T (if σ r.about.toNat then r.high else r.low) σ := by
 obtain ⟨_, _, _, a4, a5, a6, a7⟩ := h.inv.nd f r h2 hr hd
 rw [wv_step σ h2 hr, wv_stable h σ n (n + 1) _ a4 (by omega) (by omega), wv_stable h σ n (n + 1) _ a5 (by omega) (by omega)]
 congr 1
 split
 · exact wv_stable h σ n (n + 1) _ a5 (by omega) (by omega)
 · exact wv_stable h σ n (n + 1) _ a4 (by omega) (by omega)
structure WV (S : Nat) (jn : Bool → Bool → Bool) (n : Nat) (lv : Nat → Nat) (T0 T : Tb) (g v : Nat) : Prop where
 l : Live T v
 val : ∀ σ, vl n T v σ = wv S jn (n + 1) T0 g σ
 r : rk lv T0 g ≤ rk lv T v
theorem WV.mono {T0 : Tb} {M A : Nat} : Mono n lv M A (WV S jn n lv T0) := fun T T' f v hm hM h => ⟨hM.live h.l, fun σ => by rw [vl_more hm.t.inv hM h.l]; exact h.val σ, by rw [rk_more hM h.l]; exact h.r⟩
theorem WV.zero (h : Tbl n lv p T) : WV S jn n lv T T 0 0 := ⟨h.inv.live0, fun σ => by rw [vl_zero, wv_zero], Nat.le_refl _⟩
theorem WV.one (h : Tbl n lv p T) : WV S jn n lv T T 1 1 := ⟨h.inv.live1, fun σ => by rw [vl_one, wv_one], Nat.le_refl _⟩
end
end Go.Proofs.YtaakjjefnjbabaaGreat.Sx
