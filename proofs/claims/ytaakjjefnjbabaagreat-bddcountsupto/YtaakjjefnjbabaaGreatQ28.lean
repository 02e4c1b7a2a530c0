/- A copy of some diagrams: alone. -/
import Derived.Test.YtaakjjefnjbabaaGreatQ27
set_option maxRecDepth 100000
namespace Go.Proofs.YtaakjjefnjbabaaGreat.Sx
open Go.RowKit Go.Sort Go.Maps Go.WideMaps
def thL (th : Nat → Nat) (ls : List Nat) : List (Nat × Nat) := (0 :: 1 :: ls).map fun y => (y, th y)
theorem thL_push {th : Nat → Nat} {ls : List Nat} {j x x' : Nat} (hx : ls[j]? = some x) (hn : ∀ y ∈ ls.take j, y ≠ x) (h2 : 2 ≤ x) : thL (thU th x x') (ls.take (j + 1)) = thL th (ls.take j) ++ [(x, x')] := by
 have key : ∀ y, y ≠ x → thU th x x' y = th y := fun y hy => if_neg hy
 have e : (ls.take j).map (fun y => (y, thU th x x' y)) = (ls.take j).map fun y => (y, th y) := List.map_congr_left fun y hy => by rw [key y (hn y hy)]
 unfold thL
 rw [List.take_add_one, hx]
 simp only [List.map_cons, List.map_append, Option.toList_some, List.map_nil, e, key 0 (by omega), key 1 (by omega), List.cons_append]
 rw [show thU th x x' x = x' from if_pos rfl]
theorem thL_mem {th : Nat → Nat} {ls : List Nat} {y : Nat} (h : y < 2 ∨ y ∈ ls) : (y, th y) ∈ thL th ls := by
 unfold thL
 refine List.mem_map.2 ⟨y, ?_, rfl⟩
 rcases h with h | h
 · have : y = 0 ∨ y = 1 := by omega
   rcases this with rfl | rfl <;> simp
 · simp [h]
theorem thL_un {th : Nat → Nat} {ls : List Nat} {y v : Nat} (h : (y, v) ∈ thL th ls) : v = th y := by
 unfold thL at h
 obtain ⟨z, _, e⟩ := List.mem_map.1 h
 cases e; rfl
section
variable {w : World} {mm : Nat} {th : Nat → Nat} {ls : List Nat}
theorem thL_hit (hM : MapIs 32 w mm (mlV (thL th ls))) {y : Nat} (h : y < 2 ∨ y ∈ ls) (hs : Sm y) : (Instr.lookup 102 (.map (some mm)) (.int .i64 (y : Int)) false).run Tryz.prog w = .ok (.int .i64 (th y : Int)) w := by
 have := hM.hit lawN Tryz.underlying102 (x := .int .i64 (y : Int)) (v := .int .i64 (th y : Int)) (keyN hs.fits) (List.mem_map.2 ⟨_, thL_mem h, rfl⟩) (fun p hp e => by
  obtain ⟨q, hq, rfl⟩ := List.mem_map.1 hp
  have e : (q.1 : Int) = (y : Int) := by simpa using e
  have e : q.1 = y := by omega
  have := thL_un (th := th) (ls := ls) (y := q.1) (v := q.2) hq
  show Value.int .i64 (q.2 : Int) = _
  rw [this, e]) false
 simpa using this
end
theorem Tb0.mid {n : Nat} {lv : Nat → Nat} {M : Nat} {T : Tb} (hB : Base n lv M T) : Mid n lv M 2 { Tb0 n with ord := T.ord, lev := T.lev } := by
 have hM := hB.mid.rm
 have h2 : 2 ≤ M := Nat.le_trans hB.mid.t.inv.two hB.mid.rl
 have B := Tb0.base (n := n) (M := M) hB.mid.n24 h2 hM
 have I := B.mid.t.inv
 have hno : ∀ (x : Nat) (r : Rw), 2 ≤ x → (Tb0 n).rows[x]? = some r → False := fun x r h2 hr => by
  have : x < 2 := lt_of_at hr
  omega
 have hlive : ∀ x, 2 ≤ x → Live (Tb0 n) x → False := fun x h2 ⟨r, hr, _⟩ => hno x r h2 hr
 have I2 : Inv n (rk lv { Tb0 n with ord := T.ord, lev := T.lev }) z0 { Tb0 n with ord := T.ord, lev := T.lev } := by
  have I := I.rank (ρ' := rk lv { Tb0 n with ord := T.ord, lev := T.lev }) fun x h2 lx => (hlive x h2 lx).elim
  exact ⟨hB.mid.t.inv.on, I.e0, I.e1, I.nd, I.made, I.mn, I.free, I.fn, I.us, I.dg, I.lh⟩
 exact ⟨⟨hB.mid.t.lvo, I2⟩, hB.mid.n24, hB.mid.ll, hB.mid.la, fun x r h2 hr _ _ => (hno x r h2 hr).elim, List.nodup_nil, (fun x hx => by cases hx), fun y r h2 hr _ j _ => (hno y r h2 hr).elim, List.nodup_nil, (fun a b c x hx => by cases hx), h2, hM, by show 2 ≤ 0 + 2 + 0; omega⟩
theorem AlnI.zero {n : Nat} {lv : Nat → Nat} {M : Nat} {T : Tb} (hB : Base n lv M T) (ls : List Nat) : AlnI n lv M T ls 0 (fun y => y) { Tb0 n with ord := T.ord, lev := T.lev } := by
 have m := Tb0.mid hB
 have hx : ∀ x, x < (Tb0 n).rows.length → x < 2 := fun x h => h
 refine ⟨m, rfl, rfl, rfl, rfl, fun y hy => ?_, fun x ⟨r, hr, _⟩ => .inl (hx x (lt_of_at hr)), fun x ⟨r, hr, _⟩ => hx x (lt_of_at hr), Nat.le_refl _⟩
 have hy : y < 2 := by
  rcases hy with q | q
  · exact q
  · simp at q
 match y, hy with
 | 0, _ => exact ⟨m.t.inv.live0, funext fun σ => by rw [vl_zero, vl_zero]⟩
 | 1, _ => exact ⟨m.t.inv.live1, funext fun σ => by rw [vl_one, vl_one]⟩
section
variable {w : World} {tb : Nat} {L : Ly} {T : Tb} {n : Nat} {lv : Nat → Nat} {M : Nat}
set_option maxHeartbeats 8000000 in
theorem alone_any (h : TAt w tb L T) (hB : Base n lv M T) (fs : List Nat) (hg : ∀ f ∈ fs, Giv T f) (hfl : fs.length ≤ 1099511627776) (p : Option Addr) (c : Nat) (hv : IntsV w p (nodesI fs)) :
 Calls Tryz.prog 50 #[.pointer (some ⟨tb, 0, none⟩), .slice p fs.length c] w fun e w' => ∃ (t2 : Nat) (Lo : Ly) (Tg : Tb), e = .returned (.pointer (some ⟨t2, 0, none⟩)) ∧ TAt w' t2 Lo Tg ∧ Fr (fun _ => True) w w' ∧ (∀ b, b < w.heap.size → Lo.own b = 0) ∧ AlnP n lv M T fs Tg := by
 have hrl : T.rows.length ≤ 274877906944 := Nat.le_trans hB.mid.rl hB.mid.rm
 have h24 := hB.mid.n24
 have hon : T.ord.length = n := hB.mid.t.inv.on
 have hll : T.lev.length = n + 1 := hB.mid.ll
 have mo := follows
 obtain ⟨an, han⟩ : ∃ an, fs.length = an := ⟨_, rfl⟩
 have HAN : Hid (fs.length = an) := han
 rw [han] at hfl ⊢
 have HB : Hid (Base n lv M T) := hB
 have HGV : Hid (∀ f ∈ fs, Giv T f) := hg
 have HV : Hid (IntsV w p (nodesI fs)) := hv
 have HX0 : Hid (TAt w tb L T) := h
 have HE : Hid (Calls _ _ _ _ _) := empty_any w n h24
 obtain ⟨oa, oc, ho2⟩ := h.len 2 (by omega) (by omega)
 have ho2 : L.val 2 = .slice oa n oc := by rw [ho2, ← hon]; rfl
 obtain ⟨la, lc, hl3⟩ := h.len 3 (by omega) (by omega)
 have hl3 : L.val 3 = .slice la (n + 1) lc := by rw [hl3, ← hll]; rfl
 have OV : Hid (IntsV w oa (nodesI T.ord)) := ⟨fun i x hx => by
  by_cases he : T.ord = []
  · rw [he] at hx; cases hx
  · obtain ⟨og, ocap, OG⟩ := h.ordG he
    have e := OG.eq
    rw [ho2] at e
    cases e
    unfold nodesI at hx
    rw [List.getElem?_map] at hx
    cases q : T.ord[i]? with
    | none => rw [q] at hx; cases hx
    | some y =>
      rw [q] at hx; cases hx
      refine ⟨_, rfl, ?_⟩
      have := OG.cell i y q
      unfold Addr.add
      by_cases hi0 : i = 0
      · subst hi0; simpa using this
      · simpa [hi0] using this⟩
 have LVV : Hid (IntsV w la (nodesI T.lev)) := ⟨fun i x hx => by
  obtain ⟨og, ocap, OG⟩ := h.levG (fun e => by rw [e] at hll; cases hll)
  have e := OG.eq
  rw [hl3] at e
  injection e with e1 e2 e3
  subst e1
  unfold nodesI at hx
  rw [List.getElem?_map] at hx
  cases q : T.lev[i]? with
  | none => rw [q] at hx; cases hx
  | some y =>
    rw [q] at hx; cases hx
    refine ⟨_, rfl, ?_⟩
    have := OG.cell i y q
    unfold Addr.add
    by_cases hi0 : i = 0
    · subst hi0; simpa using this
    · simpa [hi0] using this⟩
 have o0 : w.cell? ⟨tb, 0, none⟩ = some (.slice oa n oc) := by rw [h.cell 0, ← ho2]; rfl
 have HO2 : Hid (L.val 2 = .slice oa n oc) := ho2
 have HL3 : Hid (L.val 3 = .slice la (n + 1) lc) := hl3
 have HLL : Hid (T.ord.length = n ∧ T.lev.length = n + 1) := ⟨hon, hll⟩
 clear han hv hg hB h ho2 hl3 hon hll
 go_enter Tryz.func50, Tryz.ntmps50
 go_wp2_with fail
 refine HE.out.mono ?_
 rintro e W1 ⟨t2, L1, rfl, hX1, hF1, hO1⟩
 have X1 : Hid (TAt W1 t2 L1 (Tb0 n)) := hX1
 have F1 : Hid (Fr (fun _ => True) w W1) := hF1
 have O1 : Hid (∀ b, b < w.heap.size → L1.own b = 0) := hO1
 clear hX1 hF1 hO1 HE o0
 have Xt : Hid (TAt W1 tb L T) := HX0.out.grew F1.out
 have Xtd : Hid (TAt W1.drew tb L T) := Xt.out.drew
 have X1d : Hid (TAt W1.drew t2 L1 (Tb0 n)) := X1.out.drew
 have frV : ∀ {W W' : World} {q : Option Addr} {l : List Nat}, IntsV W q (nodesI l) → Fr (fun _ => True) W W' → IntsV W' q (nodesI l) := fun {W W' q l} hh f => ⟨fun i x hx => by
  obtain ⟨a, e, hc⟩ := hh.cell i x hx
  exact ⟨a, e, (World.cell?_of_block (w := W) (f.block _ (World.block_lt_of_cell? W _ hc) trivial)).trans hc⟩⟩
 have FRV : Hid (∀ {W W' : World} {q : Option Addr} {l : List Nat}, IntsV W q (nodesI l) → Fr (fun _ => True) W W' → IntsV W' q (nodesI l)) := frV
 clear frV
 obtain ⟨da, dc, hd2⟩ := X1.out.len 2 (by omega) (by omega)
 have hd2 : L1.val 2 = .slice da n dc := by rw [hd2]; show Value.slice da (List.range n).length dc = _; rw [List.length_range]
 obtain ⟨ea, ec, he3⟩ := X1.out.len 3 (by omega) (by omega)
 have he3 : L1.val 3 = .slice ea (n + 1) ec := by rw [he3]; show Value.slice ea (List.range (n + 1)).length ec = _; rw [List.length_range]
 obtain ⟨W2, hcp, hX2, hF2⟩ := X1d.out.copyI (t := 2) (T' := { Tb0 n with ord := T.ord }) (by omega) (by omega) (l := T.ord) (by show (List.range n).length = _; rw [List.length_range, HLL.out.1]) (k := List.range n) rfl (a' := oa) (cap' := oc) (FRV.out OV.out (F1.out.drew)) ⟨fun s hs => by unfold Tb.len Tb.cells; simp [hs], fun _ => rfl, fun _ => rfl⟩ rfl rfl (by rw [List.length_range, HLL.out.1]) 3
 rw [HLL.out.1, hd2] at hcp
 have X2 : Hid (TAt W2 t2 L1 { Tb0 n with ord := T.ord }) := hX2
 have F2 : Hid (FrT L1 L1 W1 W2) := (FrT.of (Fr.refl (fun _ => True) W1).drew fun _ _ _ => trivial).trans hF2
 have b0 : W1.cell? ⟨tb, 0, none⟩ = some (.slice oa n oc) := by rw [Xt.out.cell 0, ← HO2.out]; rfl
 have b0d : W1.drew.cell? ⟨tb, 0, none⟩ = some (.slice oa n oc) := b0
 have d0 : W1.cell? ⟨t2, 0, none⟩ = some (.slice da n dc) := by rw [X1.out.cell 0, ← hd2]; rfl
 have d0d : W1.drew.cell? ⟨t2, 0, none⟩ = some (.slice da n dc) := d0
 have HE3 : Hid (L1.val 3 = .slice ea (n + 1) ec) := he3
 clear hX2 hF2 hd2 he3 Xtd X1d
 go_wp2_with fail
 go_big_region_o
 clear b0 b0d d0 d0d hcp X1 Xt
 have G2 : Hid (Fr (fun _ => True) w W2) := ⟨F2.out.os.trans F1.out.os, F2.out.tape.trans F1.out.tape, F2.out.output.trans F1.out.output, Nat.le_trans F1.out.size F2.out.size, fun b hb _ => (F2.out.block b (Nat.lt_of_lt_of_le hb F1.out.size) (O1.out b hb)).trans (F1.out.block b hb trivial)⟩
 have Xt : Hid (TAt W2 tb L T) := HX0.out.grew G2.out
 have X2d : Hid (TAt W2.drew t2 L1 { Tb0 n with ord := T.ord }) := X2.out.drew
 obtain ⟨W3, hcp, hX3, hF3⟩ := X2d.out.copyI (t := 3) (T' := { Tb0 n with ord := T.ord, lev := T.lev }) (by omega) (by omega) (l := T.lev) (by show (List.range (n + 1)).length = _; rw [List.length_range, HLL.out.2]) (k := List.range (n + 1)) rfl (a' := la) (cap' := lc) (FRV.out LVV.out (G2.out.drew)) ⟨fun s hs => by unfold Tb.len Tb.cells; simp [hs], fun _ => rfl, fun _ => rfl⟩ rfl rfl (by rw [List.length_range, HLL.out.2]) 3
 rw [HLL.out.2, HE3.out] at hcp
 have X3 : Hid (TAt W3 t2 L1 { Tb0 n with ord := T.ord, lev := T.lev }) := hX3
 have F3 : Hid (FrT L1 L1 W1 W3) := (F2.out.trans (FrT.of (Fr.refl (fun _ => True) W2).drew fun _ _ _ => trivial)).trans hF3
 have b0 : W2.cell? ⟨tb, 1, none⟩ = some (.slice la (n + 1) lc) := by rw [Xt.out.cell 1, ← HL3.out]; rfl
 have b0d : W2.drew.cell? ⟨tb, 1, none⟩ = some (.slice la (n + 1) lc) := b0
 have d0 : W2.cell? ⟨t2, 1, none⟩ = some (.slice ea (n + 1) ec) := by rw [X2.out.cell 1]; show some (L1.val 3) = _; rw [HE3.out]
 have d0d : W2.drew.cell? ⟨t2, 1, none⟩ = some (.slice ea (n + 1) ec) := d0
 clear hX3 hF3 X2d
 go_wp2_with fail
 go_big_region_o
 clear b0 b0d d0 d0d hcp X2 Xt F2 G2
 have m1 : (Instr.makeMap 102 none).run Tryz.prog W3 = .ok (.map (some W3.heap.size)) (W3.alloc (.map #[] 0)) := run_makeMap _ _
 obtain ⟨mm, hmm⟩ : ∃ mm, W3.heap.size = mm := ⟨_, rfl⟩
 have M1 : MapIs 32 (W3.alloc (.map #[] 0)) mm [] := by rw [← hmm]; exact MapIs.new 32 W3
 rw [hmm] at m1
 have HMW : Hid (w.heap.size ≤ mm) := by
  have h1 := F1.out.size
  have h2 := F3.out.size
  show w.heap.size ≤ mm
  omega
 have s1 : Sm 0 := by unfold Sm; omega
 have s2 : Sm 1 := by unfold Sm; omega
 obtain ⟨W4, p1, M2, f1, z1⟩ := M1.put lawN Tryz.underlying102 (x := .int .i64 0) (keyN s1.fits) (by simp) (.int .i64 0)
 obtain ⟨W5, p2, M3, f2, z2⟩ := M2.put lawN Tryz.underlying102 (x := .int .i64 1) (keyN s2.fits) (by simp) (.int .i64 1)
 have f35 : Fr (· ≠ mm) W3 W5 := ((Fr.refl _ W3).alloc _).trans (f1.trans f2)
 have hO3 : ∀ b, W1.heap.size ≤ b → L1.own b = 0 ∨ b < W3.heap.size := fun b hb => by
  by_cases q : b < W3.heap.size
  · exact .inr q
  · exact .inl (X3.out.hi b (by omega))
 have HMO : Hid (L1.own mm = 0) := X3.out.hi mm (by omega)
 have X5 : Hid (TAt W5 t2 L1 { Tb0 n with ord := T.ord, lev := T.lev }) := X3.out.besideM f35 HMO.out
 have F5 : Hid (FrT L1 L1 W1 W5) := F3.out.trans ⟨f35.os, f35.tape, f35.output, f35.size, fun b hb _ => f35.block b hb (by omega), fun _ _ => rfl⟩
 have M5 : Hid (MapIs 32 W5 mm (mlV (thL (fun y => y) (([] : List Nat))))) := M3
 have HMS : Hid (mm < W5.heap.size) := M3.lt
 clear M1 M2 M3 f1 f2 f35 z1 z2 hO3 s1 s2 hmm X3 F3
 have HW1 : Hid (w.heap.size ≤ W1.heap.size) := F1.out.size
 have G5 : Hid (Fr (fun _ => True) w W5) := ⟨F5.out.os.trans F1.out.os, F5.out.tape.trans F1.out.tape, F5.out.output.trans F1.out.output, Nat.le_trans F1.out.size F5.out.size, fun b hb _ => (F5.out.block b (Nat.lt_of_lt_of_le hb F1.out.size) (O1.out b hb)).trans (F1.out.block b hb trivial)⟩
 have HD : Hid (Calls _ _ _ _ _) := diagram_any (HX0.out.grew G5.out) HB.out.mid fs (fun f hf => (HGV.out f hf).live) (by rw [HAN.out]; exact hfl) p c (FRV.out HV.out G5.out)
 rw [HAN.out] at HD
 go_wp2_with fail
 clear m1 p1 p2
 refine HD.out.mono ?_
 rintro e W6 ⟨sl, ls, rfl, hO, hD, hF⟩
 obtain ⟨kl, hkl⟩ : ∃ kl, ls.length = kl := ⟨_, rfl⟩
 obtain ⟨la2, lc2, hls, hlw, hlz⟩ : ∃ la lc, sl = .slice la kl lc ∧ IntsV W6 la (nodesI ls) ∧ ∀ q : Addr, la = some q → L1.own q.block = 0 ∧ q.block ≠ mm := by
  rcases hO.2 with ⟨e, hn⟩ | ⟨g', cap', cur, e, hge, hb, _⟩
  · refine ⟨none, 0, by rw [e, ← hkl, hn], ⟨fun i x hx => ?_⟩, fun q hq => by cases hq⟩
    have hi := lt_of_at hx
    unfold nodesI at hi
    rw [List.length_map] at hi
    omega
  · refine ⟨some ⟨g', 0, none⟩, cap', by rw [e, hkl], ⟨fun i x hx => ⟨_, rfl, ?_⟩⟩, fun q hq => by cases hq; exact ⟨X5.out.hi _ hge, by have := HMS.out; show g' ≠ mm; omega⟩⟩
    unfold nodesI at hx
    rw [List.getElem?_map] at hx
    cases hq : ls[i]? with
    | none => rw [hq] at hx; cases hx
    | some y =>
      rw [hq] at hx
      obtain rfl : (y : Int) = x := Option.some.inj hx
      rw [e] at hO
      have := hO.cellAt i (by rw [Nat.mul_one]; exact lt_of_at hq)
      rw [i64C_at hq] at this
      unfold Addr.add
      by_cases hi0 : i = 0
      · subst hi0; simpa using this
      · simpa [hi0] using this
 subst hls
 have X6 : Hid (TAt W6 t2 L1 { Tb0 n with ord := T.ord, lev := T.lev }) := X5.out.grew hF
 have F6 : Hid (FrT L1 L1 W1 W6) := F5.out.trans (FrT.of hF fun _ _ _ => trivial)
 have M6 : Hid (MapIs 32 W6 mm (mlV (thL (fun y => y) (([] : List Nat))))) := M5.out.of (hF.block mm HMS.out trivial)
 have HMS6 : Hid (mm < W6.heap.size) := M6.out.lt
 have D1 : Hid (DiaP T fs ls) := hD
 have KL : Hid (ls.length = kl) := hkl
 have LV6 : Hid (IntsV W6 la2 (nodesI ls)) := hlw
 have LZ : Hid (∀ q : Addr, la2 = some q → L1.own q.block = 0 ∧ q.block ≠ mm) := hlz
 have FRM : Hid (∀ {W W' : World} {q : Option Addr} {l : List Nat} {La Lb : Ly}, IntsV W q (nodesI l) → (∀ a : Addr, q = some a → La.own a.block = 0 ∧ a.block ≠ mm) → FrM mm La Lb W W' → IntsV W' q (nodesI l)) := fun {W W' q l La Lb} hh hz f => ⟨fun i x hx => by
  obtain ⟨a, e, hc⟩ := hh.cell i x hx
  obtain ⟨z1, z2⟩ := hz a e
  exact ⟨a, e, (World.cell?_of_block (w := W) (f.block _ (World.block_lt_of_cell? W _ hc) (by rw [add_blk]; exact z1) (by rw [add_blk]; exact z2))).trans hc⟩⟩
 have A6 : Hid (AlnI n lv M T ls 0 (fun y => y) { Tb0 n with ord := T.ord, lev := T.lev }) := AlnI.zero HB.out ls
 have hkll : kl + 2 ≤ T.rows.length := by
  have := nodup_len (T.rows.length) (0 :: 1 :: ls) (by
   refine List.nodup_cons.2 ⟨?_, List.nodup_cons.2 ⟨?_, D1.out.nd⟩⟩
   · intro q
     rcases List.mem_cons.1 q with q | q
     · cases q
     · have := (D1.out.new 0 q).1; omega
   · intro q; have := (D1.out.new 1 q).1; omega) fun x hx => by
   have h2 := HB.out.mid.t.inv.two
   rcases List.mem_cons.1 hx with rfl | hx
   · omega
   · rcases List.mem_cons.1 hx with rfl | hx
     · omega
     · exact (D1.out.new x hx).2.1.lt
  simp only [List.length_cons] at this
  omega
 have hMr := HB.out.mid.rl
 clear hO hD hF hkl hlw hlz HD X5 F5 M5 G5
 go_wp2_with fail
 go_loopg [42] (kl) (fun k s42 wr => ∃ (j : Nat) (th : Nat → Nat) (Lj : Ly) (To : Tb), s42 = .int .i64 (j : Int) ∧ j + k = kl ∧ Hid (TAt wr t2 Lj To) ∧ Hid (FrM mm L1 Lj W6 wr) ∧ Hid (MapIs 32 wr mm (mlV (thL th (ls.take j)))) ∧ Hid (AlnI n lv M T ls j th To))
 case atStart => exact ⟨0, fun y => y, L1, _, rfl, by omega, X6, FrM.grew (Fr.refl _ _), M6, A6⟩
 case round =>
  clear X6 M6 A6
  obtain ⟨j, th, Lj, To, rfl, hjk, X, F, MI, A⟩ := hrel
  have FT : Hid (FrM mm L1 Lj W1 wr) := F6.out.m.trans F.out
  have GW : Hid (Fr (fun _ => True) w wr) := ⟨FT.out.os.trans F1.out.os, FT.out.tape.trans F1.out.tape, FT.out.output.trans F1.out.output, Nat.le_trans F1.out.size FT.out.size, fun b hb _ => (FT.out.block b (Nat.lt_of_lt_of_le hb F1.out.size) (O1.out b hb) (by have := HMW.out; omega)).trans (F1.out.block b hb trivial)⟩
  have hmw : mm < W6.heap.size := HMS6.out
  have HMJ : Hid (Lj.own mm = 0) := (F.out.own mm hmw).trans HMO.out
  by_cases hj : j < kl
  · obtain ⟨k, rfl⟩ : ∃ k, gk = k + 1 := ⟨gk - 1, by omega⟩
    have hil : (j : Int) < (kl : Int) := by omega
    have hi0 : (0 : Int) ≤ (j : Int) := by omega
    have hif : j < ls.length := by rw [KL.out]; exact hj
    obtain ⟨x, hx⟩ : ∃ x, ls[j]? = some x := ⟨_, List.getElem?_eq_getElem hif⟩
    have hxm := List.mem_of_getElem? hx
    obtain ⟨q, rfl, cj⟩ := (FRM.out LV6.out LZ.out F.out).cell j (x : Int) (by unfold nodesI; rw [List.getElem?_map, hx]; rfl)
    obtain ⟨hx2, hxl, _⟩ := D1.out.new x hxm
    obtain ⟨r, hr, hd⟩ := hxl
    have hclo : (r.low < 2 ∨ r.low ∈ ls.take j) ∧ (r.high < 2 ∨ r.high ∈ ls.take j) := by
     refine D1.out.clo (ls.take j) (ls.drop (j + 1)) x r ?_ hr
     have e := List.take_append_drop j ls
     rw [List.drop_eq_getElem_cons hif] at e
     have e2 : ls[j] = x := by rw [List.getElem?_eq_getElem hif] at hx; exact Option.some.inj hx
     rw [e2] at e
     exact e.symm
    obtain ⟨a1, a2, a3, l4, l5, _⟩ := HB.out.mid.t.inv.nd x r hx2 hr hd
    obtain ⟨ab, hab⟩ : ∃ ab : Nat, r.about = (ab : Int) := ⟨r.about.toNat, by omega⟩
    have hkx : (ky T x).1 = (ab : Int) := by rw [ky_at hr]; exact hab
    have hk1 : (ky T x).2.1 = r.low := by rw [ky_at hr]; rfl
    have hk2 : (ky T x).2.2 = r.high := by rw [ky_at hr]; rfl
    obtain ⟨To', x', hR⟩ := nodeR_ex To ab (th r.low) (th r.high)
    obtain ⟨P, i1, i2⟩ := A.out.nodeP HB.out.mid.t hx2 ⟨r, hr, hd⟩ (fun r' hr' => by rw [hr] at hr'; cases hr'; exact hclo) hkx (by omega) (by rw [hk1, hk2]; exact hR)
    rw [hk1] at i1
    rw [hk2] at i2
    have hAS : AlnI n lv M T ls (j + 1) (thU th x x') To' := A.out.step HB.out.mid.t D1.out.nd hx hx2 ⟨r, hr, hd⟩ (fun r' hr' => by rw [hr] at hr'; cases hr'; exact hclo) hkx (by omega) (by rw [hk1, hk2]; exact hR)
    have AS : Hid (AlnI n lv M T ls (j + 1) (thU th x x') To') := hAS
    have hxt : ∀ y ∈ ls.take j, y ≠ x := fun y hy e => by
     have hnd := D1.out.nd
     rw [← List.take_append_drop j ls] at hnd
     rw [List.getElem?_eq_getElem hif] at hx
     exact (List.nodup_append.1 hnd).2.2 y hy x (by rw [List.drop_eq_getElem_cons hif, Option.some.inj hx]; simp) e
    have HTP : Hid (thL (thU th x x') (ls.take (j + 1)) = thL th (ls.take j) ++ [(x, x')]) := thL_push hx hxt hx2
    have HTN : Hid (∀ p ∈ mlV (thL th (ls.take j)), p.1 ≠ .int .i64 (x : Int)) := fun p hp e => by
     obtain ⟨z, hz, rfl⟩ := List.mem_map.1 hp
     have e : (z.1 : Int) = (x : Int) := by simpa using e
     unfold thL at hz
     obtain ⟨y, hy, rfl⟩ := List.mem_map.1 hz
     have e : y = x := by have e : (y : Int) = (x : Int) := e; omega
     rcases List.mem_cons.1 hy with q | hy
     · omega
     · rcases List.mem_cons.1 hy with q | hy
       · omega
       · exact hxt y hy e
    have hxT := lt_of_at hr
    have hlT := l4.lt
    have hhT := l5.lt
    have sx : Sm x := by unfold Sm; omega
    have Xt := HX0.out.grew GW.out
    obtain ⟨gt, ct, GT⟩ := Xt.rowsG hr
    have b2 := Xt.b2 GT
    have c0 := GT.c0 hr
    rw [hab] at c0
    have c1 := GT.c1 hr
    have c2 := GT.c2 hr
    have hx1 : (x : Int) < (T.rows.length : Int) := by omega
    have hx0 : (0 : Int) ≤ (x : Int) := by omega
    have Xa : Hid (TAt (wr.alloc (.cells #[.int .i64 (ab : Int), .int .i64 (r.low : Int), .int .i64 (r.high : Int)] 89)) t2 Lj To) := X.out.alloc _
    have Fa : Hid (FrM mm L1 Lj W6 (wr.alloc (.cells #[.int .i64 (ab : Int), .int .i64 (r.low : Int), .int .i64 (r.high : Int)] 89))) := F.out.trans (FrM.grew ((Fr.refl (fun _ => True) wr).alloc _))
    have Ba : Hid ((wr.alloc (.cells #[.int .i64 (ab : Int), .int .i64 (r.low : Int), .int .i64 (r.high : Int)] 89)).heap[wr.heap.size]? = some (.cells #[.int .i64 (ab : Int), .int .i64 (r.low : Int), .int .i64 (r.high : Int)] 89 (0, 0))) := heap_new rfl
    have Ma : Hid (MapIs 32 (wr.alloc (.cells #[.int .i64 (ab : Int), .int .i64 (r.low : Int), .int .i64 (r.high : Int)] 89)) mm (mlV (thL th (ls.take j)))) := MI.out.of (heap_old MI.out.lt)
    have HMM := A.out.mid.rl
    have HMD := A.out.mid.rm
    have HFR := A.out.fresh
    have HIV : Hid (Inv n (rk lv To) z0 To) := A.out.mid.t.inv
    have HUS : Hid (∀ z ∈ To.rows, z.users ≤ 549755813888) := A.out.mid.users
    have HNR : Hid (NodeR To ab (th r.low) (th r.high) To' x') := hR
    have hil1 := i1.lt
    have hil2 := i2.lt
    have HC1 : Hid (r.low < 2 ∨ r.low ∈ ls.take j) := hclo.1
    have HC2 : Hid (r.high < 2 ∨ r.high ∈ ls.take j) := hclo.2
    clear GT Xt hAS hR P i1 i2 hclo hxt a3 hd l4 l5 hkx hk1 hk2 hxm X F MI A FT GW
    go_wp2_with fail
    clear b2 c0 c1 c2 cj
    generalize (wr.alloc (.cells #[.int .i64 (ab : Int), .int .i64 (r.low : Int), .int .i64 (r.high : Int)] 89)) = Wa at Xa Fa Ba Ma ⊢
    generalize wr.heap.size = ba at Ba ⊢
    have e0 := block_cell Ba.out 0
    have e1 := block_cell Ba.out 1
    have e2 := block_cell Ba.out 2
    have l1 := thL_hit Ma.out HC1.out (by unfold Sm; omega)
    have l2 := thL_hit Ma.out HC2.out (by unfold Sm; omega)
    have HC : Hid (Calls _ _ _ _ _) := nodeR_any Xa.out HIV.out HNR.out (by omega) (by omega) (by omega) hil1 hil2 HUS.out
    go_wp2_with fail
    rw [l1]
    go_wp2_with fail
    refine HC.out.mono ?_
    rintro e W7 ⟨rfl, L7, hX7, hF7⟩
    have X7 : Hid (TAt W7 t2 L7 To') := hX7
    have M7 : MapIs 32 W7 mm (mlV (thL th (ls.take j))) := Ma.out.of (hF7.block mm Ma.out.lt HMJ.out)
    have hm7 : L7.own mm = 0 := (hF7.own mm Ma.out.lt).trans HMJ.out
    obtain ⟨W8, p8, M8, f8, -⟩ := M7.put lawN Tryz.underlying102 (x := .int .i64 (x : Int)) (keyN sx.fits) HTN.out (.int .i64 (x' : Int))
    have M9 : Hid (MapIs 32 W8 mm (mlV (thL (thU th x x') (ls.take (j + 1))))) := by rw [HTP.out, mlV_push]; exact M8
    have X8 : Hid (TAt W8 t2 L7 To') := X7.out.besideM f8 hm7
    have F8 : Hid (FrM mm L1 L7 W6 W8) := (Fa.out.trans hF7.m).trans (FrM.map f8)
    clear hX7 hF7 HC e0 e1 e2 l1 l2 M7 M8 f8 X7 Xa Fa Ba Ma
    go_wp2_with fail
    go_roundg k
    case measure => omega
    case rel => exact ⟨j + 1, _, L7, To', by simp, by omega, X8, F8, M9, AS⟩
  · have hil : ¬ (j : Int) < (kl : Int) := by omega
    have hjl : j = ls.length := by rw [KL.out]; omega
    have AJ : Hid (AlnI n lv M T ls ls.length th To) := by rw [← hjl]; exact A.out
    have MJ : Hid (MapIs 32 wr mm (mlV (thL th ls))) := by
     have := MI.out
     rw [hjl, List.take_of_length_le (Nat.le_refl _)] at this
     exact this
    have X0 : Hid (TAt wr t2 Lj { To with rows := markL To.rows ((fs.take 0).map th) }) := X.out
    clear A MI X
    go_wp2_with fail
    go_loopg [71] (an) (fun k s71 wr => ∃ i : Nat, s71 = .int .i64 (i : Int) ∧ i + k = an ∧ Hid (TAt wr t2 Lj { To with rows := markL To.rows ((fs.take i).map th) }) ∧ Hid (FrM mm L1 Lj W6 wr) ∧ Hid (MapIs 32 wr mm (mlV (thL th ls))))
    case atStart => exact ⟨0, rfl, by omega, X0, F, MJ⟩
    case round =>
     clear X0 F MJ FT GW
     obtain ⟨i, rfl, hik, X, F, MI⟩ := hrel
     have FT : Hid (FrM mm L1 Lj W1 wr) := F6.out.m.trans F.out
     have GW : Hid (Fr (fun _ => True) w wr) := ⟨FT.out.os.trans F1.out.os, FT.out.tape.trans F1.out.tape, FT.out.output.trans F1.out.output, Nat.le_trans F1.out.size FT.out.size, fun b hb _ => (FT.out.block b (Nat.lt_of_lt_of_le hb F1.out.size) (O1.out b hb) (by have := HMW.out; omega)).trans (F1.out.block b hb trivial)⟩
     by_cases hi : i < an
     · obtain ⟨k, rfl⟩ : ∃ k, gk = k + 1 := ⟨gk - 1, by omega⟩
       have hjl2 : (i : Int) < (an : Int) := by omega
       have hj0 : (0 : Int) ≤ (i : Int) := by omega
       have hjf : i < fs.length := by rw [HAN.out]; exact hi
       obtain ⟨f, hf⟩ : ∃ f, fs[i]? = some f := ⟨_, List.getElem?_eq_getElem hjf⟩
       have hfm := List.mem_of_getElem? hf
       obtain ⟨r, hr, hd, _⟩ := HGV.out f hfm
       have hfls : f < 2 ∨ f ∈ ls := D1.out.has f hfm
       obtain ⟨q, rfl, cj⟩ := (FRV.out HV.out GW.out).cell i (f : Int) (by unfold nodesI; rw [List.getElem?_map, hf]; rfl)
       have XD : TAt wr.drew tb L T := (HX0.out.grew GW.out).drew
       have HK : Hid (Calls _ _ _ _ _) := known_any XD f r hr hd
       have hfl := lt_of_at hr
       have sf : Sm f := by unfold Sm; omega
       have l1 := thL_hit MI.out hfls sf
       have MD : MapIs 32 wr.drew mm (mlV (thL th ls)) := MI.out.of rfl
       have l1d : (Instr.lookup 102 (.map (some mm)) (.int .i64 (f : Int)) false).run Tryz.prog wr.drew = .ok (.int .i64 (th f : Int)) wr.drew := thL_hit MD hfls sf
       obtain ⟨lf, _⟩ := AJ.out.im f (by rw [List.take_of_length_le (Nat.le_refl _)]; exact hfls)
       have hlf := lf.lt
       have hml : (markL To.rows ((fs.take i).map th)).length = To.rows.length := markL_len _ _
       obtain ⟨z, hz⟩ : ∃ z, (markL To.rows ((fs.take i).map th))[th f]? = some z := ⟨_, List.getElem?_eq_getElem (by rw [hml]; exact hlf)⟩
       obtain ⟨g2, c2, G⟩ := X.out.rowsG (f := th f) (r := z) hz
       have b2 := X.out.b2 G
       have b2 : wr.cell? ⟨t2, 2, none⟩ = some (.slice (some ⟨g2, 0, none⟩) To.rows.length c2) := by rw [← hml]; exact b2
       have b2d : wr.drew.cell? ⟨t2, 2, none⟩ = some (.slice (some ⟨g2, 0, none⟩) To.rows.length c2) := b2
       have c4 := G.c4 (f := th f) (r := z) hz
       have c4d : wr.drew.cell? ⟨g2, th f * 5 + 4, none⟩ = some (.bool z.given) := c4
       have z4 := G.frz (th f * 5 + 4)
       have z4d : wr.drew.frozen? ⟨g2, th f * 5 + 4, none⟩ = false := z4
       have hf0 : (0 : Int) ≤ (th f : Int) := by omega
       have hf1 : (th f : Int) < (To.rows.length : Int) := by omega
       obtain ⟨q1, q2⟩ := X.out.setRow G { z with given := true } (j := 4) (v := .bool true) hz (by omega) rfl
       have hset : (markL To.rows ((fs.take i).map th)).set (th f) { z with given := true } = markL To.rows ((fs.take (i + 1)).map th) := by
        rw [List.take_add_one, hf]
        simp only [Option.toList_some, List.map_append, List.map_cons, List.map_nil]
        rw [markL_push]
        exact (modify_set (fun r : Rw => { r with given := true }) hz).symm
       have q1 : TAt (wr.setCell ⟨g2, th f * 5 + 4, none⟩ (.bool true)) t2 Lj { To with rows := (markL To.rows ((fs.take i).map th)).set (th f) { z with given := true } } := q1
       rw [hset] at q1
       have hgm : g2 ≠ mm := fun e => by have h1 := G.own; rw [e, HMJ.out] at h1; omega
       have X3 : Hid (TAt (wr.setCell ⟨g2, th f * 5 + 4, none⟩ (.bool true)).drew t2 Lj { To with rows := markL To.rows ((fs.take (i + 1)).map th) }) := q1.drew
       have F3 : Hid (FrM mm L1 Lj W6 (wr.setCell ⟨g2, th f * 5 + 4, none⟩ (.bool true)).drew) := (F.out.trans q2.m).trans (FrM.grew (Fr.refl _ _).drew)
       have M3 : Hid (MapIs 32 (wr.setCell ⟨g2, th f * 5 + 4, none⟩ (.bool true)).drew mm (mlV (thL th ls))) := MI.out.of (Below.heap_setCell wr ⟨g2, th f * 5 + 4, none⟩ _ mm (Ne.symm hgm))
       clear q1 q2 G XD X F MI FT GW hset hml hfm lf hz sf hfls MD
       go_wp2_with fail
       go_region_with (go_at_call 58; refine HK.out.mono ?_; rintro e w' ⟨rfl, hw⟩; replace hw := hw.symm; subst hw)
       all_goals
        go_wp2_with fail
        go_roundg k
        case measure => omega
        case rel => exact ⟨i + 1, by simp, by omega, X3, F3, M3⟩
     · have hjl2 : ¬ (i : Int) < (an : Int) := by omega
       have hie : fs.take i = fs := List.take_of_length_le (by rw [HAN.out]; omega)
       go_wp2_with fail
       go_ret
       have hX := X.out
       rw [hie] at hX
       refine ⟨t2, rfl, Lj, _, hX, GW.out, fun b hb => ?_, AJ.out.done HB.out.mid.t D1.out⟩
       exact (FT.out.own b (Nat.lt_of_lt_of_le hb F1.out.size)).trans (O1.out b hb)
end
end Go.Proofs.YtaakjjefnjbabaaGreat.Sx
