/- Sifting (plain). -/
import Derived.Test.YtaakjjefnjbabaaGreatQ31
set_option maxRecDepth 100000
namespace Go.Proofs.YtaakjjefnjbabaaGreat.Sx
structure OnlyF (n : Nat) (T : Tb) (Fs : List ((Nat → Bool) → Bool)) : Prop where
 has : ∀ F ∈ Fs, ∃ g, Giv T g ∧ vl n T g = F
 only : ∀ g, Giv T g → g < 2 ∨ ∃ F ∈ Fs, vl n T g = F
def SizeOf (n : Nat) (Fs : List ((Nat → Bool) → Bool)) (o : List Nat) (s : Nat) : Prop := ∀ (lv : Nat → Nat) (M : Nat) (T : Tb), Base n lv M { T with fresh := [] } → Ords n lv T → T.ord = o → OnlyF n T Fs → T.made.length = s
def siftO (sz : List Nat → Nat) (n : Nat) (o : List Nat) (v : Nat) : List Nat := atL (o.filter (· ≠ v)) v (bestP (fun p => sz (atL (o.filter (· ≠ v)) v p)) (n - 1)).2
def siftP (sz : List Nat → Nat) (n : Nat) (d o : List Nat) : List Nat := d.foldl (siftO sz n) o
theorem siftP_push (sz : List Nat → Nat) (n : Nat) (d o : List Nat) (v : Nat) : siftP sz n (d ++ [v]) o = siftO sz n (siftP sz n d o) v := by unfold siftP; rw [List.foldl_append]; rfl
theorem filter_split {l : List Nat} {v p : Nat} (hn : l.Nodup) (h : l[p]? = some v) : l.filter (· ≠ v) = l.take p ++ l.drop (p + 1) := by
 have e := atL_split h
 have hd : (l.take p ++ l.drop (p + 1)).filter (· ≠ v) = l.take p ++ l.drop (p + 1) := List.filter_eq_self.2 fun x hx => by
  have hp := lt_of_at h
  have h2 : l = l.take p ++ v :: l.drop (p + 1) := by
   have : l[p] = v := by rw [List.getElem?_eq_getElem hp] at h; exact Option.some.inj h
   rw [← this, ← List.drop_eq_getElem_cons hp, List.take_append_drop]
  rw [h2] at hn
  have hm := (List.perm_middle.nodup_iff).1 hn
  have := (List.nodup_cons.1 hm).1
  simp only [ne_eq, decide_not, Bool.not_eq_true', decide_eq_false_iff_not]
  exact fun e => this (e ▸ hx)
 have h3 : l.filter (· ≠ v) = (l.take p ++ v :: l.drop (p + 1)).filter (· ≠ v) := by
  have hp := lt_of_at h
  have h2 : l = l.take p ++ v :: l.drop (p + 1) := by
   have : l[p] = v := by rw [List.getElem?_eq_getElem hp] at h; exact Option.some.inj h
   rw [← this, ← List.drop_eq_getElem_cons hp, List.take_append_drop]
  exact congrArg (List.filter (· ≠ v)) h2
 rw [h3, List.filter_append, List.filter_cons_of_neg (by simp), ← List.filter_append]
 exact hd
section
variable {n M : Nat} {T0 T T' : Tb} {rest : List Nat} {i p : Nat} {lv : Nat → Nat} {Fs : List ((Nat → Bool) → Bool)}
theorem OnlyF.of (h : OnlyF n T0 Fs) (h1 : ∀ y, Giv T0 y → Giv T y ∧ vl n T y = vl n T0 y) (h2 : ∀ y, Giv T y → Giv T0 y) : OnlyF n T Fs := by
 refine ⟨fun F hF => ?_, fun g hg => ?_⟩
 · obtain ⟨g, a, b⟩ := h.has F hF
   obtain ⟨c, d⟩ := h1 g a
   exact ⟨g, c, d.trans b⟩
 · have h3 := h2 g hg
   rw [(h1 g h3).2]
   exact h.only g h3
structure SfI (n M : Nat) (T0 : Tb) (o : List Nat) (lv : Nat → Nat) (T : Tb) : Prop where
 base : Base n lv M { T with fresh := [] }
 fr : T.fresh.length ≤ 274877906944
 ords : Ords n lv T
 ord : T.ord = o
 giv : ∀ y, Giv T0 y → Giv T y ∧ vl n T y = vl n T0 y
 only : ∀ y, Giv T y → Giv T0 y
 fre : T0.fresh = [] → T.fresh = []
theorem SfI.mv {o : List Nat} (h : SfI n M T0 o lv T) (hp : p < n) (hi : o[p]? = some i) : MvP n M T (o.take p ++ o.drop (p + 1)) i p lv T := by
 have := MvP.start h.base h.fr h.ords hp (by rw [h.ord]; exact hi)
 rw [h.ord] at this
 exact this
theorem SfI.next {o : List Nat} {q : Nat} {lv' : Nat → Nat} (h : SfI n M T0 o lv T) (hm : MvP n M T rest i q lv' T') : SfI n M T0 (atL rest i q) lv' T' :=
 ⟨hm.base, hm.fr, hm.ords, hm.ord, fun y hy => by
   obtain ⟨a, b⟩ := h.giv y hy
   obtain ⟨c, d⟩ := hm.giv y a
   exact ⟨c, d.trans b⟩, fun y hy => h.only y (hm.only y hy), fun h0 => hm.fre (h.fre h0)⟩
theorem SfI.nodup {o : List Nat} (h : SfI n M T0 o lv T) : o.Nodup ∧ o.Perm (List.range n) := by
 have := h.ords.perm h.base.mid.t.inv.on
 rw [h.ord] at this
 exact ⟨(this.nodup_iff).2 List.nodup_range, this⟩
end
end Go.Proofs.YtaakjjefnjbabaaGreat.Sx
namespace Go.Proofs.YtaakjjefnjbabaaGreat.Sx
open Go.RowKit Go.Sort Go.Maps Go.WideMaps
structure FrD (L L' Lo Lo' : Ly) (w w' : World) : Prop where
 os : w'.os = w.os
 tape : w'.tape = w.tape
 output : w'.output = w.output
 size : w.heap.size ≤ w'.heap.size
 block : ∀ b, b < w.heap.size → L.own b = 0 → Lo.own b = 0 → w'.heap[b]? = w.heap[b]?
 own1 : ∀ b, b < w.heap.size → L'.own b = L.own b
 own2 : ∀ b, b < w.heap.size → Lo'.own b = Lo.own b
def Dis (L Lo : Ly) : Prop := ∀ b, L.own b ≠ 0 → Lo.own b = 0
section
variable {w w' : World} {tb t2 : Nat} {L L' L'' Lo Lo' : Ly} {T T' To : Tb}
theorem FrD.refl (L Lo : Ly) (w : World) : FrD L L Lo Lo w w := ⟨rfl, rfl, rfl, Nat.le_refl _, fun _ _ _ _ => rfl, fun _ _ => rfl, fun _ _ => rfl⟩
theorem FrD.one {w0 : World} {L0 Lo0 : Ly} (h : FrD L0 L Lo0 Lo w0 w) (f : FrT L L' w w') : FrD L0 L' Lo0 Lo w0 w' :=
 ⟨f.os.trans h.os, f.tape.trans h.tape, f.output.trans h.output, Nat.le_trans h.size f.size, fun b hb h1 h2 => (f.block b (Nat.lt_of_lt_of_le hb h.size) ((h.own1 b hb).trans h1)).trans (h.block b hb h1 h2), fun b hb => (f.own b (Nat.lt_of_lt_of_le hb h.size)).trans (h.own1 b hb), h.own2⟩
theorem FrD.two {w0 : World} {L0 Lo0 : Ly} (h : FrD L0 L Lo0 Lo w0 w) (f : FrT Lo Lo' w w') : FrD L0 L Lo0 Lo' w0 w' :=
 ⟨f.os.trans h.os, f.tape.trans h.tape, f.output.trans h.output, Nat.le_trans h.size f.size, fun b hb h1 h2 => (f.block b (Nat.lt_of_lt_of_le hb h.size) ((h.own2 b hb).trans h2)).trans (h.block b hb h1 h2), h.own1, fun b hb => (f.own b (Nat.lt_of_lt_of_le hb h.size)).trans (h.own2 b hb)⟩
theorem Dis.one (h : Dis L Lo) (ho : TAt w t2 Lo To) (f : FrT L L' w w') : Dis L' Lo := fun b hb => by
 by_cases q : b < w.heap.size
 · rw [f.own b q] at hb; exact h b hb
 · exact ho.hi b (by omega)
theorem Dis.symm (h : Dis L Lo) : Dis Lo L := fun b hb => Classical.byContradiction fun q => hb (h b q)
theorem TAt.beside (h : TAt w tb L T) (hd : Dis L Lo) (f : FrT Lo Lo' w w') : TAt w' tb L T := h.fr f.fr fun b _ hb => hd b hb
end
section
variable {w : World} {tb : Nat} {L : Ly} {T : Tb} {n : Nat} {lv : Nat → Nat} {M : Nat}
set_option maxHeartbeats 4000000 in
theorem Sift_any (h : TAt w tb L T) (hB : Base n lv M T) (hO : Ords n lv T) (hn : n < 20) (fs : List Nat) (hg : ∀ f ∈ fs, Giv T f) (hfl : fs.length ≤ 1048576) (p : Option Addr) (c : Nat) (hv : IntsV w p (nodesI fs)) {gs : List Nat} (hgs : ∀ y, Giv T y → y ∈ gs) (hroom : gs.length * 3 ^ n + 2 ≤ M) (hroom2 : (fs.length + 2) * 3 ^ n + 2 ≤ M) {sz : List Nat → Nat} (hsz : ∀ o, o.Perm (List.range n) → SizeOf n (fs.map (vl n T)) o (sz o)) :
 Calls Tryz.prog 19 #[.pointer (some ⟨tb, 0, none⟩), .slice p fs.length c] w fun e w' => e = .returned (.tuple #[]) ∧ ∃ (Tg : Tb) (d : List Nat) (lv' : Nat → Nat) (T' : Tb) (L' : Ly), AlnP n lv M T fs Tg ∧ d.Perm (List.range n) ∧ d.Pairwise (Rk (cntV Tg)) ∧ TAt w' tb L' T' ∧ FrT L L' w w' ∧ SfI n M T (siftP sz n d T.ord) lv' T' := by
 have hon : T.ord.length = n := hB.mid.t.inv.on
 have HA : Hid (Calls _ _ _ _ _) := alone_any h hB fs hg (by omega) p c hv
 obtain ⟨an, han⟩ : ∃ an, fs.length = an := ⟨_, rfl⟩
 have HAN : Hid (fs.length = an) := han
 rw [han] at HA hfl hroom2 ⊢
 have HB : Hid (Base n lv M T) := hB
 have HO : Hid (Ords n lv T) := hO
 have HGS : Hid (∀ y, Giv T y → y ∈ gs) := hgs
 have HSZ : Hid (∀ o, o.Perm (List.range n) → SizeOf n (fs.map (vl n T)) o (sz o)) := hsz
 have HX0 : Hid (TAt w tb L T) := h
 have mo := follows
 clear han hg hv hB h hO hgs hsz
 go_enter Tryz.func19, Tryz.ntmps19
 go_wp2_with fail
 refine HA.out.mono ?_
 rintro e W1 ⟨t2, Lo, Tg, rfl, hX1, hF1, hO1, hA1⟩
 have X1 : Hid (TAt W1 t2 Lo Tg) := hX1
 have F1 : Hid (Fr (fun _ => True) w W1) := hF1
 have O1 : Hid (∀ b, b < w.heap.size → Lo.own b = 0) := hO1
 have A1 : Hid (AlnP n lv M T fs Tg) := hA1
 have hOg : Ords n lv Tg := fun i hi => by rw [hA1.ord]; exact HO.out i hi
 have hml : Tg.made.length ≤ 274877906944 := by
  have h1 : Tg.rows.length ≤ M := hA1.base.mid.rl
  have h2 := hA1.base.mid.rm
  have h3 : (Tg.made.map Prod.snd).Nodup := by
   have I := hA1.base.mid.t.inv
   refine List.pairwise_map.2 ?_
   have hn := I.mn
   refine (List.pairwise_map.1 hn).imp_of_mem fun {a b} ha hb hab e => hab ?_
   obtain ⟨_, r, hr, _, hk⟩ := (I.made a.1 a.2).1 ha
   obtain ⟨_, q, hq, _, hk2⟩ := (I.made b.1 b.2).1 hb
   rw [e] at hr
   rw [hr] at hq
   cases hq
   rw [hk, hk2]
  have h4 := nodup_len Tg.rows.length _ h3 fun x hx => by
   obtain ⟨q, hq, rfl⟩ := List.mem_map.1 hx
   obtain ⟨_, r, hr, _⟩ := (hA1.base.mid.t.inv.made q.1 q.2).1 hq
   exact lt_of_at hr
  rw [List.length_map] at h4
  omega
 have tg : Tbl n lv z0 Tg := by
  have I := hA1.base.mid.t.inv
  exact ⟨hA1.base.mid.t.lvo, ⟨I.on, I.e0, I.e1, I.nd, I.made, I.mn, I.free, I.fn, I.us, I.dg, I.lh⟩⟩
 have HBU : Hid (Calls _ _ _ _ _) := busiest_any hX1 tg hOg hn hml
 clear hX1 hF1 hO1 hA1 hOg hml tg HA
 go_wp2_with fail
 refine HBU.out.mono ?_
 rintro e W2 ⟨da, dc, d, rfl, hdv, hda, hdp, hds, hF2⟩
 have HDV : Hid (IntsV W2 da (nodesI d)) := hdv
 have HDP : Hid (d.Perm (List.range n)) := hdp
 have HDS : Hid (d.Pairwise (Rk (cntV Tg))) := hds
 have X2 : Hid (TAt W2 t2 Lo Tg) := X1.out.grew hF2
 have Y2 : Hid (TAt W2 tb L T) := HX0.out.grew (F1.out.trans hF2)
 have F2 : Hid (Fr (fun _ => True) w W2) := F1.out.trans hF2
 have HDA : Hid (∀ q : Addr, da = some q → L.own q.block = 0 ∧ Lo.own q.block = 0) := fun q hq => by
  obtain ⟨h1, _⟩ := hda q hq
  exact ⟨HX0.out.hi _ (Nat.le_trans F1.out.size h1), X1.out.hi _ h1⟩
 have D2 : Hid (Dis L Lo) := fun b hb => by
  by_cases q : b < w.heap.size
  · exact O1.out b q
  · exact absurd (HX0.out.hi b (by omega)) hb
 have hdl : d.length = n := by rw [hdp.length_eq, List.length_range]
 have HDL : Hid (d.length = n) := hdl
 have PT : Hid (SfI n M T (siftP sz n (d.take 0) T.ord) lv T) := ⟨HB.out.unfresh, by rw [HB.out.fresh]; simp, HO.out, rfl, fun _ q => ⟨q, rfl⟩, fun _ q => q, fun q => q⟩
 have PO : Hid (SfI n M Tg (siftP sz n (d.take 0) T.ord) lv Tg) := ⟨A1.out.base, A1.out.fr, fun i hi => by rw [A1.out.ord]; exact HO.out i hi, A1.out.ord, fun _ q => ⟨q, rfl⟩, fun _ q => q, fun q => q⟩
 have ON : Hid (OnlyF n Tg (fs.map (vl n T))) := ⟨fun F hF => by
  obtain ⟨f, hf, rfl⟩ := List.mem_map.1 hF
  exact A1.out.has f hf, fun g hg => (A1.out.only g hg).imp id fun ⟨f, hf, e⟩ => ⟨_, List.mem_map.2 ⟨f, hf, rfl⟩, e⟩⟩
 clear hdv hda hdp hds hdl HBU hF2 X1 HX0 F1
 go_wp2_with fail
 go_loopg [13] (n) (fun k s13 wr => ∃ (j : Nat) (lvj lvo : Nat → Nat) (Lj Loj : Ly) (Tj To : Tb), s13 = .int .i64 (j : Int) ∧ j + k = n ∧ Hid (TAt wr tb Lj Tj) ∧ Hid (TAt wr t2 Loj To) ∧ Hid (Dis Lj Loj) ∧ Hid (FrD L Lj Lo Loj W2 wr) ∧ Hid (SfI n M T (siftP sz n (d.take j) T.ord) lvj Tj) ∧ Hid (SfI n M Tg (siftP sz n (d.take j) T.ord) lvo To))
 case atStart => exact ⟨0, lv, lv, L, Lo, T, Tg, rfl, by omega, Y2, X2, D2, FrD.refl _ _ _, PT, PO⟩
 case round =>
  clear Y2 X2 D2 PT PO
  obtain ⟨j, lvj, lvo, Lj, Loj, Tj, To, rfl, hjk, Y, X, D, F, PT, PO⟩ := hrel
  by_cases hj : j < n
  · obtain ⟨k, rfl⟩ : ∃ k, gk = k + 1 := ⟨gk - 1, by omega⟩
    have hjl : (j : Int) < (n : Int) := by omega
    have hj0 : (0 : Int) ≤ (j : Int) := by omega
    obtain ⟨i, hi⟩ : ∃ i, d[j]? = some i := ⟨_, List.getElem?_eq_getElem (by rw [HDL.out]; exact hj)⟩
    have HI : Hid (d[j]? = some i) := hi
    obtain ⟨q, rfl, cq⟩ := HDV.out.cell j (i : Int) (by unfold nodesI; rw [List.getElem?_map, hi]; rfl)
    have cj : wr.cell? (q.add j) = some (.int .i64 (i : Int)) := by
     obtain ⟨z1, z2⟩ := HDA.out q rfl
     exact (World.cell?_of_block (w := W2) (F.out.block _ (World.block_lt_of_cell? W2 _ cq) (by rw [add_blk]; exact z1) (by rw [add_blk]; exact z2))).trans cq
    obtain ⟨hnd, hpm⟩ := PT.out.nodup
    have hin : i < n := List.mem_range.1 (HDP.out.mem_iff.1 (List.mem_of_getElem? hi))
    obtain ⟨o, ho⟩ : ∃ o, siftP sz n (d.take j) T.ord = o := ⟨_, rfl⟩
    have HOE : Hid (siftP sz n (d.take j) T.ord = o) := ho
    rw [ho] at hnd hpm PT PO
    obtain ⟨pp, hpl, hpe⟩ := List.getElem_of_mem (hpm.mem_iff.2 (List.mem_range.2 hin))
    have hpo : o[pp]? = some i := by rw [List.getElem?_eq_getElem hpl, hpe]
    have hpn : pp < n := by rw [hpm.length_eq, List.length_range] at hpl; exact hpl
    have hrest := filter_split hnd hpo
    obtain ⟨rest, hr⟩ : ∃ rest, o.take pp ++ o.drop (pp + 1) = rest := ⟨_, rfl⟩
    have m1 := PO.out.mv hpn hpo
    have m2 := PT.out.mv hpn hpo
    rw [hr] at m1 m2 hrest
    have HRE : Hid (o.filter (· ≠ i) = rest) := hrest
    have hrl : rest.length + 1 = n := m1.rl
    have hpr : ∀ b, (atL rest i b).Perm (List.range n) := fun b => by
     refine (atL_perm rest i b).trans ?_
     refine List.Perm.trans ?_ hpm
     have e := atL_split hpo
     rw [hr] at e
     rw [e]
     exact (atL_perm rest i pp).symm
    obtain ⟨gg, hgl, hgm⟩ := A1.out.gs
    have HC1 : Hid (Calls _ _ _ _ _) := settle_any (sz := fun b => sz (atL rest i b)) X.out m1 (gs := gg) (fun y hy => hgm y (PO.out.only y hy)) (by
     rw [HAN.out] at hgl
     have := Nat.mul_le_mul_right (3 ^ n) hgl
     omega) (fun b lv' T' hm => HSZ.out _ (hpr b) lv' M T' hm.base hm.ords hm.ord ((ON.out.of PO.out.giv PO.out.only).of hm.giv hm.only))
    have HM2 : Hid (MvP n M Tj rest i pp lvj Tj) := m2
    have hb1 := bestP_le (fun b => sz (atL rest i b)) (n - 1)
    obtain ⟨best, hbest⟩ : ∃ best, (bestP (fun b => sz (atL rest i b)) (n - 1)).2 = best := ⟨_, rfl⟩
    rw [hbest] at HC1 hb1
    have HNX : Hid (siftP sz n (d.take (j + 1)) T.ord = atL rest i best) := by
     show _ = _
     rw [List.take_add_one, HI.out, Option.toList_some, siftP_push, HOE.out]
     unfold siftO
     rw [HRE.out, hbest]
    clear m1 m2 hr hrest hpm hnd hpl hpe hpo hpr hgl hgm ho hi cq
    go_wp2_with fail
    refine HC1.out.mono ?_
    rintro e W3 ⟨rfl, lvo2, To2, Lo2, hX3, hF3, hM3⟩
    have X3 : Hid (TAt W3 t2 Lo2 To2) := hX3
    have Y3 : Hid (TAt W3 tb Lj Tj) := Y.out.beside D.out hF3
    have D3 : Hid (Dis Lj Lo2) := (Dis.one D.out.symm Y.out hF3).symm
    have F3 : Hid (FrD L Lj Lo Lo2 W2 W3) := F.out.two hF3
    have PO3 : Hid (SfI n M Tg (atL rest i best) lvo2 To2) := PO.out.next hM3
    have HC2 : Hid (Calls _ _ _ _ _) := move_any (q := best) Y3.out HM2.out (by omega) (gs := gs) (fun y hy => HGS.out y (PT.out.only y hy)) hroom
    clear hX3 hF3 hM3 HC1 X Y D F PO
    go_wp2_with fail
    refine HC2.out.mono ?_
    rintro e W4 ⟨rfl, lvj2, Tj2, Lj2, hX4, hF4, hM4⟩
    have Y4 : Hid (TAt W4 tb Lj2 Tj2) := hX4
    have X4 : Hid (TAt W4 t2 Lo2 To2) := X3.out.beside D3.out.symm hF4
    have D4 : Hid (Dis Lj2 Lo2) := Dis.one D3.out X3.out hF4
    have F4 : Hid (FrD L Lj2 Lo Lo2 W2 W4) := F3.out.one hF4
    have PT4 : Hid (SfI n M T (atL rest i best) lvj2 Tj2) := PT.out.next hM4
    clear hX4 hF4 hM4 HC2 X3 Y3 D3 F3 PT
    go_wp2_with fail
    go_roundg k
    case measure => omega
    case rel => exact ⟨j + 1, lvj2, lvo2, Lj2, Lo2, Tj2, To2, by simp, by omega, Y4, X4, D4, F4, by rw [HNX.out]; exact PT4, by rw [HNX.out]; exact PO3⟩
  · have hjl : ¬ (j : Int) < (n : Int) := by omega
    have hje : j = n := by omega
    go_wp2_with fail
    go_end0
    refine ⟨rfl, Tg, A1.out, d, HDP.out, HDS.out, lvj, Tj, Lj, Y.out, ⟨F.out.os.trans F2.out.os, F.out.tape.trans F2.out.tape, F.out.output.trans F2.out.output, Nat.le_trans F2.out.size F.out.size, fun b hb h0 => ?_, fun b hb => F.out.own1 b (Nat.lt_of_lt_of_le hb F2.out.size)⟩, ?_⟩
    · exact (F.out.block b (Nat.lt_of_lt_of_le hb F2.out.size) h0 (O1.out b hb)).trans (F2.out.block b hb trivial)
    · have := PT.out
      rw [List.take_of_length_le (by rw [HDL.out]; omega)] at this
      exact this
end
end Go.Proofs.YtaakjjefnjbabaaGreat.Sx
namespace Go.Proofs.YtaakjjefnjbabaaGreat.Sx
open Go.RowKit Go.Sort Go.Maps Go.WideMaps
def BBlk (w : World) (g : Nat) (l : List Bool) : Prop := w.heap[g]? = some (.cells (l.map Value.bool).toArray 4 (0, 0))
def BV (w : World) (v : Value) (l : List Bool) : Prop := ∃ a cap, v = .slice a l.length cap ∧ ∀ i x, l[i]? = some x → ∃ q, a = some q ∧ w.cell? (q.add i) = some (.bool x) ∧ ∃ cs fz, w.heap[q.block]? = some (.cells cs 4 fz)
section
variable {w w' : World} {g i : Nat} {l : List Bool} {x : Bool} {v : Value}
theorem add0 (g i : Nat) : (⟨g, 0, none⟩ : Addr).add i = ⟨g, i, none⟩ := by
 unfold Addr.add
 by_cases h : i = 0
 · subst h; simp
 · simp [h]
theorem BBlk.cell (h : BBlk w g l) (hx : l[i]? = some x) : w.cell? ⟨g, i, none⟩ = some (.bool x) := by
 rw [block_cell h]; simp [hx]
theorem BBlk.frz (h : BBlk w g l) (i : Nat) : w.frozen? ⟨g, i, none⟩ = false := frozen_block h i
theorem BBlk.set (h : BBlk w g l) (i : Nat) (x : Bool) : BBlk (w.setCell ⟨g, i, none⟩ (.bool x)) g (l.set i x) := by
 have := set_block h i (.bool x)
 unfold BBlk
 rw [this]
 simp [List.map_set]
theorem BBlk.of (h : BBlk w g l) (f : w'.heap[g]? = w.heap[g]?) : BBlk w' g l := f.trans h
theorem BBlk.bv (h : BBlk w g l) (cap : Nat) : BV w (.slice (some ⟨g, 0, none⟩) l.length cap) l := ⟨_, _, rfl, fun i x hx => ⟨_, rfl, by rw [add0]; exact h.cell hx, _, _, h⟩⟩
theorem BV.old (h : BV w v l) : ∃ a cap, v = .slice a l.length cap ∧ ∀ i x, l[i]? = some x → ∃ q, a = some q ∧ w.cell? (q.add i) = some (.bool x) := by
 obtain ⟨a, cap, e, hc⟩ := h
 exact ⟨a, cap, e, fun i x hx => by obtain ⟨q, e1, h1, _⟩ := hc i x hx; exact ⟨q, e1, h1⟩⟩
theorem add_block (q : Addr) (i : Nat) : (q.add i).block = q.block := by unfold Addr.add; split <;> rfl
theorem BV.frg {P : Nat → Prop} (h : BV w v l) (f : Fr P w w') (hp : ∀ b, b < w.heap.size → (∃ cs fz, w.heap[b]? = some (.cells cs 4 fz)) → P b) : BV w' v l := by
 obtain ⟨a, cap, e, hc⟩ := h
 refine ⟨a, cap, e, fun i x hx => ?_⟩
 obtain ⟨q, e1, hq, cs, fz, ht⟩ := hc i x hx
 have hb := block_lt ht
 have hk := f.block _ hb (hp _ hb ⟨_, _, ht⟩)
 exact ⟨q, e1, (World.cell?_of_block (w := w) (by rw [add_block]; exact hk)).trans hq, cs, fz, hk.trans ht⟩
theorem BV.fr (h : BV w v l) (f : Fr (fun _ => True) w w') : BV w' v l := h.frg f fun _ _ _ => trivial
end
def New (w : World) (r : Value) : Prop := ∃ g k c, r = .slice (some ⟨g, 0, none⟩) k c ∧ w.heap.size ≤ g
theorem New.mono {w w' : World} {r : Value} (h : New w' r) (hs : w.heap.size ≤ w'.heap.size) : New w r := by
 obtain ⟨g, k, c, e, hl⟩ := h
 exact ⟨g, k, c, e, Nat.le_trans hs hl⟩
def fillL (φ : Nat → Bool) (N j : Nat) : List Bool := (List.range j).map φ ++ List.replicate (N - j) false
theorem fillL_at {φ : Nat → Bool} {N j : Nat} (h : j < N) : (fillL φ N j)[j]? = some false := by
 unfold fillL
 rw [List.getElem?_append_right (by simp), List.length_map, List.length_range, Nat.sub_self, List.getElem?_replicate, if_pos (by omega)]
theorem fillL_set {φ : Nat → Bool} {N j : Nat} (h : j < N) : (fillL φ N j).set j (φ j) = fillL φ N (j + 1) := by
 obtain ⟨k, hk⟩ : ∃ k, N - j = k + 1 := ⟨N - j - 1, by omega⟩
 have hk2 : N - (j + 1) = k := by omega
 unfold fillL
 rw [hk, hk2, List.replicate_succ, List.set_append_right _ _ (by simp), List.length_map, List.length_range, Nat.sub_self, List.set_cons_zero, List.range_succ]
 simp
theorem fillL_end (φ : Nat → Bool) (N : Nat) : fillL φ N N = (List.range N).map φ := by unfold fillL; simp
theorem fillL_zero (φ : Nat → Bool) (N : Nat) : fillL φ N 0 = List.replicate N false := by unfold fillL; simp
theorem made_bools (m : Nat) : madeCells (Value.bool false).cells (m * 1) = ((List.replicate m false).map Value.bool).toArray := by
 apply Array.ext
 · rw [size_madeCells, List.size_toArray]; simp
 · intro i h1 h2
   have hz : (Value.bool false).cells.size = 1 := rfl
   simp only [madeCells, Array.getElem_map, hz, List.getElem_toArray, Nat.mod_one]
   rw [List.getElem_map, List.getElem_replicate]
   rfl
theorem make_bools (w : World) (N : Nat) (hN : N ≤ 65536) : (Instr.makeSlice 28 (.int .i64 (N : Int)) (.int .i64 (N : Int))).run Tryz.prog w = .ok (.slice (some ⟨w.heap.size, 0, none⟩) N N) (w.alloc (.cells (Array.replicate N (.bool false)) 4)) := by
 obtain ⟨i0, hi0, hz0, hz1, hz2⟩ := infoB
 have := run_makeSlice (P := Tryz.prog) w 28 4 i0 _ Tryz.underlying28 hi0 hz0 .i64 .i64 (N : Int) (N : Int) (by omega) (by omega) (by rw [hz1]; omega) (by rw [hz2]; omega) (by omega)
 rw [hz1, show ((N : Int)).toNat = N by omega, made_bools] at this
 simpa using this
theorem BBlk.zero (w : World) (N : Nat) : BBlk (w.alloc (.cells (Array.replicate N (.bool false)) 4)) w.heap.size (List.replicate N false) := by
 unfold BBlk
 rw [heap_new rfl]
 simp
theorem pow9 {n : Nat} (h : n ≤ 9) : 2 ^ n ≤ 512 := Nat.le_trans (Nat.pow_le_pow_right (by omega) h) (by decide)
set_option maxHeartbeats 1000000 in
theorem rConst_any (w : World) (n : Nat) (hn : n ≤ 9) (v : Bool) :
 Calls Tryz.prog 16 #[.int .i64 (n : Int), .bool v] w fun e w' => ∃ r, e = .returned r ∧ (BV w' r (List.replicate (2 ^ n) v) ∧ New w r) ∧ Fr (fun _ => True) w w' := by
 have hp := wrap_pow n (by omega)
 obtain ⟨N, hN⟩ : ∃ N, 2 ^ n = N := ⟨_, rfl⟩
 have hN2 := pow9 hn
 rw [hN] at hN2
 have m1 := make_bools w N (by omega)
 have hpi : (2 : Int) ^ n = ((2 ^ n : Nat) : Int) := by rw [Int.natCast_pow]; rfl
 have HN : Hid (2 ^ n = N) := hN
 rw [hN] at hp ⊢
 have mo := follows
 go_enter Tryz.func16, Tryz.ntmps16
 go_wp2_with fail
 clear m1
 have W1 : Hid (BBlk (w.alloc (.cells (Array.replicate N (.bool false)) 4)) w.heap.size (fillL (fun _ => v) N 0)) := by rw [fillL_zero]; exact BBlk.zero w N
 have F1 : Hid (Fr (fun b => b < w.heap.size) w (w.alloc (.cells (Array.replicate N (.bool false)) 4))) := (Fr.refl _ w).alloc _
 generalize w.alloc (.cells (Array.replicate N (.bool false)) 4) = Wa at W1 F1 ⊢
 go_loopg [6] (N) (fun k s6 wr => ∃ j : Nat, s6 = .int .i64 (j : Int) ∧ j + k = N ∧ Hid (BBlk wr w.heap.size (fillL (fun _ => v) N j)) ∧ Hid (Fr (fun b => b < w.heap.size) w wr))
 case atStart => exact ⟨0, rfl, by omega, W1, F1⟩
 case round =>
  clear W1 F1
  obtain ⟨j, rfl, hjk, B, F⟩ := hrel
  by_cases hj : j < N
  · obtain ⟨k, rfl⟩ : ∃ k, gk = k + 1 := ⟨gk - 1, by omega⟩
    have hjl : (j : Int) < (N : Int) := by omega
    have hj0 : (0 : Int) ≤ (j : Int) := by omega
    have c0 := B.out.cell (fillL_at hj)
    have z0 := B.out.frz j
    have B2 : Hid (BBlk (wr.setCell ⟨w.heap.size, j, none⟩ (.bool v)) w.heap.size (fillL (fun _ => v) N (j + 1))) := by
     have := B.out.set j v
     rw [show (fillL (fun _ => v) N j).set j v = _ from fillL_set (φ := fun _ => v) hj] at this
     exact this
    have F2 : Hid (Fr (fun b => b < w.heap.size) w (wr.setCell ⟨w.heap.size, j, none⟩ (.bool v))) := F.out.set (by simp) _
    clear B F
    go_wp2_with fail
    go_roundg k
    case measure => omega
    case rel => exact ⟨j + 1, by simp, by omega, B2, F2⟩
  · have hjl : ¬ (j : Int) < (N : Int) := by omega
    obtain rfl : j = N := by omega
    go_wp2_with fail
    go_ret
    have h1 := B.out.bv j
    rw [fillL_end, List.length_map, List.length_range] at h1
    refine ⟨_, rfl, ⟨?_, _, _, _, rfl, Nat.le_refl _⟩, ⟨F.out.os, F.out.tape, F.out.output, F.out.size, fun b hb _ => F.out.block b hb hb⟩⟩
    have e : (List.range j).map (fun _ => v) = List.replicate j v := by
     refine List.ext_getElem (by simp) fun i h1 h2 => by simp
    rw [e] at h1
    exact h1
end Go.Proofs.YtaakjjefnjbabaaGreat.Sx
