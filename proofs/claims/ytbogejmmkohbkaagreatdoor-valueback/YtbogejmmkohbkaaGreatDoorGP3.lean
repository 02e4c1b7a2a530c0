/- What stands in brackets. -/
import Derived.Test.YtbogejmmkohbkaaGreatDoorGP2
namespace Go.Proofs.YtbogejmmkohbkaaGreatDoor.Sx
open Go.RowKit Go.Sort

set_option maxRecDepth 100000 in
theorem isNil_any (n : Nat) (w : World) (x : AV (n + 1)) (v : Value) (h : Rep w (n + 1) x v) : Calls Tryz.prog 176 #[.agg #[v]] w fun e w' => e = .returned (.bool (heavyP (α := AV n) x)) ∧ Grew w w' := by
  have st := store_one h.one
  obtain ⟨q, hq⟩ : ∃ q, heavyP (α := AV n) x = q := ⟨_, rfl⟩
  rw [hq]
  have hv : (v = .nilIface ∧ q = true) ∨ (∃ T u, v = .iface T u ∧ q = false) := by
    rw [← hq]
    rcases h with ⟨rfl, rfl⟩ | ⟨b, rfl, rfl⟩ | ⟨i, rfl, rfl⟩ | ⟨b, rfl, rfl⟩ | ⟨b, rfl, rfl⟩ | ⟨es, b, rfl, rfl, _⟩ | ⟨ks, us, b, d, rfl, rfl, _⟩
    · exact .inl ⟨rfl, rfl⟩
    all_goals exact .inr ⟨_, _, rfl, rfl⟩
  clear h hq
  rcases hv with ⟨rfl, rfl⟩ | ⟨T, u, rfl, rfl⟩
  · go_enter Tryz.func176, Tryz.ntmps176
    go_wp2_with fail
    go_ret
    exact ⟨rfl, (Grew.refl w).alloc _⟩
  · go_enter Tryz.func176, Tryz.ntmps176
    go_wp2_with fail
    go_ret
    exact ⟨rfl, (Grew.refl w).alloc _⟩

theorem RdS.setOpen {w : World} {br : Nat} {t : ByteArray} {s : St} {op : Nat} (h : RdS w br t s op) (o : Nat) : RdS (w.setCell ⟨br, 4, none⟩ (.int .i64 (o : Int))) br t s o := by
  have := set_block h 4 (.int .i64 (o : Int))
  simpa [RdS, RdAt] using this
theorem RdS.setHeavy {w : World} {br : Nat} {t : ByteArray} {s : St} {op : Nat} (h : RdS w br t s op) (b : Bool) : RdS (w.setCell ⟨br, 5, none⟩ (.bool b)) br t { s with hv := b } op := by
  have := set_block h 5 (.bool b)
  simpa [RdS, RdAt] using this

def heavyK {n : Nat} (R : Except (Nat × Nat) (AV (n + 1) × St)) : Except (Nat × Nat) (AV (n + 1) × St) :=
  match R with
  | .ok (x, s1) => .ok (x, { s1 with hv := s1.hv || heavyP (α := AV n) x })
  | .error e => .error e

def FunOK (d : Nat) : Prop := ∀ (w : World) (br : Nat) (t : ByteArray) (s : St), Env w br → RdS w br t s (24 - d) → s.at' ≤ s.en → TokOK s → s.en ≤ t.size → 1 ≤ s.en → t.size ≤ 4000 →
  Calls Tryz.prog 175 #[.pointer (some ⟨br, 0, none⟩)] w (Post w br t (24 - d) (d + 1) (closeP (fun l => (mkP (wt (d + 1)) (normP (cmpV (d + 1)) l) : Node (AV (d + 1)))) (listP t.data.toList [93] (pairP t.data.toList (valueP t.data.toList d)) (t.data.toList.length + 1) s)))

/-- how a value's reading ends -/
def VTail (d : Nat) (R : Except (Nat × Nat) (AV (d + 1) × St)) (er : Value) (x : AV (d + 1)) (s' : St) : Prop :=
  (R = .ok (x, s') ∧ er = .nilIface) ∨ (∃ c, R = .error (c, s'.at') ∧ er = .iface 61 (.int .i64 (c : Int)))
theorem Post.split {d : Nat} {w w' : World} {br : Nat} {t : ByteArray} {op : Nat} {R : Except (Nat × Nat) (AV (d + 1) × St)} {e : Ending} (h : Post w br t op d R e w') :
    ∃ v er x s', e = .returned (.tuple #[.agg #[v], er]) ∧ Fr (· ≠ br) w w' ∧ RepP (fun k => w.heap.size ≤ k) w' (d + 1) x v ∧ wt (d + 1) x ≤ 1024 ∧ RdS w' br t s' op ∧ VTail d R er x s' := by
  obtain ⟨v, er, he, hf, hm⟩ := h
  cases R with
  | ok q => obtain ⟨x, s'⟩ := q; exact ⟨v, er, x, s', he, hf, hm.2.1, hm.2.2.1, hm.2.2.2, .inl ⟨rfl, hm.1⟩⟩
  | error q => obtain ⟨c, p⟩ := q; obtain ⟨h1, ⟨x, h2, h3⟩, s', rfl, h5⟩ := hm; exact ⟨v, er, x, s', he, hf, h2, h3, h5, .inr ⟨c, rfl, h1⟩⟩

def OpenOK (d k : Nat) (f : ByteArray → St → Except (Nat × Nat) (AV (d + 2) × St)) : Prop := ∀ (w : World) (br : Nat) (t : ByteArray) (s : St), Env w br → RdS w br t s (24 - d) → s.at' ≤ s.en → TokOK s → s.en ≤ t.size → 1 ≤ s.en → t.size ≤ 4000 →
  Calls Tryz.prog k #[.pointer (some ⟨br, 0, none⟩)] w (Post w br t (24 - d) (d + 1) (f t s))

theorem bracket_post {d : Nat} {w W : World} {br : Nat} {t : ByteArray} {o : Nat} {R : Except (Nat × Nat) (AV (d + 1) × St)} {er v : Value} {x : AV (d + 1)} {s' : St} {h : Bool} (hbr : br < w.heap.size) (hf : Fr (· ≠ br) w W)
    (hx : RepP (fun k => w.heap.size ≤ k ∧ k ≠ w.heap.size) W (d + 1) x v) (hw : wt (d + 1) x ≤ 1024) (hT : VTail d R er x s') (hr : RdS W br t { s' with hv := h } o) (hh : (s'.hv || heavyP (α := AV d) x) = h) (u : Value) :
    Post w br t o d (heavyK R) (.returned (.tuple #[.agg #[v], er])) (W.setCell ⟨w.heap.size, 0, none⟩ u) := by
  have hrd := RdS.setOther hr (p := ⟨w.heap.size, 0, none⟩) (by simp; omega) u
  refine ⟨v, er, rfl, hf.setNew (Nat.le_refl _) u, ?_⟩
  rcases hT with ⟨rfl, rfl⟩ | ⟨c, rfl, rfl⟩
  · subst hh
    exact ⟨rfl, hx.boxed (w := w) u rfl, hw, hrd⟩
  · exact ⟨rfl, ⟨x, hx.boxed (w := w) u rfl, hw⟩, { s' with hv := h }, rfl, hrd⟩
end Go.Proofs.YtbogejmmkohbkaaGreatDoor.Sx

namespace Go.Proofs.YtbogejmmkohbkaaGreatDoor.Sx
open Go.RowKit Go.Sort

set_option maxRecDepth 100000 in
set_option maxHeartbeats 2000000 in
theorem bracket_set (d : Nat) (hd : d ≤ 23) (f : ByteArray → St → Except (Nat × Nat) (AV (d + 2) × St)) (V : OpenOK d 173 f) (w : World) (br : Nat) (t m : ByteArray) (s : St) (hE : Env w br) (hr : RdS w br t s (24 - (d + 1))) (hen : s.en ≤ t.size) (hen1 : 1 ≤ s.en) (ht : t.size ≤ 4000) (hm : m.data.toList = [123]) :
    Calls Tryz.prog 122 #[.pointer (some ⟨br, 0, none⟩), .string m] w (Post w br t (24 - (d + 1)) (d + 1) (heavyK (f t (advP t.data.toList s)))) := by
  have hbr := block_lt hr
  have hl : t.data.toList.length = t.size := by simp
  obtain ⟨o, ho⟩ : ∃ o, o = 24 - (d + 1) := ⟨_, rfl⟩
  have ho' : 24 - d = o + 1 := by omega
  have ho24 : o ≤ 23 := by omega
  rw [← ho] at hr ⊢
  have hmT : m.toList = m.data.toList := ByteArray.toList_eq m
  have h1 : (m.toList == [123]) = true := by rw [hmT, hm]; rfl
  have fa := fwd_adv t.data.toList s (by omega)
  have HV : Hid (∀ W : World, Env W br → RdS W br t (advP t.data.toList s) (o + 1) → Calls Tryz.prog 173 #[.pointer (some ⟨br, 0, none⟩)] W (Post W br t (o + 1) (d + 1) (f t (advP t.data.toList s)))) := by
    intro W e r
    rw [← ho'] at r ⊢
    exact V W br t _ e r (by have := fa.1; omega) (tok_adv _ _) (by have := fa.2.1; omega) (by have := fa.2.2; have := fa.1; omega) ht
  have HA : Hid (∀ W : World, RdS W br t s (o + 1) → _) := fun (W : World) (h : RdS W br t s (o + 1)) => advance_st W br t s (o + 1) h hen ht
  generalize f t (advP t.data.toList s) = R at HV ⊢
  generalize advP t.data.toList s = s1 at HV HA
  have x4 := block_cell hr 4
  have z4 := frozen_block hr 4
  have HR1 : RdS (w.setCell ⟨br, 4, none⟩ (.int .i64 ((o : Int) + 1))) br t s (o + 1) := hr.setOpen (o + 1)
  have HR2 : Hid (RdS ((w.setCell ⟨br, 4, none⟩ (.int .i64 ((o : Int) + 1))).alloc (.cells #[.nilIface] 23)) br t s (o + 1)) := HR1.of (P := fun _ => True) (Fr.grew ((Grew.refl _).alloc _)) trivial
  have F1 : Fr (· ≠ br) w ((w.setCell ⟨br, 4, none⟩ (.int .i64 ((o : Int) + 1))).alloc (.cells #[.nilIface] 23)) := ((Fr.refl _ w).set (by simp) _).alloc _
  have HE1 : Hid (Env ((w.setCell ⟨br, 4, none⟩ (.int .i64 ((o : Int) + 1))).alloc (.cells #[.nilIface] 23)) br) := hE.fr F1
  have HF1 : Hid (Fr (· ≠ br) w ((w.setCell ⟨br, 4, none⟩ (.int .i64 ((o : Int) + 1))).alloc (.cells #[.nilIface] 23))) := F1
  have H1 : Hid (((w.setCell ⟨br, 4, none⟩ (.int .i64 ((o : Int) + 1))).alloc (.cells #[.nilIface] 23)).heap[w.heap.size]? = some (.cells #[.nilIface] 23 (0, 0))) := heap_new (by simp)
  have hne : ((o : Int) == 24) = false := by simp; omega
  clear hr hE fa hm hmT V HR1 ho ho' hd F1
  go_enter Tryz.func122, Tryz.ntmps122
  go_wp2_with fail
  generalize (w.setCell ⟨br, 4, none⟩ (.int .i64 ((o : Int) + 1))).alloc (.cells #[.nilIface] 23) = W1 at HR2 HE1 HF1 H1 ⊢
  clear x4 z4
  refine (HA.out W1 HR2.out).mono ?_
  rintro e w3 ⟨rfl, hr3, hf3⟩
  have E3 : Hid (Env w3 br) := HE1.out.fr hf3
  have R3 : Hid (RdS w3 br t s1 (o + 1)) := hr3
  have F3 : Hid (Fr (· ≠ br) w w3) := HF1.out.trans hf3
  have H3 : Hid (w3.heap[w.heap.size]? = some (.cells #[.nilIface] 23 (0, 0))) := (hf3.block _ (block_lt H1.out) (by omega)).trans H1.out
  have hs3 : w.heap.size < w3.heap.size := block_lt H3.out
  clear HE1 HR2 hr3 HF1 hf3 H1 HA
  go_wp2_with fail
  refine (HV.out w3 E3.out R3.out).mono ?_
  intro e w4 hp
  obtain ⟨v, er, x, s', rfl, hf4, hx, hwx, hr4, htl⟩ := hp.split
  have st := store_one (hx.rep _ _ _).one
  obtain ⟨g, hg⟩ : ∃ g, heavyP (α := AV (d + 1)) x = g := ⟨_, rfl⟩
  have H4 : w4.heap[w.heap.size]? = some (.cells #[.nilIface] 23 (0, 0)) := (hf4.block _ hs3 (by omega)).trans H3.out
  have hs4 : w3.heap.size ≤ w4.heap.size := hf4.size
  have hbr4 : br < w4.heap.size := block_lt hr4
  have x4 := block_cell hr4 4
  have z4 := frozen_block hr4 4
  have x5 := block_cell hr4 5
  have z5 := frozen_block hr4 5
  have y0 := block_cell H4 0
  have y1 := frozen_block H4 0
  have R4 : Hid (RdS w4 br t s' (o + 1)) := hr4
  have X4 : Hid (RepP (fun k => w3.heap.size ≤ k) w4 (d + 2) x v) := hx
  have F4 : Hid (Fr (· ≠ br) w w4) := F3.out.trans hf4
  have T4 : Hid (VTail (d + 1) R er x s') := htl
  clear hp hf4 hx hr4 htl H3 R3 E3 F3 HV
  obtain ⟨hv, hhv⟩ : ∃ b, s'.hv = b := ⟨_, rfl⟩
  rw [hhv] at x5
  have HHV : Hid (s'.hv = hv) := hhv
  have HG : Hid (heavyP (α := AV (d + 1)) x = g) := hg
  clear hhv hg
  cases hv with
  | true =>
    have fA : Fr (· ≠ br) w4 ((w4.setCell ⟨br, 4, none⟩ (.int .i64 (o : Int))).setCell ⟨br, 5, none⟩ (.bool true)) := ((Fr.refl _ w4).set (by simp) _).set (by simp) _
    have kA := (fA.block _ (block_lt H4) (by omega)).trans H4
    have a0 := block_cell kA 0
    have a1 := frozen_block kA 0
    have fB := fA.alloc (.cells #[v] 23)
    have kB := (fB.block _ (block_lt H4) (by omega)).trans H4
    have b0 := block_cell kB 0
    have b1 := frozen_block kB 0
    have RB : Hid (RdS ((((w4.setCell ⟨br, 4, none⟩ (.int .i64 (o : Int))).setCell ⟨br, 5, none⟩ (.bool true))).alloc (.cells #[v] 23)) br t { s' with hv := true } o) := RdAt.of ((R4.out.setOpen o).setHeavy true) (P := fun _ => True) (Fr.grew ((Grew.refl _).alloc _)) trivial
    have FB : Hid (Fr (· ≠ br) w4 _) := fB
    clear fA kA kB fB H4
    have XB : Hid (RepP (fun k => w.heap.size ≤ k ∧ k ≠ w.heap.size) ((((w4.setCell ⟨br, 4, none⟩ (.int .i64 (o : Int))).setCell ⟨br, 5, none⟩ (.bool true))).alloc (.cells #[v] 23)) (d + 2) x v) := X4.out.fr (FB.out.mono fun k hk => by omega) (fun k _ hk => ⟨by omega, by omega⟩) _ _ _
    go_wp2_with fail
    have r0 := World.cell?_setCell_same _ _ v b0
    refine bodyPost_ret (v := .tuple #[.agg #[v], er]) (by simp [results, Tryz.results122, go_sem, r0]) rfl ?_
    exact bracket_post hbr (F4.out.trans FB.out) XB.out hwx T4.out RB.out (by rw [HHV.out]; rfl) v
  | false =>
    have fA : Fr (· ≠ br) w4 ((w4.setCell ⟨br, 4, none⟩ (.int .i64 (o : Int))).alloc (.cells #[v] 23)) := ((Fr.refl _ w4).set (by simp) _).alloc _
    have kA := (fA.block _ (block_lt H4) (by omega)).trans H4
    have KA : Hid (((w4.setCell ⟨br, 4, none⟩ (.int .i64 (o : Int))).alloc (.cells #[v] 23)).heap[w.heap.size]? = some (.cells #[.nilIface] 23 (0, 0))) := kA
    have KB : Hid (((w4.setCell ⟨br, 4, none⟩ (.int .i64 (o : Int))).alloc (.cells #[v] 23)).heap[w4.heap.size]? = some (.cells #[v] 23 (0, 0))) := heap_new (by simp)
    have RA : Hid (RdS ((w4.setCell ⟨br, 4, none⟩ (.int .i64 (o : Int))).alloc (.cells #[v] 23)) br t s' o) := RdAt.of (R4.out.setOpen o) (P := fun _ => True) (Fr.grew ((Grew.refl _).alloc _)) trivial
    have xA : RepP (fun k => w3.heap.size ≤ k) ((w4.setCell ⟨br, 4, none⟩ (.int .i64 (o : Int))).alloc (.cells #[v] 23)) (d + 2) x v := X4.out.fr (fA.mono fun k hk => by omega) (fun k _ hk => hk) _ _ _
    have HN : Hid (Calls Tryz.prog 176 #[.agg #[v]] ((w4.setCell ⟨br, 4, none⟩ (.int .i64 (o : Int))).alloc (.cells #[v] 23)) _) := isNil_any (d + 1) _ x v (xA.rep _ _ _)
    have XA : Hid (RepP (fun k => w3.heap.size ≤ k) ((w4.setCell ⟨br, 4, none⟩ (.int .i64 (o : Int))).alloc (.cells #[v] 23)) (d + 2) x v) := xA
    have FA : Hid (Fr (· ≠ br) w ((w4.setCell ⟨br, 4, none⟩ (.int .i64 (o : Int))).alloc (.cells #[v] 23))) := F4.out.trans fA
    rw [HG.out] at HN
    clear fA kA H4 xA X4 F4 R4
    go_wp2_with fail
    generalize (w4.setCell ⟨br, 4, none⟩ (.int .i64 (o : Int))).alloc (.cells #[v] 23) = W6 at KA KB RA HN XA FA ⊢
    refine HN.out.mono ?_
    rintro e w7 ⟨rfl, hg7⟩
    have f7 : Fr (· ≠ br) W6 w7 := Fr.grew hg7
    have r7 : RdS w7 br t s' o := RA.out.of (P := fun _ => True) (Fr.grew hg7) trivial
    have k7 := Below.blockAt hg7.below KA.out
    have j7 := Below.blockAt hg7.below KB.out
    have a0 := block_cell k7 0
    have a1 := frozen_block k7 0
    have b0 := block_cell j7 0
    have b5 := frozen_block r7 5
    have c5 := block_cell r7 5
    have n0 : w.heap.size ≠ br := by omega
    have n1 : w4.heap.size ≠ br := by omega
    have F7 : Hid (Fr (· ≠ br) w (w7.setCell ⟨br, 5, none⟩ (.bool g))) := (FA.out.trans f7).set (by simp) _
    have X7 : Hid (RepP (fun k => w.heap.size ≤ k ∧ k ≠ w.heap.size) (w7.setCell ⟨br, 5, none⟩ (.bool g)) (d + 2) x v) := XA.out.fr ((Fr.set f7 (by simp) _).mono fun k hk => by omega) (fun k _ hk => ⟨by omega, by omega⟩) _ _ _
    have R7 : Hid (RdS (w7.setCell ⟨br, 5, none⟩ (.bool g)) br t { s' with hv := g } o) := r7.setHeavy g
    have f8 : Fr (· ≠ br) w7 (w7.setCell ⟨br, 5, none⟩ (.bool g)) := (Fr.refl _ w7).set (by simp) _
    have k8 := (f8.block _ (block_lt k7) n0).trans k7
    have d0 := block_cell k8 0
    have d1 := frozen_block k8 0
    have j8 := (f8.block _ (block_lt j7) n1).trans j7
    have e0 := block_cell j8 0
    clear k7 j7 r7 f7 hg7 KA KB RA HN XA FA x4 z4 x5 z5 y0 y1 f8 k8 j8
    go_wp2_with fail
    have r0 := World.cell?_setCell_same _ _ v d0
    refine bodyPost_ret (v := .tuple #[.agg #[v], er]) (by simp [results, Tryz.results122, go_sem, r0]) rfl ?_
    exact bracket_post hbr F7.out X7.out hwx T4.out R7.out (by rw [HHV.out, HG.out]; rfl) v
end Go.Proofs.YtbogejmmkohbkaaGreatDoor.Sx

namespace Go.Proofs.YtbogejmmkohbkaaGreatDoor.Sx
open Go.RowKit Go.Sort

set_option maxRecDepth 100000 in
set_option maxHeartbeats 2000000 in
theorem bracket_sequence (d : Nat) (hd : d ≤ 23) (f : ByteArray → St → Except (Nat × Nat) (AV (d + 2) × St)) (V : OpenOK d 174 f) (w : World) (br : Nat) (t m : ByteArray) (s : St) (hE : Env w br) (hr : RdS w br t s (24 - (d + 1))) (hen : s.en ≤ t.size) (hen1 : 1 ≤ s.en) (ht : t.size ≤ 4000) (hm : m.data.toList = [60, 60]) :
    Calls Tryz.prog 122 #[.pointer (some ⟨br, 0, none⟩), .string m] w (Post w br t (24 - (d + 1)) (d + 1) (heavyK (f t (advP t.data.toList s)))) := by
  have hbr := block_lt hr
  have hl : t.data.toList.length = t.size := by simp
  obtain ⟨o, ho⟩ : ∃ o, o = 24 - (d + 1) := ⟨_, rfl⟩
  have ho' : 24 - d = o + 1 := by omega
  have ho24 : o ≤ 23 := by omega
  rw [← ho] at hr ⊢
  have hmT : m.toList = m.data.toList := ByteArray.toList_eq m
  have h1 : (m.toList == [123]) = false := by rw [hmT, hm]; rfl
  have h2 : (m.toList == [60, 60]) = true := by rw [hmT, hm]; rfl
  have fa := fwd_adv t.data.toList s (by omega)
  have HV : Hid (∀ W : World, Env W br → RdS W br t (advP t.data.toList s) (o + 1) → Calls Tryz.prog 174 #[.pointer (some ⟨br, 0, none⟩)] W (Post W br t (o + 1) (d + 1) (f t (advP t.data.toList s)))) := by
    intro W e r
    rw [← ho'] at r ⊢
    exact V W br t _ e r (by have := fa.1; omega) (tok_adv _ _) (by have := fa.2.1; omega) (by have := fa.2.2; have := fa.1; omega) ht
  have HA : Hid (∀ W : World, RdS W br t s (o + 1) → _) := fun (W : World) (h : RdS W br t s (o + 1)) => advance_st W br t s (o + 1) h hen ht
  generalize f t (advP t.data.toList s) = R at HV ⊢
  generalize advP t.data.toList s = s1 at HV HA
  have x4 := block_cell hr 4
  have z4 := frozen_block hr 4
  have HR1 : RdS (w.setCell ⟨br, 4, none⟩ (.int .i64 ((o : Int) + 1))) br t s (o + 1) := hr.setOpen (o + 1)
  have HR2 : Hid (RdS ((w.setCell ⟨br, 4, none⟩ (.int .i64 ((o : Int) + 1))).alloc (.cells #[.nilIface] 23)) br t s (o + 1)) := HR1.of (P := fun _ => True) (Fr.grew ((Grew.refl _).alloc _)) trivial
  have F1 : Fr (· ≠ br) w ((w.setCell ⟨br, 4, none⟩ (.int .i64 ((o : Int) + 1))).alloc (.cells #[.nilIface] 23)) := ((Fr.refl _ w).set (by simp) _).alloc _
  have HE1 : Hid (Env ((w.setCell ⟨br, 4, none⟩ (.int .i64 ((o : Int) + 1))).alloc (.cells #[.nilIface] 23)) br) := hE.fr F1
  have HF1 : Hid (Fr (· ≠ br) w ((w.setCell ⟨br, 4, none⟩ (.int .i64 ((o : Int) + 1))).alloc (.cells #[.nilIface] 23))) := F1
  have H1 : Hid (((w.setCell ⟨br, 4, none⟩ (.int .i64 ((o : Int) + 1))).alloc (.cells #[.nilIface] 23)).heap[w.heap.size]? = some (.cells #[.nilIface] 23 (0, 0))) := heap_new (by simp)
  have hne : ((o : Int) == 24) = false := by simp; omega
  clear hr hE fa hm hmT V HR1 ho ho' hd F1
  go_enter Tryz.func122, Tryz.ntmps122
  go_wp2_with fail
  generalize (w.setCell ⟨br, 4, none⟩ (.int .i64 ((o : Int) + 1))).alloc (.cells #[.nilIface] 23) = W1 at HR2 HE1 HF1 H1 ⊢
  clear x4 z4
  refine (HA.out W1 HR2.out).mono ?_
  rintro e w3 ⟨rfl, hr3, hf3⟩
  have E3 : Hid (Env w3 br) := HE1.out.fr hf3
  have R3 : Hid (RdS w3 br t s1 (o + 1)) := hr3
  have F3 : Hid (Fr (· ≠ br) w w3) := HF1.out.trans hf3
  have H3 : Hid (w3.heap[w.heap.size]? = some (.cells #[.nilIface] 23 (0, 0))) := (hf3.block _ (block_lt H1.out) (by omega)).trans H1.out
  have hs3 : w.heap.size < w3.heap.size := block_lt H3.out
  clear HE1 HR2 hr3 HF1 hf3 H1 HA
  go_wp2_with fail
  refine (HV.out w3 E3.out R3.out).mono ?_
  intro e w4 hp
  obtain ⟨v, er, x, s', rfl, hf4, hx, hwx, hr4, htl⟩ := hp.split
  have st := store_one (hx.rep _ _ _).one
  obtain ⟨g, hg⟩ : ∃ g, heavyP (α := AV (d + 1)) x = g := ⟨_, rfl⟩
  have H4 : w4.heap[w.heap.size]? = some (.cells #[.nilIface] 23 (0, 0)) := (hf4.block _ hs3 (by omega)).trans H3.out
  have hs4 : w3.heap.size ≤ w4.heap.size := hf4.size
  have hbr4 : br < w4.heap.size := block_lt hr4
  have x4 := block_cell hr4 4
  have z4 := frozen_block hr4 4
  have x5 := block_cell hr4 5
  have z5 := frozen_block hr4 5
  have y0 := block_cell H4 0
  have y1 := frozen_block H4 0
  have R4 : Hid (RdS w4 br t s' (o + 1)) := hr4
  have X4 : Hid (RepP (fun k => w3.heap.size ≤ k) w4 (d + 2) x v) := hx
  have F4 : Hid (Fr (· ≠ br) w w4) := F3.out.trans hf4
  have T4 : Hid (VTail (d + 1) R er x s') := htl
  clear hp hf4 hx hr4 htl H3 R3 E3 F3 HV
  obtain ⟨hv, hhv⟩ : ∃ b, s'.hv = b := ⟨_, rfl⟩
  rw [hhv] at x5
  have HHV : Hid (s'.hv = hv) := hhv
  have HG : Hid (heavyP (α := AV (d + 1)) x = g) := hg
  clear hhv hg
  cases hv with
  | true =>
    have fA : Fr (· ≠ br) w4 ((w4.setCell ⟨br, 4, none⟩ (.int .i64 (o : Int))).setCell ⟨br, 5, none⟩ (.bool true)) := ((Fr.refl _ w4).set (by simp) _).set (by simp) _
    have kA := (fA.block _ (block_lt H4) (by omega)).trans H4
    have a0 := block_cell kA 0
    have a1 := frozen_block kA 0
    have fB := fA.alloc (.cells #[v] 23)
    have kB := (fB.block _ (block_lt H4) (by omega)).trans H4
    have b0 := block_cell kB 0
    have b1 := frozen_block kB 0
    have RB : Hid (RdS ((((w4.setCell ⟨br, 4, none⟩ (.int .i64 (o : Int))).setCell ⟨br, 5, none⟩ (.bool true))).alloc (.cells #[v] 23)) br t { s' with hv := true } o) := RdAt.of ((R4.out.setOpen o).setHeavy true) (P := fun _ => True) (Fr.grew ((Grew.refl _).alloc _)) trivial
    have FB : Hid (Fr (· ≠ br) w4 _) := fB
    clear fA kA kB fB H4
    have XB : Hid (RepP (fun k => w.heap.size ≤ k ∧ k ≠ w.heap.size) ((((w4.setCell ⟨br, 4, none⟩ (.int .i64 (o : Int))).setCell ⟨br, 5, none⟩ (.bool true))).alloc (.cells #[v] 23)) (d + 2) x v) := X4.out.fr (FB.out.mono fun k hk => by omega) (fun k _ hk => ⟨by omega, by omega⟩) _ _ _
    go_wp2_with fail
    have r0 := World.cell?_setCell_same _ _ v b0
    refine bodyPost_ret (v := .tuple #[.agg #[v], er]) (by simp [results, Tryz.results122, go_sem, r0]) rfl ?_
    exact bracket_post hbr (F4.out.trans FB.out) XB.out hwx T4.out RB.out (by rw [HHV.out]; rfl) v
  | false =>
    have fA : Fr (· ≠ br) w4 ((w4.setCell ⟨br, 4, none⟩ (.int .i64 (o : Int))).alloc (.cells #[v] 23)) := ((Fr.refl _ w4).set (by simp) _).alloc _
    have kA := (fA.block _ (block_lt H4) (by omega)).trans H4
    have KA : Hid (((w4.setCell ⟨br, 4, none⟩ (.int .i64 (o : Int))).alloc (.cells #[v] 23)).heap[w.heap.size]? = some (.cells #[.nilIface] 23 (0, 0))) := kA
    have KB : Hid (((w4.setCell ⟨br, 4, none⟩ (.int .i64 (o : Int))).alloc (.cells #[v] 23)).heap[w4.heap.size]? = some (.cells #[v] 23 (0, 0))) := heap_new (by simp)
    have RA : Hid (RdS ((w4.setCell ⟨br, 4, none⟩ (.int .i64 (o : Int))).alloc (.cells #[v] 23)) br t s' o) := RdAt.of (R4.out.setOpen o) (P := fun _ => True) (Fr.grew ((Grew.refl _).alloc _)) trivial
    have xA : RepP (fun k => w3.heap.size ≤ k) ((w4.setCell ⟨br, 4, none⟩ (.int .i64 (o : Int))).alloc (.cells #[v] 23)) (d + 2) x v := X4.out.fr (fA.mono fun k hk => by omega) (fun k _ hk => hk) _ _ _
    have HN : Hid (Calls Tryz.prog 176 #[.agg #[v]] ((w4.setCell ⟨br, 4, none⟩ (.int .i64 (o : Int))).alloc (.cells #[v] 23)) _) := isNil_any (d + 1) _ x v (xA.rep _ _ _)
    have XA : Hid (RepP (fun k => w3.heap.size ≤ k) ((w4.setCell ⟨br, 4, none⟩ (.int .i64 (o : Int))).alloc (.cells #[v] 23)) (d + 2) x v) := xA
    have FA : Hid (Fr (· ≠ br) w ((w4.setCell ⟨br, 4, none⟩ (.int .i64 (o : Int))).alloc (.cells #[v] 23))) := F4.out.trans fA
    rw [HG.out] at HN
    clear fA kA H4 xA X4 F4 R4
    go_wp2_with fail
    generalize (w4.setCell ⟨br, 4, none⟩ (.int .i64 (o : Int))).alloc (.cells #[v] 23) = W6 at KA KB RA HN XA FA ⊢
    refine HN.out.mono ?_
    rintro e w7 ⟨rfl, hg7⟩
    have f7 : Fr (· ≠ br) W6 w7 := Fr.grew hg7
    have r7 : RdS w7 br t s' o := RA.out.of (P := fun _ => True) (Fr.grew hg7) trivial
    have k7 := Below.blockAt hg7.below KA.out
    have j7 := Below.blockAt hg7.below KB.out
    have a0 := block_cell k7 0
    have a1 := frozen_block k7 0
    have b0 := block_cell j7 0
    have b5 := frozen_block r7 5
    have c5 := block_cell r7 5
    have n0 : w.heap.size ≠ br := by omega
    have n1 : w4.heap.size ≠ br := by omega
    have F7 : Hid (Fr (· ≠ br) w (w7.setCell ⟨br, 5, none⟩ (.bool g))) := (FA.out.trans f7).set (by simp) _
    have X7 : Hid (RepP (fun k => w.heap.size ≤ k ∧ k ≠ w.heap.size) (w7.setCell ⟨br, 5, none⟩ (.bool g)) (d + 2) x v) := XA.out.fr ((Fr.set f7 (by simp) _).mono fun k hk => by omega) (fun k _ hk => ⟨by omega, by omega⟩) _ _ _
    have R7 : Hid (RdS (w7.setCell ⟨br, 5, none⟩ (.bool g)) br t { s' with hv := g } o) := r7.setHeavy g
    have f8 : Fr (· ≠ br) w7 (w7.setCell ⟨br, 5, none⟩ (.bool g)) := (Fr.refl _ w7).set (by simp) _
    have k8 := (f8.block _ (block_lt k7) n0).trans k7
    have d0 := block_cell k8 0
    have d1 := frozen_block k8 0
    have j8 := (f8.block _ (block_lt j7) n1).trans j7
    have e0 := block_cell j8 0
    clear k7 j7 r7 f7 hg7 KA KB RA HN XA FA x4 z4 x5 z5 y0 y1 f8 k8 j8
    go_wp2_with fail
    have r0 := World.cell?_setCell_same _ _ v d0
    refine bodyPost_ret (v := .tuple #[.agg #[v], er]) (by simp [results, Tryz.results122, go_sem, r0]) rfl ?_
    exact bracket_post hbr F7.out X7.out hwx T4.out R7.out (by rw [HHV.out, HG.out]; rfl) v
end Go.Proofs.YtbogejmmkohbkaaGreatDoor.Sx

namespace Go.Proofs.YtbogejmmkohbkaaGreatDoor.Sx
open Go.RowKit Go.Sort

set_option maxRecDepth 100000 in
set_option maxHeartbeats 2000000 in
theorem bracket_function (d : Nat) (hd : d ≤ 23) (f : ByteArray → St → Except (Nat × Nat) (AV (d + 2) × St)) (V : OpenOK d 175 f) (w : World) (br : Nat) (t m : ByteArray) (s : St) (hE : Env w br) (hr : RdS w br t s (24 - (d + 1))) (hen : s.en ≤ t.size) (hen1 : 1 ≤ s.en) (ht : t.size ≤ 4000) (hm : m.data.toList = [91]) :
    Calls Tryz.prog 122 #[.pointer (some ⟨br, 0, none⟩), .string m] w (Post w br t (24 - (d + 1)) (d + 1) (heavyK (f t (advP t.data.toList s)))) := by
  have hbr := block_lt hr
  have hl : t.data.toList.length = t.size := by simp
  obtain ⟨o, ho⟩ : ∃ o, o = 24 - (d + 1) := ⟨_, rfl⟩
  have ho' : 24 - d = o + 1 := by omega
  have ho24 : o ≤ 23 := by omega
  rw [← ho] at hr ⊢
  have hmT : m.toList = m.data.toList := ByteArray.toList_eq m
  have h1 : (m.toList == [123]) = false := by rw [hmT, hm]; rfl
  have h2 : (m.toList == [60, 60]) = false := by rw [hmT, hm]; rfl
  have h3 : (m.toList == [91]) = true := by rw [hmT, hm]; rfl
  have fa := fwd_adv t.data.toList s (by omega)
  have HV : Hid (∀ W : World, Env W br → RdS W br t (advP t.data.toList s) (o + 1) → Calls Tryz.prog 175 #[.pointer (some ⟨br, 0, none⟩)] W (Post W br t (o + 1) (d + 1) (f t (advP t.data.toList s)))) := by
    intro W e r
    rw [← ho'] at r ⊢
    exact V W br t _ e r (by have := fa.1; omega) (tok_adv _ _) (by have := fa.2.1; omega) (by have := fa.2.2; have := fa.1; omega) ht
  have HA : Hid (∀ W : World, RdS W br t s (o + 1) → _) := fun (W : World) (h : RdS W br t s (o + 1)) => advance_st W br t s (o + 1) h hen ht
  generalize f t (advP t.data.toList s) = R at HV ⊢
  generalize advP t.data.toList s = s1 at HV HA
  have x4 := block_cell hr 4
  have z4 := frozen_block hr 4
  have HR1 : RdS (w.setCell ⟨br, 4, none⟩ (.int .i64 ((o : Int) + 1))) br t s (o + 1) := hr.setOpen (o + 1)
  have HR2 : Hid (RdS ((w.setCell ⟨br, 4, none⟩ (.int .i64 ((o : Int) + 1))).alloc (.cells #[.nilIface] 23)) br t s (o + 1)) := HR1.of (P := fun _ => True) (Fr.grew ((Grew.refl _).alloc _)) trivial
  have F1 : Fr (· ≠ br) w ((w.setCell ⟨br, 4, none⟩ (.int .i64 ((o : Int) + 1))).alloc (.cells #[.nilIface] 23)) := ((Fr.refl _ w).set (by simp) _).alloc _
  have HE1 : Hid (Env ((w.setCell ⟨br, 4, none⟩ (.int .i64 ((o : Int) + 1))).alloc (.cells #[.nilIface] 23)) br) := hE.fr F1
  have HF1 : Hid (Fr (· ≠ br) w ((w.setCell ⟨br, 4, none⟩ (.int .i64 ((o : Int) + 1))).alloc (.cells #[.nilIface] 23))) := F1
  have H1 : Hid (((w.setCell ⟨br, 4, none⟩ (.int .i64 ((o : Int) + 1))).alloc (.cells #[.nilIface] 23)).heap[w.heap.size]? = some (.cells #[.nilIface] 23 (0, 0))) := heap_new (by simp)
  have hne : ((o : Int) == 24) = false := by simp; omega
  clear hr hE fa hm hmT V HR1 ho ho' hd F1
  go_enter Tryz.func122, Tryz.ntmps122
  go_wp2_with fail
  generalize (w.setCell ⟨br, 4, none⟩ (.int .i64 ((o : Int) + 1))).alloc (.cells #[.nilIface] 23) = W1 at HR2 HE1 HF1 H1 ⊢
  clear x4 z4
  refine (HA.out W1 HR2.out).mono ?_
  rintro e w3 ⟨rfl, hr3, hf3⟩
  have E3 : Hid (Env w3 br) := HE1.out.fr hf3
  have R3 : Hid (RdS w3 br t s1 (o + 1)) := hr3
  have F3 : Hid (Fr (· ≠ br) w w3) := HF1.out.trans hf3
  have H3 : Hid (w3.heap[w.heap.size]? = some (.cells #[.nilIface] 23 (0, 0))) := (hf3.block _ (block_lt H1.out) (by omega)).trans H1.out
  have hs3 : w.heap.size < w3.heap.size := block_lt H3.out
  clear HE1 HR2 hr3 HF1 hf3 H1 HA
  go_wp2_with fail
  refine (HV.out w3 E3.out R3.out).mono ?_
  intro e w4 hp
  obtain ⟨v, er, x, s', rfl, hf4, hx, hwx, hr4, htl⟩ := hp.split
  have st := store_one (hx.rep _ _ _).one
  obtain ⟨g, hg⟩ : ∃ g, heavyP (α := AV (d + 1)) x = g := ⟨_, rfl⟩
  have H4 : w4.heap[w.heap.size]? = some (.cells #[.nilIface] 23 (0, 0)) := (hf4.block _ hs3 (by omega)).trans H3.out
  have hs4 : w3.heap.size ≤ w4.heap.size := hf4.size
  have hbr4 : br < w4.heap.size := block_lt hr4
  have x4 := block_cell hr4 4
  have z4 := frozen_block hr4 4
  have x5 := block_cell hr4 5
  have z5 := frozen_block hr4 5
  have y0 := block_cell H4 0
  have y1 := frozen_block H4 0
  have R4 : Hid (RdS w4 br t s' (o + 1)) := hr4
  have X4 : Hid (RepP (fun k => w3.heap.size ≤ k) w4 (d + 2) x v) := hx
  have F4 : Hid (Fr (· ≠ br) w w4) := F3.out.trans hf4
  have T4 : Hid (VTail (d + 1) R er x s') := htl
  clear hp hf4 hx hr4 htl H3 R3 E3 F3 HV
  obtain ⟨hv, hhv⟩ : ∃ b, s'.hv = b := ⟨_, rfl⟩
  rw [hhv] at x5
  have HHV : Hid (s'.hv = hv) := hhv
  have HG : Hid (heavyP (α := AV (d + 1)) x = g) := hg
  clear hhv hg
  cases hv with
  | true =>
    have fA : Fr (· ≠ br) w4 ((w4.setCell ⟨br, 4, none⟩ (.int .i64 (o : Int))).setCell ⟨br, 5, none⟩ (.bool true)) := ((Fr.refl _ w4).set (by simp) _).set (by simp) _
    have kA := (fA.block _ (block_lt H4) (by omega)).trans H4
    have a0 := block_cell kA 0
    have a1 := frozen_block kA 0
    have fB := fA.alloc (.cells #[v] 23)
    have kB := (fB.block _ (block_lt H4) (by omega)).trans H4
    have b0 := block_cell kB 0
    have b1 := frozen_block kB 0
    have RB : Hid (RdS ((((w4.setCell ⟨br, 4, none⟩ (.int .i64 (o : Int))).setCell ⟨br, 5, none⟩ (.bool true))).alloc (.cells #[v] 23)) br t { s' with hv := true } o) := RdAt.of ((R4.out.setOpen o).setHeavy true) (P := fun _ => True) (Fr.grew ((Grew.refl _).alloc _)) trivial
    have FB : Hid (Fr (· ≠ br) w4 _) := fB
    clear fA kA kB fB H4
    have XB : Hid (RepP (fun k => w.heap.size ≤ k ∧ k ≠ w.heap.size) ((((w4.setCell ⟨br, 4, none⟩ (.int .i64 (o : Int))).setCell ⟨br, 5, none⟩ (.bool true))).alloc (.cells #[v] 23)) (d + 2) x v) := X4.out.fr (FB.out.mono fun k hk => by omega) (fun k _ hk => ⟨by omega, by omega⟩) _ _ _
    go_wp2_with fail
    have r0 := World.cell?_setCell_same _ _ v b0
    refine bodyPost_ret (v := .tuple #[.agg #[v], er]) (by simp [results, Tryz.results122, go_sem, r0]) rfl ?_
    exact bracket_post hbr (F4.out.trans FB.out) XB.out hwx T4.out RB.out (by rw [HHV.out]; rfl) v
  | false =>
    have fA : Fr (· ≠ br) w4 ((w4.setCell ⟨br, 4, none⟩ (.int .i64 (o : Int))).alloc (.cells #[v] 23)) := ((Fr.refl _ w4).set (by simp) _).alloc _
    have kA := (fA.block _ (block_lt H4) (by omega)).trans H4
    have KA : Hid (((w4.setCell ⟨br, 4, none⟩ (.int .i64 (o : Int))).alloc (.cells #[v] 23)).heap[w.heap.size]? = some (.cells #[.nilIface] 23 (0, 0))) := kA
    have KB : Hid (((w4.setCell ⟨br, 4, none⟩ (.int .i64 (o : Int))).alloc (.cells #[v] 23)).heap[w4.heap.size]? = some (.cells #[v] 23 (0, 0))) := heap_new (by simp)
    have RA : Hid (RdS ((w4.setCell ⟨br, 4, none⟩ (.int .i64 (o : Int))).alloc (.cells #[v] 23)) br t s' o) := RdAt.of (R4.out.setOpen o) (P := fun _ => True) (Fr.grew ((Grew.refl _).alloc _)) trivial
    have xA : RepP (fun k => w3.heap.size ≤ k) ((w4.setCell ⟨br, 4, none⟩ (.int .i64 (o : Int))).alloc (.cells #[v] 23)) (d + 2) x v := X4.out.fr (fA.mono fun k hk => by omega) (fun k _ hk => hk) _ _ _
    have HN : Hid (Calls Tryz.prog 176 #[.agg #[v]] ((w4.setCell ⟨br, 4, none⟩ (.int .i64 (o : Int))).alloc (.cells #[v] 23)) _) := isNil_any (d + 1) _ x v (xA.rep _ _ _)
    have XA : Hid (RepP (fun k => w3.heap.size ≤ k) ((w4.setCell ⟨br, 4, none⟩ (.int .i64 (o : Int))).alloc (.cells #[v] 23)) (d + 2) x v) := xA
    have FA : Hid (Fr (· ≠ br) w ((w4.setCell ⟨br, 4, none⟩ (.int .i64 (o : Int))).alloc (.cells #[v] 23))) := F4.out.trans fA
    rw [HG.out] at HN
    clear fA kA H4 xA X4 F4 R4
    go_wp2_with fail
    generalize (w4.setCell ⟨br, 4, none⟩ (.int .i64 (o : Int))).alloc (.cells #[v] 23) = W6 at KA KB RA HN XA FA ⊢
    refine HN.out.mono ?_
    rintro e w7 ⟨rfl, hg7⟩
    have f7 : Fr (· ≠ br) W6 w7 := Fr.grew hg7
    have r7 : RdS w7 br t s' o := RA.out.of (P := fun _ => True) (Fr.grew hg7) trivial
    have k7 := Below.blockAt hg7.below KA.out
    have j7 := Below.blockAt hg7.below KB.out
    have a0 := block_cell k7 0
    have a1 := frozen_block k7 0
    have b0 := block_cell j7 0
    have b5 := frozen_block r7 5
    have c5 := block_cell r7 5
    have n0 : w.heap.size ≠ br := by omega
    have n1 : w4.heap.size ≠ br := by omega
    have F7 : Hid (Fr (· ≠ br) w (w7.setCell ⟨br, 5, none⟩ (.bool g))) := (FA.out.trans f7).set (by simp) _
    have X7 : Hid (RepP (fun k => w.heap.size ≤ k ∧ k ≠ w.heap.size) (w7.setCell ⟨br, 5, none⟩ (.bool g)) (d + 2) x v) := XA.out.fr ((Fr.set f7 (by simp) _).mono fun k hk => by omega) (fun k _ hk => ⟨by omega, by omega⟩) _ _ _
    have R7 : Hid (RdS (w7.setCell ⟨br, 5, none⟩ (.bool g)) br t { s' with hv := g } o) := r7.setHeavy g
    have f8 : Fr (· ≠ br) w7 (w7.setCell ⟨br, 5, none⟩ (.bool g)) := (Fr.refl _ w7).set (by simp) _
    have k8 := (f8.block _ (block_lt k7) n0).trans k7
    have d0 := block_cell k8 0
    have d1 := frozen_block k8 0
    have j8 := (f8.block _ (block_lt j7) n1).trans j7
    have e0 := block_cell j8 0
    clear k7 j7 r7 f7 hg7 KA KB RA HN XA FA x4 z4 x5 z5 y0 y1 f8 k8 j8
    go_wp2_with fail
    have r0 := World.cell?_setCell_same _ _ v d0
    refine bodyPost_ret (v := .tuple #[.agg #[v], er]) (by simp [results, Tryz.results122, go_sem, r0]) rfl ?_
    exact bracket_post hbr F7.out X7.out hwx T4.out R7.out (by rw [HHV.out, HG.out]; rfl) v
end Go.Proofs.YtbogejmmkohbkaaGreatDoor.Sx

namespace Go.Proofs.YtbogejmmkohbkaaGreatDoor.Sx
open Go.RowKit Go.Sort

set_option maxRecDepth 100000 in
set_option maxHeartbeats 2000000 in
theorem list_function1 {β : Type} (Pp : Nat → Prop) (Inv : World → List β → Prop) (br : Nat) (t closing : ByteArray) (op : Nat) (cb : Array Value) (item : St → Except (Nat × Nat) (β × St)) (c0 : UInt8) (cr : List UInt8) (hcl : closing.data.toList = c0 :: cr)
    (hG : GoodI t.data.toList item) (hPb : ∀ k, Pp k → k ≠ br) (hP4 : Pp 4 ∧ Pp 3) (hInv : ∀ w w' l, Inv w l → Fr (· ≠ br) w w' → Inv w' l) (ht : t.size ≤ 4000)
    (hI : ∀ (w : World) (s : St) (acc : List β), Env w br → RdS w br t s op → s.at' ≤ s.en → TokOK s → s.en ≤ t.size → Inv w acc → acc.length ≤ 5000 → Calls Tryz.prog 265 cb w (IPost Pp Inv w br t op acc (item s)))
    (w : World) (s : St) (hE : Env w br) (hr : RdS w br t s op) (ha : s.at' ≤ s.en) (hk : TokOK s) (hen : s.en ≤ t.size) (hi : Inv w []) :
    Calls Tryz.prog 264 #[.pointer (some ⟨br, 0, none⟩), .string closing, .func (.func 265) #[] cb] w (LPost Pp Inv w br t op (listP t.data.toList closing.data.toList item (t.data.toList.length + 1) s)) := by
  have hl : t.data.toList.length = t.size := by simp
  obtain ⟨R, hR⟩ : ∃ R, listP t.data.toList closing.data.toList item (t.data.toList.length + 1) s = R := ⟨_, rfl⟩
  rw [hR]
  have HR : Hid (listP t.data.toList closing.data.toList item (t.data.toList.length + 1) s = R) := hR
  clear hR
  have HI : Hid (∀ (w : World) (s : St) (acc : List β), _) := hI
  have HSK : Hid (∀ (W : World) (s : St) (m : ByteArray), RdS W br t s op → s.at' ≤ s.en → s.en ≤ t.size → _) := fun (W : World) (s : St) (m : ByteArray) h1 h2 h3 => skip_any W br t s op m h1 h2 h3 ht
  have HINV : Hid (∀ w w' l, Inv w l → Fr (· ≠ br) w w' → Inv w' l) := hInv
  have HG : Hid (GoodI t.data.toList item) := hG
  have HPB : Hid (∀ k, Pp k → k ≠ br) := hPb
  have HEf : Hid (∀ w w', Env w br → Fr Pp w w' → Env w' br) := by
    intro w w' h f
    obtain ⟨e1, e2, ⟨ev, e3, e4⟩, e5, ew, e6, e7⟩ := h
    exact ⟨e1, Nat.lt_of_lt_of_le e2 f.size, ⟨ev, (World.cell?_of_block (w := w) (f.block 4 e2 hP4.1)).trans e3, e4⟩, e5, ew, (World.cell?_of_block (w := w) (f.block 3 (by omega) hP4.2)).trans e6, e7⟩
  have HK0 : Hid (TokOK s) := hk
  have H0 : Hid (Env w br ∧ RdS w br t s op ∧ Inv w []) := ⟨hE, hr, hi⟩
  clear hI hInv hG hPb hE hr hi hP4 hk
  have HC : Hid (closing.data.toList = c0 :: cr) := hcl
  clear hcl
  go_enter Tryz.func264, Tryz.ntmps264
  go_wp2_with fail
  go_loopg [] (t.size + 1) (fun f wr => ∃ (s1 : St) (acc : List β), s1.at' ≤ s1.en ∧ s1.en ≤ t.size ∧ acc.length ≤ s1.en ∧ t.size + 1 ≤ f + s1.en ∧ Hid (TokOK s1) ∧ Hid (Env wr br) ∧ Hid (RdS wr br t s1 op) ∧ Hid (Inv wr acc) ∧ Hid (R = pend acc (listP t.data.toList closing.data.toList item f s1)) ∧ Hid (Fr Pp w wr))
  case atStart =>
    refine ⟨s, [], ha, hen, by simp, by omega, HK0, H0.out.1, H0.out.2.1, H0.out.2.2, ?_, Fr.refl _ _⟩
    show _ = _
    rw [← HR.out, hl]
    unfold pend
    cases listP t.data.toList closing.data.toList item (t.size + 1) s <;> rfl
  case round =>
    obtain ⟨s1, acc, ha1, he1, hac, hfu, HK1, HE1, HR1, HI1, HP1, HF1⟩ := hrel
    obtain ⟨f, rfl⟩ : ∃ f, gk = f + 1 := ⟨gk - 1, by omega⟩
    go_wp2_with fail
    refine (HI.out wr s1 acc HE1.out HR1.out ha1 HK1.out he1 HI1.out (by omega)).mono ?_
    intro e w1 hp
    have hgood := HG.out s1
    cases hit : item s1 with
    | error q =>
      rw [hit] at hp
      obtain ⟨c, p⟩ := q
      obtain ⟨er, rfl, hf, rfl, hinv, hst⟩ := hp
      have HQ : Hid (R = .error (c, p)) := by show _ = _; rw [HP1.out]; simp [listP, hit, pend]
      have HFF : Hid (Fr Pp w w1) := HF1.out.trans hf
      have HZ : Hid ((∃ l, Inv w1 l) ∧ ∃ s' : St, s'.at' = p ∧ RdS w1 br t s' op) := ⟨hinv, hst⟩
      clear hit hinv hst hf hgood
      go_wp2_with fail
      go_ret
      rw [HQ.out]
      exact ⟨_, rfl, HFF.out, rfl, HZ.out.1, HZ.out.2⟩
    | ok q =>
      rw [hit] at hp
      obtain ⟨x, s2⟩ := q
      obtain ⟨er, rfl, hf, rfl, hinv, hst⟩ := hp
      obtain ⟨g1, g2, g3⟩ := hgood x s2 (by omega) hit
      have HP2 : Hid (R = pend acc (if isP t.data.toList s2 closing.data.toList then .ok ([x], advP t.data.toList s2) else if isP t.data.toList s2 [44] then pend [x] (listP t.data.toList closing.data.toList item f (advP t.data.toList s2)) else .error (1, s2.at'))) := by
        show _ = _
        rw [HP1.out]
        simp only [listP, hit]
        congr 1
        split
        · rfl
        · split
          · unfold pend; cases listP t.data.toList closing.data.toList item f (advP t.data.toList s2) <;> rfl
          · rfl
      have HFF : Hid (Fr Pp w w1) := HF1.out.trans hf
      have HE2 : Hid (Env w1 br) := HEf.out _ _ HE1.out hf
      have HIN : Hid (Inv w1 (acc ++ [x])) := hinv
      have HST : Hid (RdS w1 br t s2 op) := hst
      have g2' : s2.en ≤ t.size := by omega
      clear hit hinv hst hf hgood HP1 HF1 HE1 HR1 HI1
      have hpos := fun q => isP_pos (T := t.data.toList) (s := s2) (c := c0) (m := cr) q
      have hpos2 := fun q => isP_pos (T := t.data.toList) (s := s2) (c := 44) (m := []) q
      have hadv := fwd_adv t.data.toList s2 g2
      go_wp2_with fail
      refine (HSK.out w1 s2 closing HST.out g1 g2').mono ?_
      rintro e w2 ⟨rfl, hr2, hf2⟩
      have HI2 : Hid (Inv w2 (acc ++ [x])) := HINV.out _ _ _ HIN.out hf2
      have HF2 : Hid (Fr Pp w w2) := HFF.out.trans (hf2.mono HPB.out)
      have HE3 : Hid (Env w2 br) := HE2.out.fr hf2
      clear hf2 HFF HIN HE2 HST
      rw [HC.out] at hr2 HP2 ⊢
      generalize hb1 : isP t.data.toList s2 (c0 :: cr) = b1 at hr2 HP2 hpos ⊢
      clear hb1
      cases b1 with
      | true =>
        have HQ : Hid (R = .ok (acc ++ [x], advP t.data.toList s2)) := by show _ = _; rw [HP2.out]; rfl
        have HR2 : Hid (RdS w2 br t (advP t.data.toList s2) op) := hr2
        clear hr2 HP2 hpos hpos2
        go_wp2_with fail
        go_ret
        rw [HQ.out]
        exact ⟨_, rfl, HF2.out, rfl, HI2.out, HR2.out⟩
      | false =>
        have HR2 : Hid (RdS w2 br t s2 op) := hr2
        clear hr2 hpos
        go_wp2_with fail
        refine (HSK.out w2 s2 ⟨#[44]⟩ HR2.out g1 g2').mono ?_
        rintro e w3 ⟨rfl, hr3, hf3⟩
        have HI3 : Hid (Inv w3 (acc ++ [x])) := HINV.out _ _ _ HI2.out hf3
        have HF3 : Hid (Fr Pp w w3) := HF2.out.trans (hf3.mono HPB.out)
        have HE4 : Hid (Env w3 br) := HE3.out.fr hf3
        clear hf3 HF2 HI2 HE3 HR2
        have e44 : (⟨#[44]⟩ : ByteArray).data.toList = [44] := rfl
        rw [e44] at hr3 ⊢
        clear e44
        generalize hb2 : isP t.data.toList s2 [44] = b2 at hr3 HP2 hpos2 ⊢
        clear hb2
        cases b2 with
        | true =>
          have hlt := hpos2 rfl
          have HQ : Hid (R = pend (acc ++ [x]) (listP t.data.toList (c0 :: cr) item f (advP t.data.toList s2))) := by
            show _ = _
            rw [HP2.out]
            simp only [Bool.false_eq_true, if_false, if_true]
            unfold pend
            cases listP t.data.toList (c0 :: cr) item f (advP t.data.toList s2) with
            | ok q => simp
            | error q => rfl
          have HR3 : Hid (RdS w3 br t (advP t.data.toList s2) op) := hr3
          clear hr3 HP2 hpos2
          obtain ⟨v1, v2, v3⟩ := hadv
          go_wp2_with fail
          go_roundg f
          case measure => omega
          case rel => exact ⟨advP t.data.toList s2, acc ++ [x], v1, by omega, by simp; omega, by omega, tok_adv _ _, HE4, HR3, HI3, by rw [HC.out]; exact HQ, HF3⟩
        | false =>
          have HQ : Hid (R = .error (1, s2.at')) := by show _ = _; rw [HP2.out]; rfl
          have HR3 : Hid (RdS w3 br t s2 op) := hr3
          clear hr3 HP2 hpos2
          go_wp2_with fail
          go_ret
          rw [HQ.out]
          exact ⟨_, rfl, HF3.out, rfl, ⟨_, HI3.out⟩, s2, rfl, HR3.out⟩
end Go.Proofs.YtbogejmmkohbkaaGreatDoor.Sx
