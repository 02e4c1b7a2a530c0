/- What stands in brackets. -/
import Derived.Test.YtbogejmmkohbkaaGreatDoorGP2
namespace Go.Proofs.YtbogejmmkohbkaaGreatDoor.Sx
open Go.RowKit Go.Sort

set_option maxRecDepth 100000 in
theorem isNil_any (n : Nat) (w : World) (x : AV (n + 1)) (v : Value) (h : Rep w (n + 1) x v) : Calls Tryz.prog 176 #[.agg #[v]] w fun e w' => e = .returned (.bool (heavyP (α := AV n) x)) ∧ Grew w w' := by
  have st := store_one h.one
  obtain ⟨q, hq⟩ : ∃ q, heavyP (α := AV n) x = q := ⟨_, rfl⟩
  rw [hq]
  have hv : (v = .nilIface ∧ q = true) ∨ (∃ T u, v = .iface T u ∧ q = false) := by
    rw [← hq]
    rcases h with ⟨rfl, rfl⟩ | ⟨b, rfl, rfl⟩ | ⟨i, rfl, rfl⟩ | ⟨b, rfl, rfl⟩ | ⟨b, rfl, rfl⟩ | ⟨es, b, rfl, rfl, _⟩ | ⟨ks, us, b, d, rfl, rfl, _⟩
    · exact .inl ⟨rfl, rfl⟩
    all_goals exact .inr ⟨_, _, rfl, rfl⟩
  clear h hq
  rcases hv with ⟨rfl, rfl⟩ | ⟨T, u, rfl, rfl⟩
  · go_enter Tryz.func176, Tryz.ntmps176
    go_wp2_with fail
    go_ret
    exact ⟨rfl, (Grew.refl w).alloc _⟩
  · go_enter Tryz.func176, Tryz.ntmps176
    go_wp2_with fail
    go_ret
    exact ⟨rfl, (Grew.refl w).alloc _⟩

theorem RdS.setOpen {w : World} {br : Nat} {t : ByteArray} {s : St} {op : Nat} (h : RdS w br t s op) (o : Nat) : RdS (w.setCell ⟨br, 4, none⟩ (.int .i64 (o : Int))) br t s o := by
  have := set_block h 4 (.int .i64 (o : Int))
  simpa [RdS, RdAt] using this
theorem RdS.setHeavy {w : World} {br : Nat} {t : ByteArray} {s : St} {op : Nat} (h : RdS w br t s op) (b : Bool) : RdS (w.setCell ⟨br, 5, none⟩ (.bool b)) br t { s with hv := b } op := by
  have := set_block h 5 (.bool b)
  simpa [RdS, RdAt] using this

def heavyK {n : Nat} (R : Except (Nat × Nat) (AV (n + 1) × St)) : Except (Nat × Nat) (AV (n + 1) × St) :=
  match R with
  | .ok (x, s1) => .ok (x, { s1 with hv := s1.hv || heavyP (α := AV n) x })
  | .error e => .error e

def FunOK (d : Nat) : Prop := ∀ (w : World) (br : Nat) (t : ByteArray) (s : St), Env w br → RdS w br t s (24 - d) → s.at' ≤ s.en → TokOK s → s.en ≤ t.size → 1 ≤ s.en → t.size ≤ 4000 →
  Calls Tryz.prog 175 #[.pointer (some ⟨br, 0, none⟩)] w (Post w br t (24 - d) (d + 1) (closeP (fun l => (mkP (wt (d + 1)) (normP (cmpV (d + 1)) l) : Node (AV (d + 1)))) (listP t.data.toList [93] (pairP t.data.toList (valueP t.data.toList d)) (t.data.toList.length + 1) s)))

/-- how a value's reading ends -/
def VTail (d : Nat) (R : Except (Nat × Nat) (AV (d + 1) × St)) (er : Value) (x : AV (d + 1)) (s' : St) : Prop :=
  (R = .ok (x, s') ∧ er = .nilIface) ∨ (∃ c, R = .error (c, s'.at') ∧ er = .iface 61 (.int .i64 (c : Int)))
theorem Post.split {d : Nat} {w w' : World} {br : Nat} {t : ByteArray} {op : Nat} {R : Except (Nat × Nat) (AV (d + 1) × St)} {e : Ending} (h : Post w br t op d R e w') :
    ∃ v er x s', e = .returned (.tuple #[.agg #[v], er]) ∧ Fr (· ≠ br) w w' ∧ RepP (fun k => w.heap.size ≤ k) w' (d + 1) x v ∧ wt (d + 1) x ≤ 1024 ∧ RdS w' br t s' op ∧ VTail d R er x s' := by
  obtain ⟨v, er, he, hf, hm⟩ := h
  cases R with
  | ok q => obtain ⟨x, s'⟩ := q; exact ⟨v, er, x, s', he, hf, hm.2.1, hm.2.2.1, hm.2.2.2, .inl ⟨rfl, hm.1⟩⟩
  | error q => obtain ⟨c, p⟩ := q; obtain ⟨h1, ⟨x, h2, h3⟩, s', rfl, h5⟩ := hm; exact ⟨v, er, x, s', he, hf, h2, h3, h5, .inr ⟨c, rfl, h1⟩⟩

def OpenOK (d k : Nat) (f : ByteArray → St → Except (Nat × Nat) (AV (d + 2) × St)) : Prop := ∀ (w : World) (br : Nat) (t : ByteArray) (s : St), Env w br → RdS w br t s (24 - d) → s.at' ≤ s.en → TokOK s → s.en ≤ t.size → 1 ≤ s.en → t.size ≤ 4000 →
  Calls Tryz.prog k #[.pointer (some ⟨br, 0, none⟩)] w (Post w br t (24 - d) (d + 1) (f t s))

theorem bracket_post {d : Nat} {w W : World} {br : Nat} {t : ByteArray} {o : Nat} {R : Except (Nat × Nat) (AV (d + 1) × St)} {er v : Value} {x : AV (d + 1)} {s' : St} {h : Bool} (hbr : br < w.heap.size) (hf : Fr (· ≠ br) w W)
    (hx : RepP (fun k => w.heap.size ≤ k ∧ k ≠ w.heap.size) W (d + 1) x v) (hw : wt (d + 1) x ≤ 1024) (hT : VTail d R er x s') (hr : RdS W br t { s' with hv := h } o) (hh : (s'.hv || heavyP (α := AV d) x) = h) (u : Value) :
    Post w br t o d (heavyK R) (.returned (.tuple #[.agg #[v], er])) (W.setCell ⟨w.heap.size, 0, none⟩ u) := by
  have hrd := RdS.setOther hr (p := ⟨w.heap.size, 0, none⟩) (by simp; omega) u
  refine ⟨v, er, rfl, hf.setNew (Nat.le_refl _) u, ?_⟩
  rcases hT with ⟨rfl, rfl⟩ | ⟨c, rfl, rfl⟩
  · subst hh
    exact ⟨rfl, hx.boxed (w := w) u rfl, hw, hrd⟩
  · exact ⟨rfl, ⟨x, hx.boxed (w := w) u rfl, hw⟩, { s' with hv := h }, rfl, hrd⟩
end Go.Proofs.YtbogejmmkohbkaaGreatDoor.Sx

namespace Go.Proofs.YtbogejmmkohbkaaGreatDoor.Sx
open Go.RowKit Go.Sort

set_option maxRecDepth 100000 in
set_option maxHeartbeats 2000000 in
theorem bracket_set (d : Nat) (hd : d ≤ 23) (f : ByteArray → St → Except (Nat × Nat) (AV (d + 2) × St)) (V : OpenOK d 173 f) (w : World) (br : Nat) (t m : ByteArray) (s : St) (hE : Env w br) (hr : RdS w br t s (24 - (d + 1))) (hen : s.en ≤ t.size) (hen1 : 1 ≤ s.en) (ht : t.size ≤ 4000) (hm : m.data.toList = [123]) :
    Calls Tryz.prog 122 #[.pointer (some ⟨br, 0, none⟩), .string m] w (Post w br t (24 - (d + 1)) (d + 1) (heavyK (f t (advP t.data.toList s)))) := by
  have hbr := block_lt hr
  have hl : t.data.toList.length = t.size := by simp
  obtain ⟨o, ho⟩ : ∃ o, o = 24 - (d + 1) := ⟨_, rfl⟩
  have ho' : 24 - d = o + 1 := by omega
  have ho24 : o ≤ 23 := by omega
  rw [← ho] at hr ⊢
  have hmT : m.toList = m.data.toList := ByteArray.toList_eq m
  have h1 : (m.toList == [123]) = true := by rw [hmT, hm]; rfl
  have fa := fwd_adv t.data.toList s (by omega)
  have HV : Hid (∀ W : World, Env W br → RdS W br t (advP t.data.toList s) (o + 1) → Calls Tryz.prog 173 #[.pointer (some ⟨br, 0, none⟩)] W (Post W br t (o + 1) (d + 1) (f t (advP t.data.toList s)))) := by
    intro W e r
    rw [← ho'] at r ⊢
    exact V W br t _ e r (by have := fa.1; omega) (tok_adv _ _) (by have := fa.2.1; omega) (by have := fa.2.2; have := fa.1; omega) ht
  have HA : Hid (∀ W : World, RdS W br t s (o + 1) → _) := fun (W : World) (h : RdS W br t s (o + 1)) => advance_st W br t s (o + 1) h hen ht
  generalize f t (advP t.data.toList s) = R at HV ⊢
  generalize advP t.data.toList s = s1 at HV HA
  have x4 := block_cell hr 4
  have z4 := frozen_block hr 4
  have HR1 : RdS (w.setCell ⟨br, 4, none⟩ (.int .i64 ((o : Int) + 1))) br t s (o + 1) := hr.setOpen (o + 1)
  have HR2 : Hid (RdS ((w.setCell ⟨br, 4, none⟩ (.int .i64 ((o : Int) + 1))).alloc (.cells #[.nilIface] 23)) br t s (o + 1)) := HR1.of (P := fun _ => True) (Fr.grew ((Grew.refl _).alloc _)) trivial
  have F1 : Fr (· ≠ br) w ((w.setCell ⟨br, 4, none⟩ (.int .i64 ((o : Int) + 1))).alloc (.cells #[.nilIface] 23)) := ((Fr.refl _ w).set (by simp) _).alloc _
  have HE1 : Hid (Env ((w.setCell ⟨br, 4, none⟩ (.int .i64 ((o : Int) + 1))).alloc (.cells #[.nilIface] 23)) br) := hE.fr F1
  have HF1 : Hid (Fr (· ≠ br) w ((w.setCell ⟨br, 4, none⟩ (.int .i64 ((o : Int) + 1))).alloc (.cells #[.nilIface] 23))) := F1
  have H1 : Hid (((w.setCell ⟨br, 4, none⟩ (.int .i64 ((o : Int) + 1))).alloc (.cells #[.nilIface] 23)).heap[w.heap.size]? = some (.cells #[.nilIface] 23 (0, 0))) := heap_new (by simp)
  have hne : ((o : Int) == 24) = false := by simp; omega
  clear hr hE fa hm hmT V HR1 ho ho' hd F1
  go_enter Tryz.func122, Tryz.ntmps122
  go_wp2_with fail
  generalize (w.setCell ⟨br, 4, none⟩ (.int .i64 ((o : Int) + 1))).alloc (.cells #[.nilIface] 23) = W1 at HR2 HE1 HF1 H1 ⊢
  clear x4 z4
  refine (HA.out W1 HR2.out).mono ?_
  rintro e w3 ⟨rfl, hr3, hf3⟩
  have E3 : Hid (Env w3 br) := HE1.out.fr hf3
  have R3 : Hid (RdS w3 br t s1 (o + 1)) := hr3
  have F3 : Hid (Fr (· ≠ br) w w3) := HF1.out.trans hf3
  have H3 : Hid (w3.heap[w.heap.size]? = some (.cells #[.nilIface] 23 (0, 0))) := (hf3.block _ (block_lt H1.out) (by omega)).trans H1.out
  have hs3 : w.heap.size < w3.heap.size := block_lt H3.out
  clear HE1 HR2 hr3 HF1 hf3 H1 HA
  go_wp2_with fail
  refine (HV.out w3 E3.out R3.out).mono ?_
  intro e w4 hp
  obtain ⟨v, er, x, s', rfl, hf4, hx, hwx, hr4, htl⟩ := hp.split
  have st := store_one (hx.rep _ _ _).one
  obtain ⟨g, hg⟩ : ∃ g, heavyP (α := AV (d + 1)) x = g := ⟨_, rfl⟩
  have H4 : w4.heap[w.heap.size]? = some (.cells #[.nilIface] 23 (0, 0)) := (hf4.block _ hs3 (by omega)).trans H3.out
  have hs4 : w3.heap.size ≤ w4.heap.size := hf4.size
  have hbr4 : br < w4.heap.size := block_lt hr4
  have x4 := block_cell hr4 4
  have z4 := frozen_block hr4 4
  have x5 := block_cell hr4 5
  have z5 := frozen_block hr4 5
  have y0 := block_cell H4 0
  have y1 := frozen_block H4 0
  have R4 : Hid (RdS w4 br t s' (o + 1)) := hr4
  have X4 : Hid (RepP (fun k => w3.heap.size ≤ k) w4 (d + 2) x v) := hx
  have F4 : Hid (Fr (· ≠ br) w w4) := F3.out.trans hf4
  have T4 : Hid (VTail (d + 1) R er x s') := htl
  clear hp hf4 hx hr4 htl H3 R3 E3 F3 HV
  obtain ⟨hv, hhv⟩ : ∃ b, s'.hv = b := ⟨_, rfl⟩
  rw [hhv] at x5
  have HHV : Hid (s'.hv = hv) := hhv
  have HG : Hid (heavyP (α := AV (d + 1)) x = g) := hg
  clear hhv hg
  cases hv with
  | true =>
    have fA : Fr (· ≠ br) w4 ((w4.setCell ⟨br, 4, none⟩ (.int .i64 (o : Int))).setCell ⟨br, 5, none⟩ (.bool true)) := ((Fr.refl _ w4).set (by simp) _).set (by simp) _
    have kA := (fA.block _ (block_lt H4) (by omega)).trans H4
    have a0 := block_cell kA 0
    have a1 := frozen_block kA 0
    have fB := fA.alloc (.cells #[v] 23)
    have kB := (fB.block _ (block_lt H4) (by omega)).trans H4
    have b0 := block_cell kB 0
    have b1 := frozen_block kB 0
    have RB : Hid (RdS ((((w4.setCell ⟨br, 4, none⟩ (.int .i64 (o : Int))).setCell ⟨br, 5, none⟩ (.bool true))).alloc (.cells #[v] 23)) br t { s' with hv := true } o) := RdAt.of ((R4.out.setOpen o).setHeavy true) (P := fun _ => True) (Fr.grew ((Grew.refl _).alloc _)) trivial
    have FB : Hid (Fr (· ≠ br) w4 _) := fB
    clear fA kA kB fB H4
    have XB : Hid (RepP (fun k => w.heap.size ≤ k ∧ k ≠ w.heap.size) ((((w4.setCell ⟨br, 4, none⟩ (.int .i64 (o : Int))).setCell ⟨br, 5, none⟩ (.bool true))).alloc (.cells #[v] 23)) (d + 2) x v) := X4.out.fr (FB.out.mono fun k hk => by omega) (fun k _ hk => ⟨by omega, by omega⟩) _ _ _
    go_wp2_with fail
    have r0 := World.cell?_setCell_same _ _ v b0
    refine bodyPost_ret (v := .tuple #[.agg #[v], er]) (by simp [results, Tryz.results122, go_sem, r0]) rfl ?_
    exact bracket_post hbr (F4.out.trans FB.out) XB.out hwx T4.out RB.out (by rw [HHV.out]; rfl) v
  | false =>
    have fA : Fr (· ≠ br) w4 ((w4.setCell ⟨br, 4, none⟩ (.int .i64 (o : Int))).alloc (.cells #[v] 23)) := ((Fr.refl _ w4).set (by simp) _).alloc _
    have kA := (fA.block _ (block_lt H4) (by omega)).trans H4
    have KA : Hid (((w4.setCell ⟨br, 4, none⟩ (.int .i64 (o : Int))).alloc (.cells #[v] 23)).heap[w.heap.size]? = some (.cells #[.nilIface] 23 (0, 0))) := kA
    have KB : Hid (((w4.setCell ⟨br, 4, none⟩ (.int .i64 (o : Int))).alloc (.cells #[v] 23)).heap[w4.heap.size]? = some (.cells #[v] 23 (0, 0))) := heap_new (by simp)
    have RA : Hid (RdS ((w4.setCell ⟨br, 4, none⟩ (.int .i64 (o : Int))).alloc (.cells #[v] 23)) br t s' o) := RdAt.of (R4.out.setOpen o) (P := fun _ => True) (Fr.grew ((Grew.refl _).alloc _)) trivial
    have xA : RepP (fun k => w3.heap.size ≤ k) ((w4.setCell ⟨br, 4, none⟩ (.int .i64 (o : Int))).alloc (.cells #[v] 23)) (d + 2) x v := X4.out.fr (fA.mono fun k hk => by omega) (fun k _ hk => hk) _ _ _
    have HN : Hid (Calls Tryz.prog 176 #[.agg #[v]] ((w4.setCell ⟨br, 4, none⟩ (.int .i64 (o : Int))).alloc (.cells #[v] 23)) _) := isNil_any (d + 1) _ x v (xA.rep _ _ _)
    have XA : Hid (RepP (fun k => w3.heap.size ≤ k) ((w4.setCell ⟨br, 4, none⟩ (.int .i64 (o : Int))).alloc (.cells #[v] 23)) (d + 2) x v) := xA
    have FA : Hid (Fr (· ≠ br) w ((w4.setCell ⟨br, 4, none⟩ (.int .i64 (o : Int))).alloc (.cells #[v] 23))) := F4.out.trans fA
    rw [HG.out] at HN
    clear fA kA H4 xA X4 F4 R4
    go_wp2_with fail
    generalize (w4.setCell ⟨br, 4, none⟩ (.int .i64 (o : Int))).alloc (.cells #[v] 23) = W6 at KA KB RA HN XA FA ⊢
    refine HN.out.mono ?_
    rintro e w7 ⟨rfl, hg7⟩
    have f7 : Fr (· ≠ br) W6 w7 := Fr.grew hg7
    have r7 : RdS w7 br t s' o := RA.out.of (P := fun _ => True) (Fr.grew hg7) trivial
    have k7 := Below.blockAt hg7.below KA.out
    have j7 := Below.blockAt hg7.below KB.out
    have a0 := block_cell k7 0
    have a1 := frozen_block k7 0
    have b0 := block_cell j7 0
    have b5 := frozen_block r7 5
    have c5 := block_cell r7 5
    have n0 : w.heap.size ≠ br := by omega
    have n1 : w4.heap.size ≠ br := by omega
    have F7 : Hid (Fr (· ≠ br) w (w7.setCell ⟨br, 5, none⟩ (.bool g))) := (FA.out.trans f7).set (by simp) _
    have X7 : Hid (RepP (fun k => w.heap.size ≤ k ∧ k ≠ w.heap.size) (w7.setCell ⟨br, 5, none⟩ (.bool g)) (d + 2) x v) := XA.out.fr ((Fr.set f7 (by simp) _).mono fun k hk => by omega) (fun k _ hk => ⟨by omega, by omega⟩) _ _ _
    have R7 : Hid (RdS (w7.setCell ⟨br, 5, none⟩ (.bool g)) br t { s' with hv := g } o) := r7.setHeavy g
    have f8 : Fr (· ≠ br) w7 (w7.setCell ⟨br, 5, none⟩ (.bool g)) := (Fr.refl _ w7).set (by simp) _
    have k8 := (f8.block _ (block_lt k7) n0).trans k7
    have d0 := block_cell k8 0
    have d1 := frozen_block k8 0
    have j8 := (f8.block _ (block_lt j7) n1).trans j7
    have e0 := block_cell j8 0
    clear k7 j7 r7 f7 hg7 KA KB RA HN XA FA x4 z4 x5 z5 y0 y1 f8 k8 j8
    go_wp2_with fail
    have r0 := World.cell?_setCell_same _ _ v d0
    refine bodyPost_ret (v := .tuple #[.agg #[v], er]) (by simp [results, Tryz.results122, go_sem, r0]) rfl ?_
    exact bracket_post hbr F7.out X7.out hwx T4.out R7.out (by rw [HHV.out, HG.out]; rfl) v
end Go.Proofs.YtbogejmmkohbkaaGreatDoor.Sx

namespace Go.Proofs.YtbogejmmkohbkaaGreatDoor.Sx
open Go.RowKit Go.Sort

set_option maxRecDepth 100000 in
set_option maxHeartbeats 2000000 in
theorem bracket_sequence (d : Nat) (hd : d ≤ 23) (f : ByteArray → St → Except (Nat × Nat) (AV (d + 2) × St)) (V : OpenOK d 174 f) (w : World) (br : Nat) (t m : ByteArray) (s : St) (hE : Env w br) (hr : RdS w br t s (24 - (d + 1))) (hen : s.en ≤ t.size) (hen1 : 1 ≤ s.en) (ht : t.size ≤ 4000) (hm : m.data.toList = [60, 60]) :
    Calls Tryz.prog 122 #[.pointer (some ⟨br, 0, none⟩), .string m] w (Post w br t (24 - (d + 1)) (d + 1) (heavyK (f t (advP t.data.toList s)))) := by
  have hbr := block_lt hr
  have hl : t.data.toList.length = t.size := by simp
  obtain ⟨o, ho⟩ : ∃ o, o = 24 - (d + 1) := ⟨_, rfl⟩
  have ho' : 24 - d = o + 1 := by omega
  have ho24 : o ≤ 23 := by omega
  rw [← ho] at hr ⊢
  have hmT : m.toList = m.data.toList := ByteArray.toList_eq m
  have h1 : (m.toList == [123]) = false := by rw [hmT, hm]; rfl
  have h2 : (m.toList == [60, 60]) = true := by rw [hmT, hm]; rfl
  have fa := fwd_adv t.data.toList s (by omega)
  have HV : Hid (∀ W : World, Env W br → RdS W br t (advP t.data.toList s) (o + 1) → Calls Tryz.prog 174 #[.pointer (some ⟨br, 0, none⟩)] W (Post W br t (o + 1) (d + 1) (f t (advP t.data.toList s)))) := by
    intro W e r
    rw [← ho'] at r ⊢
    exact V W br t _ e r (by have := fa.1; omega) (tok_adv _ _) (by have := fa.2.1; omega) (by have := fa.2.2; have := fa.1; omega) ht
  have HA : Hid (∀ W : World, RdS W br t s (o + 1) → _) := fun (W : World) (h : RdS W br t s (o + 1)) => advance_st W br t s (o + 1) h hen ht
  generalize f t (advP t.data.toList s) = R at HV ⊢
  generalize advP t.data.toList s = s1 at HV HA
  have x4 := block_cell hr 4
  have z4 := frozen_block hr 4
  have HR1 : RdS (w.setCell ⟨br, 4, none⟩ (.int .i64 ((o : Int) + 1))) br t s (o + 1) := hr.setOpen (o + 1)
  have HR2 : Hid (RdS ((w.setCell ⟨br, 4, none⟩ (.int .i64 ((o : Int) + 1))).alloc (.cells #[.nilIface] 23)) br t s (o + 1)) := HR1.of (P := fun _ => True) (Fr.grew ((Grew.refl _).alloc _)) trivial
  have F1 : Fr (· ≠ br) w ((w.setCell ⟨br, 4, none⟩ (.int .i64 ((o : Int) + 1))).alloc (.cells #[.nilIface] 23)) := ((Fr.refl _ w).set (by simp) _).alloc _
  have HE1 : Hid (Env ((w.setCell ⟨br, 4, none⟩ (.int .i64 ((o : Int) + 1))).alloc (.cells #[.nilIface] 23)) br) := hE.fr F1
  have HF1 : Hid (Fr (· ≠ br) w ((w.setCell ⟨br, 4, none⟩ (.int .i64 ((o : Int) + 1))).alloc (.cells #[.nilIface] 23))) := F1
  have H1 : Hid (((w.setCell ⟨br, 4, none⟩ (.int .i64 ((o : Int) + 1))).alloc (.cells #[.nilIface] 23)).heap[w.heap.size]? = some (.cells #[.nilIface] 23 (0, 0))) := heap_new (by simp)
  have hne : ((o : Int) == 24) = false := by simp; omega
  clear hr hE fa hm hmT V HR1 ho ho' hd F1
  go_enter Tryz.func122, Tryz.ntmps122
  go_wp2_with fail
  generalize (w.setCell ⟨br, 4, none⟩ (.int .i64 ((o : Int) + 1))).alloc (.cells #[.nilIface] 23) = W1 at HR2 HE1 HF1 H1 ⊢
  clear x4 z4
  refine (HA.out W1 HR2.out).mono ?_
  rintro e w3 ⟨rfl, hr3, hf3⟩
  have E3 : Hid (Env w3 br) := HE1.out.fr hf3
  have R3 : Hid (RdS w3 br t s1 (o + 1)) := hr3
  have F3 : Hid (Fr (· ≠ br) w w3) := HF1.out.trans hf3
  have H3 : Hid (w3.heap[w.heap.size]? = some (.cells #[.nilIface] 23 (0, 0))) := (hf3.block _ (block_lt H1.out) (by omega)).trans H1.out
  have hs3 : w.heap.size < w3.heap.size := block_lt H3.out
  clear HE1 HR2 hr3 HF1 hf3 H1 HA
  go_wp2_with fail
  refine (HV.out w3 E3.out R3.out).mono ?_
  intro e w4 hp
  obtain ⟨v, er, x, s', rfl, hf4, hx, hwx, hr4, htl⟩ := hp.split
  have st := store_one (hx.rep _ _ _).one
  obtain ⟨g, hg⟩ : ∃ g, heavyP (α := AV (d + 1)) x = g := ⟨_, rfl⟩
  have H4 : w4.heap[w.heap.size]? = some (.cells #[.nilIface] 23 (0, 0)) := (hf4.block _ hs3 (by omega)).trans H3.out
  have hs4 : w3.heap.size ≤ w4.heap.size := hf4.size
  have hbr4 : br < w4.heap.size := block_lt hr4
  have x4 := block_cell hr4 4
  have z4 := frozen_block hr4 4
  have x5 := block_cell hr4 5
  have z5 := frozen_block hr4 5
  have y0 := block_cell H4 0
  have y1 := frozen_block H4 0
  have R4 : Hid (RdS w4 br t s' (o + 1)) := hr4
  have X4 : Hid (RepP (fun k => w3.heap.size ≤ k) w4 (d + 2) x v) := hx
  have F4 : Hid (Fr (· ≠ br) w w4) := F3.out.trans hf4
  have T4 : Hid (VTail (d + 1) R er x s') := htl
  clear hp hf4 hx hr4 htl H3 R3 E3 F3 HV
  obtain ⟨hv, hhv⟩ : ∃ b, s'.hv = b := ⟨_, rfl⟩
  rw [hhv] at x5
  have HHV : Hid (s'.hv = hv) := hhv
  have HG : Hid (heavyP (α := AV (d + 1)) x = g) := hg
  clear hhv hg
  cases hv with
  | true =>
    have fA : Fr (· ≠ br) w4 ((w4.setCell ⟨br, 4, none⟩ (.int .i64 (o : Int))).setCell ⟨br, 5, none⟩ (.bool true)) := ((Fr.refl _ w4).set (by simp) _).set (by simp) _
    have kA := (fA.block _ (block_lt H4) (by omega)).trans H4
    have a0 := block_cell kA 0
    have a1 := frozen_block kA 0
    have fB := fA.alloc (.cells #[v] 23)
    have kB := (fB.block _ (block_lt H4) (by omega)).trans H4
    have b0 := block_cell kB 0
    have b1 := frozen_block kB 0
    have RB : Hid (RdS ((((w4.setCell ⟨br, 4, none⟩ (.int .i64 (o : Int))).setCell ⟨br, 5, none⟩ (.bool true))).alloc (.cells #[v] 23)) br t { s' with hv := true } o) := RdAt.of ((R4.out.setOpen o).setHeavy true) (P := fun _ => True) (Fr.grew ((Grew.refl _).alloc _)) trivial
    have FB : Hid (Fr (· ≠ br) w4 _) := fB
    clear fA kA kB fB H4
    have XB : Hid (RepP (fun k => w.heap.size ≤ k ∧ k ≠ w.heap.size) ((((w4.setCell ⟨br, 4, none⟩ (.int .i64 (o : Int))).setCell ⟨br, 5, none⟩ (.bool true))).alloc (.cells #[v] 23)) (d + 2) x v) := X4.out.fr (FB.out.mono fun k hk => by omega) (fun k _ hk => ⟨by omega, by omega⟩) _ _ _
    go_wp2_with fail
    have r0 := World.cell?_setCell_same _ _ v b0
    refine bodyPost_ret (v := .tuple #[.agg #[v], er]) (by simp [results, Tryz.results122, go_sem, r0]) rfl ?_
    exact bracket_post hbr (F4.out.trans FB.out) XB.out hwx T4.out RB.out (by rw [HHV.out]; rfl) v
  | false =>
    have fA : Fr (· ≠ br) w4 ((w4.setCell ⟨br, 4, none⟩ (.int .i64 (o : Int))).alloc (.cells #[v] 23)) := ((Fr.refl _ w4).set (by simp) _).alloc _
    have kA := (fA.block _ (block_lt H4) (by omega)).trans H4
    have KA : Hid (((w4.setCell ⟨br, 4, none⟩ (.int .i64 (o : Int))).alloc (.cells #[v] 23)).heap[w.heap.size]? = some (.cells #[.nilIface] 23 (0, 0))) := kA
    have KB : Hid (((w4.setCell ⟨br, 4, none⟩ (.int .i64 (o : Int))).alloc (.cells #[v] 23)).heap[w4.heap.size]? = some (.cells #[v] 23 (0, 0))) := heap_new (by simp)
    have RA : Hid (RdS ((w4.setCell ⟨br, 4, none⟩ (.int .i64 (o : Int))).alloc (.cells #[v] 23)) br t s' o) := RdAt.of (R4.out.setOpen o) (P := fun _ => True) (Fr.grew ((Grew.refl _).alloc _)) trivial
    have xA : RepP (fun k => w3.heap.size ≤ k) ((w4.setCell ⟨br, 4, none⟩ (.int .i64 (o : Int))).alloc (.cells #[v] 23)) (d + 2) x v := X4.out.fr (fA.mono fun k hk => by omega) (fun k _ hk => hk) _ _ _
    have HN : Hid (Calls Tryz.prog 176 #[.agg #[v]] ((w4.setCell ⟨br, 4, none⟩ (.int .i64 (o : Int))).alloc (.cells #[v] 23)) _) := isNil_any (d + 1) _ x v (xA.rep _ _ _)
    have XA : Hid (RepP (fun k => w3.heap.size ≤ k) ((w4.setCell ⟨br, 4, none⟩ (.int .i64 (o : Int))).alloc (.cells #[v] 23)) (d + 2) x v) := xA
    have FA : Hid (Fr (· ≠ br) w ((w4.setCell ⟨br, 4, none⟩ (.int .i64 (o : Int))).alloc (.cells #[v] 23))) := F4.out.trans fA
    rw [HG.out] at HN
    clear fA kA H4 xA X4 F4 R4
    go_wp2_with fail
    generalize (w4.setCell ⟨br, 4, none⟩ (.int .i64 (o : Int))).alloc (.cells #[v] 23) = W6 at KA KB RA HN XA FA ⊢
    refine HN.out.mono ?_
    rintro e w7 ⟨rfl, hg7⟩
    have f7 : Fr (· ≠ br) W6 w7 := Fr.grew hg7
    have r7 : RdS w7 br t s' o := RA.out.of (P := fun _ => True) (Fr.grew hg7) trivial
    have k7 := Below.blockAt hg7.below KA.out
    have j7 := Below.blockAt hg7.below KB.out
    have a0 := block_cell k7 0
    have a1 := frozen_block k7 0
    have b0 := block_cell j7 0
    have b5 := frozen_block r7 5
    have c5 := block_cell r7 5
    have n0 : w.heap.size ≠ br := by omega
    have n1 : w4.heap.size ≠ br := by omega
    have F7 : Hid (Fr (· ≠ br) w (w7.setCell ⟨br, 5, none⟩ (.bool g))) := (FA.out.trans f7).set (by simp) _
    have X7 : Hid (RepP (fun k => w.heap.size ≤ k ∧ k ≠ w.heap.size) (w7.setCell ⟨br, 5, none⟩ (.bool g)) (d + 2) x v) := XA.out.fr ((Fr.set f7 (by simp) _).mono fun k hk => by omega) (fun k _ hk => ⟨by omega, by omega⟩) _ _ _
    have R7 : Hid (RdS (w7.setCell ⟨br, 5, none⟩ (.bool g)) br t { s' with hv := g } o) := r7.setHeavy g
    have f8 : Fr (· ≠ br) w7 (w7.setCell ⟨br, 5, none⟩ (.bool g)) := (Fr.refl _ w7).set (by simp) _
    have k8 := (f8.block _ (block_lt k7) n0).trans k7
    have d0 := block_cell k8 0
    have d1 := frozen_block k8 0
    have j8 := (f8.block _ (block_lt j7) n1).trans j7
    have e0 := block_cell j8 0
    clear k7 j7 r7 f7 hg7 KA KB RA HN XA FA x4 z4 x5 z5 y0 y1 f8 k8 j8
    go_wp2_with fail
    have r0 := World.cell?_setCell_same _ _ v d0
    refine bodyPost_ret (v := .tuple #[.agg #[v], er]) (by simp [results, Tryz.results122, go_sem, r0]) rfl ?_
    exact bracket_post hbr F7.out X7.out hwx T4.out R7.out (by rw [HHV.out, HG.out]; rfl) v
end Go.Proofs.YtbogejmmkohbkaaGreatDoor.Sx

namespace Go.Proofs.YtbogejmmkohbkaaGreatDoor.Sx
open Go.RowKit Go.Sort

set_option maxRecDepth 100000 in
set_option maxHeartbeats 2000000 in
theorem bracket_function (d : Nat) (hd : d ≤ 23) (f : ByteArray → St → Except (Nat × Nat) (AV (d + 2) × St)) (V : OpenOK d 175 f) (w : World) (br : Nat) (t m : ByteArray) (s : St) (hE : Env w br) (hr : RdS w br t s (24 - (d + 1))) (hen : s.en ≤ t.size) (hen1 : 1 ≤ s.en) (ht : t.size ≤ 4000) (hm : m.data.toList = [91]) :
    Calls Tryz.prog 122 #[.pointer (some ⟨br, 0, none⟩), .string m] w (Post w br t (24 - (d + 1)) (d + 1) (heavyK (f t (advP t.data.toList s)))) := by
  have hbr := block_lt hr
  have hl : t.data.toList.length = t.size := by simp
  obtain ⟨o, ho⟩ : ∃ o, o = 24 - (d + 1) := ⟨_, rfl⟩
  have ho' : 24 - d = o + 1 := by omega
  have ho24 : o ≤ 23 := by omega
  rw [← ho] at hr ⊢
  have hmT : m.toList = m.data.toList := ByteArray.toList_eq m
  have h1 : (m.toList == [123]) = false := by rw [hmT, hm]; rfl
  have h2 : (m.toList == [60, 60]) = false := by rw [hmT, hm]; rfl
  have h3 : (m.toList == [91]) = true := by rw [hmT, hm]; rfl
  have fa := fwd_adv t.data.toList s (by omega)
  have HV : Hid (∀ W : World, Env W br → RdS W br t (advP t.data.toList s) (o + 1) → Calls Tryz.prog 175 #[.pointer (some ⟨br, 0, none⟩)] W (Post W br t (o + 1) (d + 1) (f t (advP t.data.toList s)))) := by
    intro W e r
    rw [← ho'] at r ⊢
    exact V W br t _ e r (by have := fa.1; omega) (tok_adv _ _) (by have := fa.2.1; omega) (by have := fa.2.2; have := fa.1; omega) ht
  have HA : Hid (∀ W : World, RdS W br t s (o + 1) → _) := fun (W : World) (h : RdS W br t s (o + 1)) => advance_st W br t s (o + 1) h hen ht
  generalize f t (advP t.data.toList s) = R at HV ⊢
  generalize advP t.data.toList s = s1 at HV HA
  have x4 := block_cell hr 4
  have z4 := frozen_block hr 4
  have HR1 : RdS (w.setCell ⟨br, 4, none⟩ (.int .i64 ((o : Int) + 1))) br t s (o + 1) := hr.setOpen (o + 1)
  have HR2 : Hid (RdS ((w.setCell ⟨br, 4, none⟩ (.int .i64 ((o : Int) + 1))).alloc (.cells #[.nilIface] 23)) br t s (o + 1)) := HR1.of (P := fun _ => True) (Fr.grew ((Grew.refl _).alloc _)) trivial
  have F1 : Fr (· ≠ br) w ((w.setCell ⟨br, 4, none⟩ (.int .i64 ((o : Int) + 1))).alloc (.cells #[.nilIface] 23)) := ((Fr.refl _ w).set (by simp) _).alloc _
  have HE1 : Hid (Env ((w.setCell ⟨br, 4, none⟩ (.int .i64 ((o : Int) + 1))).alloc (.cells #[.nilIface] 23)) br) := hE.fr F1
  have HF1 : Hid (Fr (· ≠ br) w ((w.setCell ⟨br, 4, none⟩ (.int .i64 ((o : Int) + 1))).alloc (.cells #[.nilIface] 23))) := F1
  have H1 : Hid (((w.setCell ⟨br, 4, none⟩ (.int .i64 ((o : Int) + 1))).alloc (.cells #[.nilIface] 23)).heap[w.heap.size]? = some (.cells #[.nilIface] 23 (0, 0))) := heap_new (by simp)
  have hne : ((o : Int) == 24) = false := by simp; omega
  clear hr hE fa hm hmT V HR1 ho ho' hd F1
  go_enter Tryz.func122, Tryz.ntmps122
  go_wp2_with fail
  generalize (w.setCell ⟨br, 4, none⟩ (.int .i64 ((o : Int) + 1))).alloc (.cells #[.nilIface] 23) = W1 at HR2 HE1 HF1 H1 ⊢
  clear x4 z4
  refine (HA.out W1 HR2.out).mono ?_
  rintro e w3 ⟨rfl, hr3, hf3⟩
  have E3 : Hid (Env w3 br) := HE1.out.fr hf3
  have R3 : Hid (RdS w3 br t s1 (o + 1)) := hr3
  have F3 : Hid (Fr (· ≠ br) w w3) := HF1.out.trans hf3
  have H3 : Hid (w3.heap[w.heap.size]? = some (.cells #[.nilIface] 23 (0, 0))) := (hf3.block _ (block_lt H1.out) (by omega)).trans H1.out
  have hs3 : w.heap.size < w3.heap.size := block_lt H3.out
  clear HE1 HR2 hr3 HF1 hf3 H1 HA
  go_wp2_with fail
  refine (HV.out w3 E3.out R3.out).mono ?_
  intro e w4 hp
  obtain ⟨v, er, x, s', rfl, hf4, hx, hwx, hr4, htl⟩ := hp.split
  have st := store_one (hx.rep _ _ _).one
  obtain ⟨g, hg⟩ : ∃ g, heavyP (α := AV (d + 1)) x = g := ⟨_, rfl⟩
  have H4 : w4.heap[w.heap.size]? = some (.cells #[.nilIface] 23 (0, 0)) := (hf4.block _ hs3 (by omega)).trans H3.out
  have hs4 : w3.heap.size ≤ w4.heap.size := hf4.size
  have hbr4 : br < w4.heap.size := block_lt hr4
  have x4 := block_cell hr4 4
  have z4 := frozen_block hr4 4
  have x5 := block_cell hr4 5
  have z5 := frozen_block hr4 5
  have y0 := block_cell H4 0
  have y1 := frozen_block H4 0
  have R4 : Hid (RdS w4 br t s' (o + 1)) := hr4
  have X4 : Hid (RepP (fun k => w3.heap.size ≤ k) w4 (d + 2) x v) := hx
  have F4 : Hid (Fr (· ≠ br) w w4) := F3.out.trans hf4
  have T4 : Hid (VTail (d + 1) R er x s') := htl
  clear hp hf4 hx hr4 htl H3 R3 E3 F3 HV
  obtain ⟨hv, hhv⟩ : ∃ b, s'.hv = b := ⟨_, rfl⟩
  rw [hhv] at x5
  have HHV : Hid (s'.hv = hv) := hhv
  have HG : Hid (heavyP (α := AV (d + 1)) x = g) := hg
  clear hhv hg
  cases hv with
  | true =>
    have fA : Fr (· ≠ br) w4 ((w4.setCell ⟨br, 4, none⟩ (.int .i64 (o : Int))).setCell ⟨br, 5, none⟩ (.bool true)) := ((Fr.refl _ w4).set (by simp) _).set (by simp) _
    have kA := (fA.block _ (block_lt H4) (by omega)).trans H4
    have a0 := block_cell kA 0
    have a1 := frozen_block kA 0
    have fB := fA.alloc (.cells #[v] 23)
    have kB := (fB.block _ (block_lt H4) (by omega)).trans H4
    have b0 := block_cell kB 0
    have b1 := frozen_block kB 0
    have RB : Hid (RdS ((((w4.setCell ⟨br, 4, none⟩ (.int .i64 (o : Int))).setCell ⟨br, 5, none⟩ (.bool true))).alloc (.cells #[v] 23)) br t { s' with hv := true } o) := RdAt.of ((R4.out.setOpen o).setHeavy true) (P := fun _ => True) (Fr.grew ((Grew.refl _).alloc _)) trivial
    have FB : Hid (Fr (· ≠ br) w4 _) := fB
    clear fA kA kB fB H4
    have XB : Hid (RepP (fun k => w.heap.size ≤ k ∧ k ≠ w.heap.size) ((((w4.setCell ⟨br, 4, none⟩ (.int .i64 (o : Int))).setCell ⟨br, 5, none⟩ (.bool true))).alloc (.cells #[v] 23)) (d + 2) x v) := X4.out.fr (FB.out.mono fun k hk => by omega) (fun k _ hk => ⟨by omega, by omega⟩) _ _ _
    go_wp2_with fail
    have r0 := World.cell?_setCell_same _ _ v b0
    refine bodyPost_ret (v := .tuple #[.agg #[v], er]) (by simp [results, Tryz.results122, go_sem, r0]) rfl ?_
    exact bracket_post hbr (F4.out.trans FB.out) XB.out hwx T4.out RB.out (by rw [HHV.out]; rfl) v
  | false =>
    have fA : Fr (· ≠ br) w4 ((w4.setCell ⟨br, 4, none⟩ (.int .i64 (o : Int))).alloc (.cells #[v] 23)) := ((Fr.refl _ w4).set (by simp) _).alloc _
    have kA := (fA.block _ (block_lt H4) (by omega)).trans H4
    have KA : Hid (((w4.setCell ⟨br, 4, none⟩ (.int .i64 (o : Int))).alloc (.cells #[v] 23)).heap[w.heap.size]? = some (.cells #[.nilIface] 23 (0, 0))) := kA
    have KB : Hid (((w4.setCell ⟨br, 4, none⟩ (.int .i64 (o : Int))).alloc (.cells #[v] 23)).heap[w4.heap.size]? = some (.cells #[v] 23 (0, 0))) := heap_new (by simp)
    have RA : Hid (RdS ((w4.setCell ⟨br, 4, none⟩ (.int .i64 (o : Int))).alloc (.cells #[v] 23)) br t s' o) := RdAt.of (R4.out.setOpen o) (P := fun _ => True) (Fr.grew ((Grew.refl _).alloc _)) trivial
    have xA : RepP (fun k => w3.heap.size ≤ k) ((w4.setCell ⟨br, 4, none⟩ (.int .i64 (o : Int))).alloc (.cells #[v] 23)) (d + 2) x v := X4.out.fr (fA.mono fun k hk => by omega) (fun k _ hk => hk) _ _ _
    have HN : Hid (Calls Tryz.prog 176 #[.agg #[v]] ((w4.setCell ⟨br, 4, none⟩ (.int .i64 (o : Int))).alloc (.cells #[v] 23)) _) := isNil_any (d + 1) _ x v (xA.rep _ _ _)
    have XA : Hid (RepP (fun k => w3.heap.size ≤ k) ((w4.setCell ⟨br, 4, none⟩ (.int .i64 (o : Int))).alloc (.cells #[v] 23)) (d + 2) x v) := xA
    have FA : Hid (Fr (· ≠ br) w ((w4.setCell ⟨br, 4, none⟩ (.int .i64 (o : Int))).alloc (.cells #[v] 23))) := F4.out.trans fA
    rw [HG.out] at HN
    clear fA kA H4 xA X4 F4 R4
    go_wp2_with fail
    generalize (w4.setCell ⟨br, 4, none⟩ (.int .i64 (o : Int))).alloc (.cells #[v] 23) = W6 at KA KB RA HN XA FA ⊢
    refine HN.out.mono ?_
    rintro e w7 ⟨rfl, hg7⟩
    have f7 : Fr (· ≠ br) W6 w7 := Fr.grew hg7
    have r7 : RdS w7 br t s' o := RA.out.of (P := fun _ => True) (Fr.grew hg7) trivial
    have k7 := Below.blockAt hg7.below KA.out
    have j7 := Below.blockAt hg7.below KB.out
    have a0 := block_cell k7 0
    have a1 := frozen_block k7 0
    have b0 := block_cell j7 0
    have b5 := frozen_block r7 5
    have c5 := block_cell r7 5
    have n0 : w.heap.size ≠ br := by omega
    have n1 : w4.heap.size ≠ br := by omega
    have F7 : Hid (Fr (· ≠ br) w (w7.setCell ⟨br, 5, none⟩ (.bool g))) := (FA.out.trans f7).set (by simp) _
    have X7 : Hid (RepP (fun k => w.heap.size ≤ k ∧ k ≠ w.heap.size) (w7.setCell ⟨br, 5, none⟩ (.bool g)) (d + 2) x v) := XA.out.fr ((Fr.set f7 (by simp) _).mono fun k hk => by omega) (fun k _ hk => ⟨by omega, by omega⟩) _ _ _
    have R7 : Hid (RdS (w7.setCell ⟨br, 5, none⟩ (.bool g)) br t { s' with hv := g } o) := r7.setHeavy g
    have f8 : Fr (· ≠ br) w7 (w7.setCell ⟨br, 5, none⟩ (.bool g)) := (Fr.refl _ w7).set (by simp) _
    have k8 := (f8.block _ (block_lt k7) n0).trans k7
    have d0 := block_cell k8 0
    have d1 := frozen_block k8 0
    have j8 := (f8.block _ (block_lt j7) n1).trans j7
    have e0 := block_cell j8 0
    clear k7 j7 r7 f7 hg7 KA KB RA HN XA FA x4 z4 x5 z5 y0 y1 f8 k8 j8
    go_wp2_with fail
    have r0 := World.cell?_setCell_same _ _ v d0
    refine bodyPost_ret (v := .tuple #[.agg #[v], er]) (by simp [results, Tryz.results122, go_sem, r0]) rfl ?_
    exact bracket_post hbr F7.out X7.out hwx T4.out R7.out (by rw [HHV.out, HG.out]; rfl) v
end Go.Proofs.YtbogejmmkohbkaaGreatDoor.Sx
