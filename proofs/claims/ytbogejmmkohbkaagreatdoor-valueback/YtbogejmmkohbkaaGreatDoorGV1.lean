/- What a token begins. -/
import Derived.Test.YtbogejmmkohbkaaGreatDoorGP3
import Derived.Test.YtbogejmmkohbkaaGreatDoorGF1
import Derived.Lib.AtoiErrMem
import Derived.Deep.Cut
namespace Go.Proofs.YtbogejmmkohbkaaGreatDoor.Sx
open Go.RowKit Go.Sort

set_option maxRecDepth 100000 in
theorem bracket_none (d : Nat) (w : World) (br : Nat) (t m : ByteArray) (s : St) (op : Nat) (hr : RdS w br t s op) (n1 : m.data.toList ≠ [123]) (n2 : m.data.toList ≠ [60, 60]) (n3 : m.data.toList ≠ [91]) :
    Calls Tryz.prog 122 #[.pointer (some ⟨br, 0, none⟩), .string m] w (Post w br t op d (.error (1, s.at'))) := by
  have HR : Hid (RdS (w.alloc (.cells #[.nilIface] 23)) br t s op) := hr.of (P := fun _ => True) (Fr.grew ((Grew.refl w).alloc _)) trivial
  have hmT : m.toList = m.data.toList := ByteArray.toList_eq m
  have h1 : (m.toList == [123]) = false := by rw [hmT]; exact list_ne n1
  have h2 : (m.toList == [60, 60]) = false := by rw [hmT]; exact list_ne n2
  have h3 : (m.toList == [91]) = false := by rw [hmT]; exact list_ne n3
  clear hr hmT n1 n2 n3
  go_enter Tryz.func122, Tryz.ntmps122
  go_wp2_with fail
  exact bodyPost_ret (v := .tuple #[.agg #[.nilIface], .iface 61 (.int .i64 1)]) (by simp [results, Tryz.results122, go_sem]) rfl (post_err (c := 1) (Fr.grew ((Grew.refl w).alloc _)) HR.out)

set_option maxRecDepth 100000 in
theorem bracket_full (d : Nat) (w : World) (br : Nat) (t m : ByteArray) (s : St) (hr : RdS w br t s 24) (hm : m.data.toList = [123] ∨ m.data.toList = [60, 60] ∨ m.data.toList = [91]) :
    Calls Tryz.prog 122 #[.pointer (some ⟨br, 0, none⟩), .string m] w (Post w br t 24 d (.error (6, s.at'))) := by
  have HR : Hid (RdS (w.alloc (.cells #[.nilIface] 23)) br t s 24) := hr.of (P := fun _ => True) (Fr.grew ((Grew.refl w).alloc _)) trivial
  have hbr := block_lt hr
  have x4 := block_cell hr 4
  have hmT : m.toList = m.data.toList := ByteArray.toList_eq m
  rcases hm with hm | hm | hm
  · have h1 : (m.toList == [123]) = true := by rw [hmT, hm]; rfl
    clear hr hmT hm
    go_enter Tryz.func122, Tryz.ntmps122
    go_wp2_with fail
    exact bodyPost_ret (v := .tuple #[.agg #[.nilIface], .iface 61 (.int .i64 6)]) (by simp [results, Tryz.results122, go_sem]) rfl (post_err (c := 6) (Fr.grew ((Grew.refl w).alloc _)) HR.out)
  · have h1 : (m.toList == [123]) = false := by rw [hmT, hm]; rfl
    have h2 : (m.toList == [60, 60]) = true := by rw [hmT, hm]; rfl
    clear hr hmT hm
    go_enter Tryz.func122, Tryz.ntmps122
    go_wp2_with fail
    exact bodyPost_ret (v := .tuple #[.agg #[.nilIface], .iface 61 (.int .i64 6)]) (by simp [results, Tryz.results122, go_sem]) rfl (post_err (c := 6) (Fr.grew ((Grew.refl w).alloc _)) HR.out)
  · have h1 : (m.toList == [123]) = false := by rw [hmT, hm]; rfl
    have h2 : (m.toList == [60, 60]) = false := by rw [hmT, hm]; rfl
    have h3 : (m.toList == [91]) = true := by rw [hmT, hm]; rfl
    clear hr hmT hm
    go_enter Tryz.func122, Tryz.ntmps122
    go_wp2_with fail
    exact bodyPost_ret (v := .tuple #[.agg #[.nilIface], .iface 61 (.int .i64 6)]) (by simp [results, Tryz.results122, go_sem]) rfl (post_err (c := 6) (Fr.grew ((Grew.refl w).alloc _)) HR.out)

theorem piece_pos {T : List UInt8} {s : St} {c : UInt8} {l : List UInt8} (h : pieceP T s = c :: l) : 1 ≤ s.en := by
  have := congrArg List.length h
  simp [pieceP] at this
  omega

/-- the contract of bracket, where so many are open -/
def BrOK (d : Nat) (brP : List UInt8 → St → Except (Nat × Nat) (AV (d + 1) × St)) : Prop := ∀ (w : World) (br : Nat) (t m : ByteArray) (s : St), Env w br → RdS w br t s (24 - d) → s.en ≤ t.size → t.size ≤ 4000 → m.data.toList = pieceP t.data.toList s →
  Calls Tryz.prog 122 #[.pointer (some ⟨br, 0, none⟩), .string m] w (Post w br t (24 - d) d (brP t.data.toList s))

theorem brOK_zero : BrOK 0 (fun T s => if pieceP T s = [123] ∨ pieceP T s = [60, 60] ∨ pieceP T s = [91] then .error (6, s.at') else .error (1, s.at')) := by
  intro w br t m s hE hr hen ht hm
  by_cases q : pieceP t.data.toList s = [123] ∨ pieceP t.data.toList s = [60, 60] ∨ pieceP t.data.toList s = [91]
  · simp only [if_pos q]
    exact bracket_full 0 w br t m s hr (by rw [hm]; exact q)
  · simp only [if_neg q]
    exact bracket_none 0 w br t m s _ hr (by rw [hm]; exact fun e => q (.inl e)) (by rw [hm]; exact fun e => q (.inr (.inl e))) (by rw [hm]; exact fun e => q (.inr (.inr e)))

theorem bracketP_set {d : Nat} {T : List UInt8} {item : St → Except (Nat × Nat) (AV (d + 1) × St)} {s : St} (q : pieceP T s = [123]) : bracketP T item s = heavyK (closeP (fun l => (mkS (wt (d + 1)) (normA (cmpV (d + 1)) l) : Node (AV (d + 1)))) (valuesP T [125] item (advP T s))) := by
  unfold bracketP
  rw [if_pos q]
  cases valuesP T [125] item (advP T s) <;> rfl
theorem bracketP_seq {d : Nat} {T : List UInt8} {item : St → Except (Nat × Nat) (AV (d + 1) × St)} {s : St} (q : pieceP T s = [60, 60]) : bracketP T item s = heavyK (closeP (fun l => (mkF (wt (d + 1)) (seqKeys d l.length) l : Node (AV (d + 1)))) (valuesP T [62, 62] item (advP T s))) := by
  unfold bracketP
  rw [if_neg (by rw [q]; decide), if_pos q]
  cases valuesP T [62, 62] item (advP T s) <;> rfl
theorem bracketP_fun {d : Nat} {T : List UInt8} {item : St → Except (Nat × Nat) (AV (d + 1) × St)} {s : St} (q : pieceP T s = [91]) : bracketP T item s = heavyK (closeP (fun l => (mkP (wt (d + 1)) (normP (cmpV (d + 1)) l) : Node (AV (d + 1)))) (listP T [93] (pairP T item) (T.length + 1) (advP T s))) := by
  unfold bracketP
  rw [if_neg (by rw [q]; decide), if_neg (by rw [q]; decide), if_pos q]
  cases listP T [93] (pairP T item) (T.length + 1) (advP T s) <;> rfl

theorem brOK_succ (d : Nat) (hd : d ≤ 23) (V : ValOK d) : BrOK (d + 1) (fun T s => bracketP T (valueP T d) s) := by
  intro w br t m s hE hr hen ht hm
  show Calls Tryz.prog 122 #[.pointer (some ⟨br, 0, none⟩), .string m] w (Post w br t (24 - (d + 1)) (d + 1) (bracketP t.data.toList (valueP t.data.toList d) s))
  by_cases q1 : pieceP t.data.toList s = [123]
  · rw [bracketP_set q1]
    exact bracket_set d hd (fun t s => closeP (fun l => (mkS (wt (d + 1)) (normA (cmpV (d + 1)) l) : Node (AV (d + 1)))) (valuesP t.data.toList [125] (valueP t.data.toList d) s)) (fun w br t s e r a k b c h => set_any d V w br t s e r a k b c h) w br t m s hE hr hen (piece_pos q1) ht (by rw [hm, q1])
  · by_cases q2 : pieceP t.data.toList s = [60, 60]
    · rw [bracketP_seq q2]
      exact bracket_sequence d hd (fun t s => closeP (fun l => (mkF (wt (d + 1)) (seqKeys d l.length) l : Node (AV (d + 1)))) (valuesP t.data.toList [62, 62] (valueP t.data.toList d) s)) (fun w br t s e r a k b c h => sequence_any d V w br t s e r a k b c h) w br t m s hE hr hen (piece_pos q2) ht (by rw [hm, q2])
    · by_cases q3 : pieceP t.data.toList s = [91]
      · rw [bracketP_fun q3]
        exact bracket_function d hd (fun t s => closeP (fun l => (mkP (wt (d + 1)) (normP (cmpV (d + 1)) l) : Node (AV (d + 1)))) (listP t.data.toList [93] (pairP t.data.toList (valueP t.data.toList d)) (t.data.toList.length + 1) s)) (function_any d V) w br t m s hE hr hen (piece_pos q3) ht (by rw [hm, q3])
      · have e : bracketP t.data.toList (valueP t.data.toList d) s = .error (1, s.at') := by
          unfold bracketP; rw [if_neg q1, if_neg q2, if_neg q3]
        rw [e]
        exact bracket_none (d + 1) w br t m s _ hr (by rw [hm]; exact q1) (by rw [hm]; exact q2) (by rw [hm]; exact q3)

theorem post_box {d : Nat} {w W1 w' : World} {br b : Nat} {t : ByteArray} {op : Nat} {R : Except (Nat × Nat) (AV (d + 1) × St)} {er v u : Value} {x : AV (d + 1)} {s' : St} (hbr : br < w.heap.size) (hF : Fr (· ≠ br) w W1) (hb1 : w.heap.size ≤ b) (hb2 : b < W1.heap.size)
    (hf : Fr (· ≠ br) W1 w') (hx : RepP (fun k => W1.heap.size ≤ k) w' (d + 1) x v) (hw : wt (d + 1) x ≤ 1024) (hr : RdS w' br t s' op) (hT : VTail d R er x s') : Post w br t op d R (.returned (.tuple #[.agg #[v], er])) (w'.setCell ⟨b, 0, none⟩ u) := by
  have hrd := RdS.setOther hr (p := ⟨b, 0, none⟩) (by simp; omega) u
  have hX : RepP (fun k => w.heap.size ≤ k) (w'.setCell ⟨b, 0, none⟩ u) (d + 1) x v := hx.fr ((Fr.refl _ w').set (by simp; omega) u) (fun k _ hk => by have := hF.size; omega) _ _ _
  refine ⟨v, er, rfl, (hF.trans hf).setNew hb1 u, ?_⟩
  rcases hT with ⟨rfl, rfl⟩ | ⟨c, rfl, rfl⟩
  · exact ⟨rfl, hX, hw, hrd⟩
  · exact ⟨rfl, ⟨x, hX, hw⟩, s', rfl, hrd⟩
end Go.Proofs.YtbogejmmkohbkaaGreatDoor.Sx

namespace Go.Proofs.YtbogejmmkohbkaaGreatDoor.Sx
open Go.RowKit Go.Sort

/-- numbers as the library reads them: how it ends, what became of the world -/
theorem parse_any (m : ByteArray) (w : World) (br : Nat) (hE : Env w br) (hm : m.size ≤ 4000) :
    Calls Tryz.prog 120 #[.string m, .int .i64 10, .int .i64 64] w fun e w' => Below w.heap.size w w' ∧ ((∃ v, Lib.parseIntB 64 m.data.toList = .ok v ∧ e = .returned (.tuple #[.int .i64 v, .nilIface])) ∨ ((∀ v, Lib.parseIntB 64 m.data.toList ≠ .ok v) ∧ ∃ v T p, e = .returned (.tuple #[.int .i64 v, .iface T p]))) := by
  obtain ⟨h1, h2, ⟨ev, h3, h4⟩, h5, ew, h6, h7⟩ := hE
  cases q : Lib.parseIntB 64 m.data.toList with
  | ok v =>
    refine (Tryz.strconv_ParseInt_10_at64_ok m (by omega) v q w).mono ?_
    rintro e w' ⟨rfl, hw⟩
    refine ⟨?_, .inl ⟨v, rfl, rfl⟩⟩
    rcases hw with rfl | ⟨s, rfl⟩
    · exact Below.refl _ _
    · exact Lib.bytesWorld_below _ _ _
  | range =>
    refine (Tryz.strconv_ParseInt_10_at64_range m (by omega) q ev w h3 h4).mono ?_
    rintro e w' ⟨N, rfl, _, _, hb⟩
    exact ⟨hb, .inr ⟨fun v => by simp, _, _, _, rfl⟩⟩
  | _ =>
    refine (Tryz.strconv_ParseInt_10_at64_syntax m (by omega) q ew w h6 h7).mono ?_
    rintro e w' ⟨N, rfl, _, _, hb⟩
    exact ⟨hb, .inr ⟨fun v => by simp, _, _, _, rfl⟩⟩

theorem Env.below {w w' : World} {br : Nat} (h : Env w br) (hb : Below w.heap.size w w') : Env w' br := h.fr (Fr.below hb)

set_option maxRecDepth 100000 in
set_option maxHeartbeats 4000000 in
theorem value_any (d : Nat) (brP : List UInt8 → St → Except (Nat × Nat) (AV (d + 1) × St)) (hB : BrOK d brP) (w : World) (br : Nat) (t : ByteArray) (s : St) (hE : Env w br) (hr : RdS w br t s (24 - d)) (ha : s.at' ≤ s.en) (hk : TokOK s) (hen : s.en ≤ t.size) (ht : t.size ≤ 4000) :
    Calls Tryz.prog 63 #[.pointer (some ⟨br, 0, none⟩)] w (Post w br t (24 - d) d (leafP t.data.toList (brP t.data.toList) s)) := by
  have hl : t.data.toList.length = t.size := by simp
  have hbr := block_lt hr
  obtain ⟨RR, hRR⟩ : ∃ RR, leafP t.data.toList (brP t.data.toList) s = RR := ⟨_, rfl⟩
  rw [hRR]
  have HRR : Hid (leafP t.data.toList (brP t.data.toList) s = RR) := hRR
  clear hRR
  obtain ⟨op, hop⟩ : ∃ op, op = 24 - d := ⟨_, rfl⟩
  rw [← hop] at hr ⊢
  have HA : Hid (∀ W : World, RdS W br t s op → _) := fun (W : World) (h : RdS W br t s op) => advance_st W br t s op h hen ht
  obtain ⟨m, hm⟩ : ∃ m, m = t.extract s.at' s.en := ⟨_, rfl⟩
  have hml : m.data.toList = pieceP t.data.toList s := by rw [hm, extract_list]; rfl
  have hms : m.size = s.en - s.at' := by rw [hm]; simp; omega
  have HML : Hid (m.data.toList = pieceP t.data.toList s) := hml
  have HMS : Hid (m.size = s.en - s.at') := hms
  have hm4 : m.size ≤ 4000 := by omega
  have HNM : Hid (∀ W : World, RdS W br t s op → _) := fun (W : World) (h : RdS W br t s op) => name_any d W br t m s op h hen ht hml
  have HBR : Hid (∀ W : World, Env W br → RdS W br t s op → Calls Tryz.prog 122 #[.pointer (some ⟨br, 0, none⟩), .string m] W (Post W br t op d (brP t.data.toList s))) := fun W e r => by rw [hop] at r ⊢; exact hB W br t m s e r hen ht hml
  have HPI : Hid (∀ W : World, Env W br → _) := fun (W : World) (e : Env W br) => parse_any m W br e (by omega)
  have HKK : Hid (TokOK s) := hk
  have RA : Hid (RdS (w.alloc (.cells #[.nilIface] 23)) br t s op) := hr.of (P := fun _ => True) (Fr.grew ((Grew.refl w).alloc _)) trivial
  have EA : Hid (Env (w.alloc (.cells #[.nilIface] 23)) br) := hE.fr (Fr.grew ((Grew.refl w).alloc _))
  have XA : Hid ((w.alloc (.cells #[.nilIface] 23)).heap[w.heap.size]? = some (.cells #[.nilIface] 23 (0, 0))) := heap_new rfl
  have FA : Hid (Fr (· ≠ br) w (w.alloc (.cells #[.nilIface] 23))) := (Fr.refl _ w).alloc _
  have HM : Hid (t.extract s.at' s.en = m) := hm.symm
  clear hr hE hm hml hk hms
  have mo := follows
  go_enter Tryz.func63, Tryz.ntmps63
  go_wp2_with fail
  generalize w.alloc (.cells #[.nilIface] 23) = wA at RA EA XA FA ⊢
  have hbA := block_lt RA.out
  have g0 := cell_grown (w := wA) (a := ⟨br, 0, none⟩) hbA (block_cell RA.out 0)
  have g1 := cell_grown (w := wA) (a := ⟨br, 1, none⟩) hbA (block_cell RA.out 1)
  have g2 := cell_grown (w := wA) (a := ⟨br, 2, none⟩) hbA (block_cell RA.out 2)
  have ha' : (s.at' : Int) ≤ (s.en : Int) := by omega
  have he' : (s.en : Int) ≤ (t.size : Int) := by omega
  go_quiet_grown (fail)
  clear g0 g1 g2
  have G : Hid (Grew wA (grow (wA.drewN nq) osq)) := ⟨nq, osq, rfl⟩
  rw [HM.out]
  generalize grow (wA.drewN nq) osq = W1 at G ⊢
  clear nq osq
  have R1 : Hid (RdS W1 br t s op) := RA.out.of (P := fun _ => True) (Fr.grew G.out) trivial
  have E1 : Hid (Env W1 br) := EA.out.fr (Fr.grew G.out)
  have X1 : Hid (W1.heap[w.heap.size]? = some (.cells #[.nilIface] 23 (0, 0))) := Below.blockAt G.out.below XA.out
  have F1 : Hid (Fr (· ≠ br) w W1) := FA.out.trans (Fr.grew G.out)
  have hsz1 : w.heap.size < W1.heap.size := block_lt X1.out
  clear RA EA XA FA G
  have c3 := block_cell R1.out 3
  have hne : w.heap.size ≠ br := by omega
  by_cases q1 : s.cl = 1
  · have b1 : ((s.cl : Int) == 1) = true := by simp; omega
    have HC : Hid (Calls Tryz.prog 119 #[.pointer (some ⟨br, 0, none⟩), .string m] W1 _) := HNM.out W1 R1.out
    have hRn := HRR.out
    unfold leafP at hRn
    rw [if_pos q1] at hRn
    rw [hRn] at HC
    clear hRn q1
    go_wp2_with fail
    refine HC.out.mono ?_
    intro e w2 hp
    obtain ⟨v, er, x, s', rfl, hf, hx, hw, hrd, htl⟩ := hp.split
    have k0 := (hf.block _ hsz1 hne).trans X1.out
    have y0 := block_cell k0 0
    have y1 := frozen_block k0 0
    have st := store_one (hx.rep _ _ _).one
    have HFin : Hid (Post w br t op d RR (.returned (.tuple #[.agg #[v], er])) (w2.setCell ⟨w.heap.size, 0, none⟩ v)) := post_box hbr F1.out (Nat.le_refl _) hsz1 hf hx hw hrd htl
    clear hp hf hx hw hrd htl k0 c3
    go_wp2_with fail
    have r0 := World.cell?_setCell_same _ _ v y0
    exact bodyPost_ret (v := .tuple #[.agg #[v], er]) (by simp [results, Tryz.results63, go_sem, r0]) rfl HFin.out
  · have b1 : ((s.cl : Int) == 1) = false := by simp; omega
    by_cases q2 : s.cl = 2
    · have b2 : ((s.cl : Int) == 2) = true := by simp; omega
      have HC : Hid (Calls Tryz.prog 120 #[.string m, .int .i64 10, .int .i64 64] W1 _) := HPI.out W1 E1.out
      have hRn := HRR.out
      unfold leafP at hRn
      rw [if_neg q1, if_pos q2, ← HML.out] at hRn
      have HRN : Hid (_ = RR) := hRn
      clear hRn q1 q2
      go_wp2_with fail
      refine HC.out.mono ?_
      rintro e w2 ⟨hb, ⟨v, hv, rfl⟩ | ⟨hv, v, T, p, rfl⟩⟩
      · have HQ : Hid (RR = .ok ((mkInt v : Node (AV d)), advP t.data.toList s)) := by show _ = _; rw [← HRN.out, hv]
        have R2 : Hid (RdS w2 br t s op) := R1.out.of (P := fun _ => True) (Fr.below hb) trivial
        have X2 : Hid (w2.heap[w.heap.size]? = some (.cells #[.nilIface] 23 (0, 0))) := Below.blockAt hb X1.out
        have F2 : Hid (Fr (· ≠ br) w w2) := F1.out.trans (Fr.below hb)
        have hsz2 : w.heap.size < w2.heap.size := block_lt X2.out
        clear hv hb c3
        go_wp2_with fail
        refine (HA.out w2 R2.out).mono ?_
        rintro e w3 ⟨rfl, hr3, hf3⟩
        have k0 := (hf3.block _ hsz2 hne).trans X2.out
        have y0 := block_cell k0 0
        have y1 := frozen_block k0 0
        have HFin : Hid (Post w br t op d RR (.returned (.tuple #[.agg #[.iface 2 (.int .i64 v)], .nilIface])) (w3.setCell ⟨w.heap.size, 0, none⟩ (.iface 2 (.int .i64 v)))) := by
          rw [HQ.out]
          exact post_box (x := (mkInt v : Node (AV d))) hbr F2.out (Nat.le_refl _) hsz2 hf3 (.inr (.inr (.inl ⟨v, rfl, rfl⟩))) (by show 1 ≤ 1024; omega) hr3 (.inl ⟨rfl, rfl⟩)
        clear hf3 hr3 k0
        go_wp2_with fail
        have r0 := World.cell?_setCell_same _ _ (.iface 2 (.int .i64 v)) y0
        exact bodyPost_ret (v := .tuple #[.agg #[.iface 2 (.int .i64 v)], .nilIface]) (by simp [results, Tryz.results63, go_sem, r0]) rfl HFin.out
      · have HQ : Hid (RR = .error (5, s.at')) := by
          show _ = _
          rw [← HRN.out]
          cases q : Lib.parseIntB 64 m.data.toList with
          | ok v => exact absurd q (hv v)
          | _ => rfl
        have X2 : Hid (w2.heap[w.heap.size]? = some (.cells #[.nilIface] 23 (0, 0))) := Below.blockAt hb X1.out
        have y0 := block_cell X2.out 0
        have y1 := frozen_block X2.out 0
        have HFin : Hid (Post w br t op d RR (.returned (.tuple #[.agg #[.nilIface], .iface 61 (.int .i64 5)])) (w2.setCell ⟨w.heap.size, 0, none⟩ .nilIface)) := by
          rw [HQ.out]
          exact post_box (x := (mkNil : Node (AV d))) hbr F1.out (Nat.le_refl _) hsz1 (Fr.below hb) (.inl ⟨rfl, rfl⟩) (by show 1 ≤ 1024; omega) (R1.out.of (P := fun _ => True) (Fr.below hb) trivial) (.inr ⟨5, rfl, rfl⟩)
        clear hv hb c3
        go_wp2_with fail
        have r0 := World.cell?_setCell_same _ _ .nilIface y0
        exact bodyPost_ret (v := .tuple #[.agg #[.nilIface], .iface 61 (.int .i64 5)]) (by simp [results, Tryz.results63, go_sem, r0]) rfl HFin.out
    · have b2 : ((s.cl : Int) == 2) = false := by simp; omega
      by_cases q3 : s.cl = 3
      · have b3 : ((s.cl : Int) == 3) = true := by simp; omega
        have hk2 : 2 ≤ m.size := by have := HKK.out q3; have := HMS.out; omega
        have hRn : RR = .ok ((mkText (((pieceP t.data.toList s).take ((pieceP t.data.toList s).length - 1)).drop 1) : Node (AV d)), advP t.data.toList s) := by rw [← HRR.out]; unfold leafP; rw [if_neg q1, if_neg q2, if_pos q3]
        have hps : (pieceP t.data.toList s).length = m.size := by rw [← HML.out]; simp
        rw [hps, ← HML.out, ← extract_list] at hRn
        have HRN : Hid (RR = _) := hRn
        have hm1 : (1 : Int) ≤ (m.size : Int) - 1 := by omega
        have hm2 : ((m.size : Int) - 1).toNat = m.size - 1 := by omega
        have HCl : Hid (∀ W : World, _) := fun W => strClone_any (m.extract 1 (m.size - 1)) W (by simp; omega)
        clear hRn q1 q2 q3 hps
        go_wp2_with fail
        refine (HA.out W1 R1.out).mono ?_
        rintro e w2 ⟨rfl, hr2, hf2⟩
        have k0 := (hf2.block _ hsz1 hne).trans X1.out
        have R2 : Hid (RdS w2 br t (advP t.data.toList s) op) := hr2
        have F2 : Hid (Fr (· ≠ br) W1 w2) := hf2
        have X2 : Hid (w2.heap[w.heap.size]? = some (.cells #[.nilIface] 23 (0, 0))) := k0
        have hsz2 : w.heap.size < w2.heap.size := block_lt k0
        clear hr2 hf2 k0 c3
        go_wp2_with fail
        refine (HCl.out w2).mono ?_
        rintro e w3 ⟨rfl, hb3⟩
        have k0 := Below.blockAt hb3 X2.out
        have y0 := block_cell k0 0
        have y1 := frozen_block k0 0
        have HFin : Hid (Post w br t op d RR (.returned (.tuple #[.agg #[.iface 119 (.string (m.extract 1 (m.size - 1)))], .nilIface])) (w3.setCell ⟨w.heap.size, 0, none⟩ (.iface 119 (.string (m.extract 1 (m.size - 1)))))) := by
          rw [HRN.out]
          exact post_box (x := (mkText (m.extract 1 (m.size - 1)).data.toList : Node (AV d))) hbr F1.out (Nat.le_refl _) hsz1 (F2.out.trans (Fr.below hb3)) (.inr (.inr (.inr (.inl ⟨_, rfl, rfl⟩)))) (by show 1 ≤ 1024; omega) (R2.out.of (P := fun _ => True) (Fr.below hb3) trivial) (.inl ⟨rfl, rfl⟩)
        clear hb3 k0
        go_wp2_with fail
        have r0 := World.cell?_setCell_same _ _ (.iface 119 (.string (m.extract 1 (m.size - 1)))) y0
        exact bodyPost_ret (v := .tuple #[.agg #[.iface 119 (.string (m.extract 1 (m.size - 1)))], .nilIface]) (by simp [results, Tryz.results63, go_sem, r0]) rfl HFin.out
      · have b3 : ((s.cl : Int) == 3) = false := by simp; omega
        by_cases q4 : s.cl = 4
        · have b4 : ((s.cl : Int) == 4) = true := by simp; omega
          have HC : Hid (Calls Tryz.prog 122 #[.pointer (some ⟨br, 0, none⟩), .string m] W1 _) := HBR.out W1 E1.out R1.out
          have hRn : RR = brP t.data.toList s := by rw [← HRR.out]; unfold leafP; rw [if_neg q1, if_neg q2, if_neg q3, if_pos q4]
          rw [← hRn] at HC
          clear hRn q1 q2 q3 q4
          go_wp2_with fail
          refine HC.out.mono ?_
          intro e w2 hp
          obtain ⟨v, er, x, s', rfl, hf, hx, hw, hrd, htl⟩ := hp.split
          have k0 := (hf.block _ hsz1 hne).trans X1.out
          have y0 := block_cell k0 0
          have y1 := frozen_block k0 0
          have st := store_one (hx.rep _ _ _).one
          have HFin : Hid (Post w br t op d RR (.returned (.tuple #[.agg #[v], er])) (w2.setCell ⟨w.heap.size, 0, none⟩ v)) := post_box hbr F1.out (Nat.le_refl _) hsz1 hf hx hw hrd htl
          clear hp hf hx hw hrd htl k0 c3
          go_wp2_with fail
          have r0 := World.cell?_setCell_same _ _ v y0
          exact bodyPost_ret (v := .tuple #[.agg #[v], er]) (by simp [results, Tryz.results63, go_sem, r0]) rfl HFin.out
        · have b4 : ((s.cl : Int) == 4) = false := by simp; omega
          have HQ : Hid (RR = .error (1, s.at')) := by show _ = _; rw [← HRR.out]; unfold leafP; rw [if_neg q1, if_neg q2, if_neg q3, if_neg q4]
          have y0 := block_cell X1.out 0
          have y1 := frozen_block X1.out 0
          have HFin : Hid (Post w br t op d RR (.returned (.tuple #[.agg #[.nilIface], .iface 61 (.int .i64 1)])) (W1.setCell ⟨w.heap.size, 0, none⟩ .nilIface)) := by
            rw [HQ.out]
            exact post_box (x := (mkNil : Node (AV d))) hbr F1.out (Nat.le_refl _) hsz1 (Fr.refl _ W1) (.inl ⟨rfl, rfl⟩) (by show 1 ≤ 1024; omega) R1.out (.inr ⟨1, rfl, rfl⟩)
          clear q1 q2 q3 q4
          go_wp2_with fail
          have r0 := World.cell?_setCell_same _ _ .nilIface y0
          exact bodyPost_ret (v := .tuple #[.agg #[.nilIface], .iface 61 (.int .i64 1)]) (by simp [results, Tryz.results63, go_sem, r0]) rfl HFin.out

theorem valOK : ∀ d, d ≤ 24 → ValOK d
  | 0, _ => fun w br t s hE hr ha hk hen ht => value_any 0 _ brOK_zero w br t s hE hr ha hk hen ht
  | d + 1, hd => fun w br t s hE hr ha hk hen ht => value_any (d + 1) _ (brOK_succ d (by omega) (valOK d (by omega))) w br t s hE hr ha hk hen ht
end Go.Proofs.YtbogejmmkohbkaaGreatDoor.Sx

namespace Go.Proofs.YtbogejmmkohbkaaGreatDoor.Sx
open Go.RowKit Go.Sort

def endP (R : Except (Nat × Nat) (AV 25 × St)) : Except (Nat × Nat) (AV 25 × St) :=
  match R with
  | .error e => .error e
  | .ok (x, s') => if s'.cl ≠ 0 then .error (1, s'.at') else .ok (x, s')
def wholeP (T : List UInt8) (s : St) : Except (Nat × Nat) (AV 25 × St) := endP (valueP T 24 (advP T s))

set_option maxRecDepth 100000 in
set_option maxHeartbeats 4000000 in
theorem whole_any (w : World) (br : Nat) (t : ByteArray) (s : St) (hE : Env w br) (hr : RdS w br t s 0) (hen : s.en ≤ t.size) (ht : t.size ≤ 4000) :
    Calls Tryz.prog 26 #[.pointer (some ⟨br, 0, none⟩)] w (Post w br t 0 24 (wholeP t.data.toList s)) := by
  have hl : t.data.toList.length = t.size := by simp
  have hbr := block_lt hr
  obtain ⟨RR, hRR⟩ : ∃ RR, wholeP t.data.toList s = RR := ⟨_, rfl⟩
  rw [hRR]
  unfold wholeP at hRR
  have fa := fwd_adv t.data.toList s (by omega)
  have HA : Hid (∀ W : World, RdS W br t s 0 → _) := fun (W : World) (h : RdS W br t s 0) => advance_st W br t s 0 h hen ht
  have HV : Hid (∀ W : World, Env W br → RdS W br t (advP t.data.toList s) (24 - 24) → _) := fun (W : World) e r => valOK 24 (Nat.le_refl _) W br t (advP t.data.toList s) e r fa.1 (tok_adv _ _) (by have := fa.2.1; omega) ht
  have RA : Hid (RdS (w.alloc (.cells #[.nilIface] 23)) br t s 0) := hr.of (P := fun _ => True) (Fr.grew ((Grew.refl w).alloc _)) trivial
  have EA : Hid (Env (w.alloc (.cells #[.nilIface] 23)) br) := hE.fr (Fr.grew ((Grew.refl w).alloc _))
  have XA : Hid ((w.alloc (.cells #[.nilIface] 23)).heap[w.heap.size]? = some (.cells #[.nilIface] 23 (0, 0))) := heap_new rfl
  have FA : Hid (Fr (· ≠ br) w (w.alloc (.cells #[.nilIface] 23))) := (Fr.refl _ w).alloc _
  generalize hval : valueP t.data.toList 24 (advP t.data.toList s) = R at HV hRR
  have HRR : Hid (endP R = RR) := hRR
  clear hRR hval hr hE fa
  generalize advP t.data.toList s = s1 at HV HA
  have hne : w.heap.size ≠ br := by omega
  go_enter Tryz.func26, Tryz.ntmps26
  go_wp2_with fail
  generalize w.alloc (.cells #[.nilIface] 23) = wA at RA EA XA FA ⊢
  refine (HA.out wA RA.out).mono ?_
  rintro e w1 ⟨rfl, hr1, hf1⟩
  have R1 : Hid (RdS w1 br t s1 (24 - 24)) := hr1
  have E1 : Hid (Env w1 br) := EA.out.fr hf1
  have X1 : Hid (w1.heap[w.heap.size]? = some (.cells #[.nilIface] 23 (0, 0))) := (hf1.block _ (block_lt XA.out) hne).trans XA.out
  have F1 : Hid (Fr (· ≠ br) w w1) := FA.out.trans hf1
  have hsz1 : w.heap.size < w1.heap.size := block_lt X1.out
  clear RA EA XA FA hr1 hf1
  go_wp2_with fail
  refine (HV.out w1 E1.out R1.out).mono ?_
  intro e w2 hp
  obtain ⟨v, er, x, s', rfl, hf, hx, hw, hrd, htl⟩ := hp.split
  have st := store_one (hx.rep _ _ _).one
  have X2 := (hf.block _ hsz1 hne).trans X1.out
  have hsz2 : w.heap.size < w2.heap.size := block_lt X2
  have XB : Hid ((w2.alloc (.cells #[v] 23)).heap[w.heap.size]? = some (.cells #[.nilIface] 23 (0, 0))) := (Below.heap_alloc _ _ _ hsz2).trans X2
  have XC : Hid ((w2.alloc (.cells #[v] 23)).heap[w2.heap.size]? = some (.cells #[v] 23 (0, 0))) := heap_new rfl
  have RB : Hid (RdS (w2.alloc (.cells #[v] 23)) br t s' 0) := hrd.of (P := fun _ => True) (Fr.grew ((Grew.refl w2).alloc _)) trivial
  have FB : Hid (Fr (· ≠ br) w1 (w2.alloc (.cells #[v] 23))) := hf.alloc _
  have XX : Hid (RepP (fun k => w1.heap.size ≤ k) (w2.alloc (.cells #[v] 23)) 25 x v) := hx.keep (Fr.grew ((Grew.refl w2).alloc _))
  have c3 := block_cell RB.out 3
  have y0 := block_cell XB.out 0
  have y1 := frozen_block XB.out 0
  have y2 := block_cell XC.out 0
  have HT : Hid (VTail 24 R er x s') := htl
  have hne2 : w.heap.size ≠ w2.heap.size := by omega
  clear hp hf hx hrd htl X2
  go_upto_region 3 with fail
  clear c3 y0 y1 y2
  generalize w2.alloc (.cells #[v] 23) = WB at XB XC RB FB XX ⊢
  have c3 := block_cell RB.out 3
  have y0 := block_cell XB.out 0
  have y1 := frozen_block XB.out 0
  have y2 := block_cell XC.out 0
  rcases HT.out with ⟨rfl, rfl⟩ | ⟨c, rfl, rfl⟩
  · by_cases q : s'.cl = 0
    · have b1 : ((s'.cl : Int) != 0) = false := by simp; omega
      have HQ : Hid (RR = .ok (x, s')) := by show _ = _; rw [← HRR.out]; simp [endP, q]
      have HFin : Hid (Post w br t 0 24 RR (.returned (.tuple #[.agg #[v], .nilIface])) (WB.setCell ⟨w.heap.size, 0, none⟩ v)) := by
        rw [HQ.out]
        exact post_box hbr F1.out (Nat.le_refl _) hsz1 FB.out XX.out hw RB.out (.inl ⟨rfl, rfl⟩)
      clear q HRR HQ HT
      go_wp2_with fail
      have r0 := World.cell?_setCell_same _ _ v y0
      exact bodyPost_ret (v := .tuple #[.agg #[v], .nilIface]) (by simp [results, Tryz.results26, go_sem, r0]) rfl HFin.out
    · have b1 : ((s'.cl : Int) != 0) = true := by simp; omega
      have HQ : Hid (RR = .error (1, s'.at')) := by show _ = _; rw [← HRR.out]; simp [endP, q]
      have HFin : Hid (Post w br t 0 24 RR (.returned (.tuple #[.agg #[.nilIface], .iface 61 (.int .i64 1)])) (WB.setCell ⟨w.heap.size, 0, none⟩ .nilIface)) := by
        rw [HQ.out]
        exact post_box (x := (mkNil : Node (AV 24))) hbr F1.out (Nat.le_refl _) hsz1 FB.out (.inl ⟨rfl, rfl⟩) (by show 1 ≤ 1024; omega) RB.out (.inr ⟨1, rfl, rfl⟩)
      clear q HRR HQ HT
      go_wp2_with fail
      have r0 := World.cell?_setCell_same _ _ .nilIface y0
      exact bodyPost_ret (v := .tuple #[.agg #[.nilIface], .iface 61 (.int .i64 1)]) (by simp [results, Tryz.results26, go_sem, r0]) rfl HFin.out
  · have HQ : Hid (RR = .error (c, s'.at')) := by show _ = _; rw [← HRR.out]; rfl
    have HFin : Hid (Post w br t 0 24 RR (.returned (.tuple #[.agg #[v], .iface 61 (.int .i64 (c : Int))])) (WB.setCell ⟨w.heap.size, 0, none⟩ v)) := by
      rw [HQ.out]
      exact post_box hbr F1.out (Nat.le_refl _) hsz1 FB.out XX.out hw RB.out (.inr ⟨c, rfl, rfl⟩)
    clear HRR HQ HT
    go_wp2_with fail
    have r0 := World.cell?_setCell_same _ _ v y0
    exact bodyPost_ret (v := .tuple #[.agg #[v], .iface 61 (.int .i64 (c : Int))]) (by simp [results, Tryz.results26, go_sem, r0]) rfl HFin.out

/-- the library's errors lie where they lie -/
def EnvW (w : World) : Prop := 4 < w.heap.size ∧ (∃ ev, w.cell? ⟨4, 0, none⟩ = some ev ∧ (ev = .nilIface ∨ ∃ te pe, ev = .iface te pe)) ∧ ∃ ev, w.cell? ⟨3, 0, none⟩ = some ev ∧ (ev = .nilIface ∨ ∃ te pe, ev = .iface te pe)
theorem EnvW.env {w : World} (h : EnvW w) {br : Nat} (hb : 4 < br) : Env w br := ⟨by omega, h.1, h.2.1, by omega, h.2.2⟩
theorem EnvW.below {w w' : World} (h : EnvW w) (hb : Below w.heap.size w w') : EnvW w' := by
  obtain ⟨h1, ⟨ev, h2, h3⟩, ew, h4, h5⟩ := h
  exact ⟨Nat.lt_of_lt_of_le h1 hb.size, ⟨ev, (hb.cell (p := ⟨4, 0, none⟩) h1).trans h2, h3⟩, ew, (hb.cell (p := ⟨3, 0, none⟩) (by show 3 < _; omega)).trans h4, h5⟩

def ReadPost (w : World) (R : Except (Nat × Nat) (AV 25)) (e : Ending) (w' : World) : Prop :=
  Below w.heap.size w w' ∧ ∃ (v er : Value) (p : Nat), e = .returned (.tuple #[.agg #[v], .int .i64 (p : Int), er]) ∧ ∃ x, RepP (fun k => w.heap.size ≤ k) w' 25 x v ∧ wt 25 x ≤ 1024 ∧
    ((R = .ok x ∧ p = 0 ∧ er = .nilIface) ∨ ∃ c, R = .error (c, p) ∧ x = (mkNil : Node (AV 24)) ∧ er = .iface 61 (.int .i64 (c : Int)))

def doneP (R : Except (Nat × Nat) (AV 25 × St)) : Except (Nat × Nat) (AV 25) :=
  match R with
  | .error e => .error e
  | .ok (x, s') => if s'.hv then .error (6, 0) else .ok x
theorem readP_done (T : List UInt8) (h : ¬ 4000 < T.length) : readP T = doneP (wholeP T ⟨0, 0, 0, false⟩) := by
  unfold readP wholeP
  rw [if_neg h]
  cases valueP T 24 (advP T ⟨0, 0, 0, false⟩) with
  | error e => rfl
  | ok q =>
    obtain ⟨x, s⟩ := q
    by_cases c : s.cl = 0
    · simp [endP, doneP, c]
    · simp [endP, doneP, c]

set_option maxRecDepth 100000 in
set_option maxHeartbeats 4000000 in
theorem read_any (t : ByteArray) (w : World) (hE : EnvW w) (ht : t.size ≤ 9223372036854775806) : Calls Tryz.prog 9 #[.string t] w (ReadPost w (readP t.data.toList)) := by
  have hl : t.data.toList.length = t.size := by simp
  by_cases h0 : 4000 < t.size
  · have HR : Hid (readP t.data.toList = .error (6, 0)) := by show _ = _; unfold readP; rw [if_pos (by omega)]
    rw [HR.out]
    have HB : Hid (Below w.heap.size w (w.alloc (.cells #[.nilIface] 23))) := (Below.refl _ w).alloc (Nat.le_refl _) _
    clear hE hl
    go_enter Tryz.func9, Tryz.ntmps9
    go_wp2_with fail
    exact bodyPost_ret (v := .tuple #[.agg #[.nilIface], .int .i64 0, .iface 61 (.int .i64 6)]) (by simp [results, Tryz.results9, go_sem]) rfl ⟨HB.out, .nilIface, _, 0, rfl, (mkNil : Node (AV 24)), .inl ⟨rfl, rfl⟩, by show 1 ≤ 1024; omega, .inr ⟨6, rfl, rfl, rfl⟩⟩
  · have HRD : Hid (readP t.data.toList = doneP (wholeP t.data.toList ⟨0, 0, 0, false⟩)) := readP_done _ (by omega)
    rw [HRD.out]
    have hsz := hE.1
    obtain ⟨br, hbr⟩ : ∃ b, b = w.heap.size + 1 := ⟨_, rfl⟩
    have hR : RdS ((w.alloc (.cells #[.nilIface] 23)).alloc (.cells #[.string t, .int .i64 0, .int .i64 0, .int .i64 0, .int .i64 0, .bool false] 64)) br t ⟨0, 0, 0, false⟩ 0 := heap_new (by simp [hbr])
    have hEn : Env ((w.alloc (.cells #[.nilIface] 23)).alloc (.cells #[.string t, .int .i64 0, .int .i64 0, .int .i64 0, .int .i64 0, .bool false] 64)) br := (hE.below ((((Grew.refl w).alloc _).alloc _).below)).env (by omega)
    have HW : Hid (Calls Tryz.prog 26 #[.pointer (some ⟨br, 0, none⟩)] ((w.alloc (.cells #[.nilIface] 23)).alloc (.cells #[.string t, .int .i64 0, .int .i64 0, .int .i64 0, .int .i64 0, .bool false] 64)) _) := whole_any _ br t ⟨0, 0, 0, false⟩ hEn hR (by simp) (by omega)
    have XA : Hid (((w.alloc (.cells #[.nilIface] 23)).alloc (.cells #[.string t, .int .i64 0, .int .i64 0, .int .i64 0, .int .i64 0, .bool false] 64)).heap[w.heap.size]? = some (.cells #[.nilIface] 23 (0, 0))) := (Below.heap_alloc _ _ _ (by simp)).trans (heap_new rfl)
    have BA : Hid (Below w.heap.size w ((w.alloc (.cells #[.nilIface] 23)).alloc (.cells #[.string t, .int .i64 0, .int .i64 0, .int .i64 0, .int .i64 0, .bool false] 64))) := (((Grew.refl w).alloc _).alloc _).below
    generalize wholeP t.data.toList ⟨0, 0, 0, false⟩ = R at HW ⊢
    generalize hRR : doneP R = RR
    have HRR : Hid (doneP R = RR) := hRR
    rw [hbr] at HW
    have HBR : Hid (br = w.heap.size + 1) := hbr
    clear hRR hR hEn hE hbr HRD
    have mo := follows
    go_enter Tryz.func9, Tryz.ntmps9
    go_wp2_with fail
    generalize (w.alloc (.cells #[.nilIface] 23)).alloc (.cells #[.string t, .int .i64 0, .int .i64 0, .int .i64 0, .int .i64 0, .bool false] 64) = wA at HW XA BA ⊢
    refine HW.out.mono ?_
    intro e w2 hp
    obtain ⟨v, er, x, s', rfl, hf, hx, hw, hrd, htl⟩ := hp.split
    have st := store_one (hx.rep _ _ _).one
    have hszA : w.heap.size < wA.heap.size := block_lt XA.out
    have X2 := (hf.block _ hszA (by omega)).trans XA.out
    have hsz2 : w.heap.size < w2.heap.size := block_lt X2
    have B2 : Below w.heap.size w w2 := ⟨hf.os.trans BA.out.os, hf.tape.trans BA.out.tape, hf.output.trans BA.out.output, by omega, fun k hk => (hf.block k (by omega) (by omega)).trans (BA.out.block k hk)⟩
    have B3 : Below w.heap.size w (w2.alloc (.cells #[v] 23)) := B2.alloc (by omega) _
    have hbr2 := block_lt hrd
    have RB := hrd.of (P := fun _ => True) (Fr.grew ((Grew.refl w2).alloc (.cells #[v] 23))) trivial
    have XB : Hid ((w2.alloc (.cells #[v] 23)).heap[w.heap.size]? = some (.cells #[.nilIface] 23 (0, 0))) := (Below.heap_alloc _ _ _ hsz2).trans X2
    have XC : Hid ((w2.alloc (.cells #[v] 23)).heap[w2.heap.size]? = some (.cells #[v] 23 (0, 0))) := heap_new rfl
    have XX : Hid (RepP (fun k => w.heap.size ≤ k ∧ k ≠ w.heap.size) (w2.alloc (.cells #[v] 23)) 25 x v) := hx.fr (Fr.grew ((Grew.refl w2).alloc _)) (fun k _ hk => ⟨by omega, by omega⟩) _ _ _
    have BB : Hid (∀ u, Below w.heap.size w ((w2.alloc (.cells #[v] 23)).setCell ⟨w.heap.size, 0, none⟩ u)) := fun u => B3.setCell (Nat.le_refl _) u
    have y0 := block_cell XB.out 0
    have y1 := frozen_block XB.out 0
    have y2 := block_cell XC.out 0
    have z1 := block_cell RB 1
    have z5 := block_cell RB 5
    have hne : w.heap.size + 1 < w2.heap.size := hbr2
    have HT : Hid (VTail 24 R er x s') := htl
    clear hp hf hx hrd htl X2 B2 B3 hbr2
    go_upto_region 5 with fail
    clear y0 y1 y2 z1 z5
    generalize w2.alloc (.cells #[v] 23) = WB at XB XC XX BB RB ⊢
    have y0 := block_cell XB.out 0
    have y1 := frozen_block XB.out 0
    have y2 := block_cell XC.out 0
    have z1 := block_cell RB 1
    have z5 := block_cell RB 5
    have y0' := block_cell ((Fr.refl (fun _ => True) WB).drew.block _ (block_lt XB.out) trivial |>.trans XB.out) 0
    have y1' := frozen_block ((Fr.refl (fun _ => True) WB).drew.block _ (block_lt XB.out) trivial |>.trans XB.out) 0
    have z1' := block_cell ((Fr.refl (fun _ => True) WB).drew.block _ (block_lt RB) trivial |>.trans RB) 1
    clear RB
    rcases HT.out with ⟨rfl, rfl⟩ | ⟨c, rfl, rfl⟩
    · cases hh : s'.hv with
      | false =>
        rw [hh] at z5
        have HQ : Hid (RR = .ok x) := by show _ = _; rw [← HRR.out]; simp [doneP, hh]
        clear hh HRR HT z1 z1'
        have HFin : Hid (ReadPost w RR (.returned (.tuple #[.agg #[v], .int .i64 0, .nilIface])) (WB.setCell ⟨w.heap.size, 0, none⟩ v)) :=
          ⟨BB.out v, v, .nilIface, 0, rfl, x, XX.out.boxed (w := w) v rfl, hw, .inl ⟨HQ.out, rfl, rfl⟩⟩
        go_wp2_with fail
        have r0 := World.cell?_setCell_same _ _ v y0
        exact bodyPost_ret (v := .tuple #[.agg #[v], .int .i64 0, .nilIface]) (by simp [results, Tryz.results9, go_sem, r0]) rfl HFin.out
      | true =>
        rw [hh] at z5
        have HQ : Hid (RR = .error (6, 0)) := by show _ = _; rw [← HRR.out]; simp [doneP, hh]
        clear hh HRR HT z1 z1'
        have HFin : Hid (ReadPost w RR (.returned (.tuple #[.agg #[.nilIface], .int .i64 0, .iface 61 (.int .i64 6)])) (WB.setCell ⟨w.heap.size, 0, none⟩ .nilIface)) :=
          ⟨BB.out _, .nilIface, _, 0, rfl, (mkNil : Node (AV 24)), .inl ⟨rfl, rfl⟩, by show 1 ≤ 1024; omega, .inr ⟨6, HQ.out, rfl, rfl⟩⟩
        go_wp2_with fail
        have r0 := World.cell?_setCell_same _ _ .nilIface y0
        exact bodyPost_ret (v := .tuple #[.agg #[.nilIface], .int .i64 0, .iface 61 (.int .i64 6)]) (by simp [results, Tryz.results9, go_sem, r0]) rfl HFin.out
    · have HQ : Hid (RR = .error (c, s'.at')) := by show _ = _; rw [← HRR.out]; rfl
      clear HRR HT z5
      have HFin : Hid (ReadPost w RR (.returned (.tuple #[.agg #[.nilIface], .int .i64 (s'.at' : Int), .iface 61 (.int .i64 (c : Int))])) (WB.setCell ⟨w.heap.size, 0, none⟩ .nilIface).drew) :=
        ⟨(BB.out _).drew, .nilIface, _, s'.at', rfl, (mkNil : Node (AV 24)), .inl ⟨rfl, rfl⟩, by show 1 ≤ 1024; omega, .inr ⟨c, HQ.out, rfl, rfl⟩⟩
      go_wp2_with fail
      go_region
      all_goals
        clear y1' z1' y0'
        go_wp2_with fail
      have r0 := World.cell?_setCell_same _ _ .nilIface y0
      exact bodyPost_ret (v := .tuple #[.agg #[.nilIface], .int .i64 (s'.at' : Int), .iface 61 (.int .i64 (c : Int))]) (by simp [results, Tryz.results9, go_sem, r0]) rfl HFin.out
end Go.Proofs.YtbogejmmkohbkaaGreatDoor.Sx
