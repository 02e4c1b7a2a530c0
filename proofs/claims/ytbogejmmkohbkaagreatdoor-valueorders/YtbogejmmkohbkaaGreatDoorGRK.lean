/- The reference: the function of pairs: plain. -/
import Derived.Test.YtbogejmmkohbkaaGreatDoorGRI
import Derived.Test.YtbogejmmkohbkaaGreatDoorGQ1
namespace Go.Proofs.YtbogejmmkohbkaaGreatDoor.Sx
open Go.RowKit Go.Sort

def cPr (n : Nat) (a b : AV n × AV n) : Int := cmpV n a.1 b.1
theorem ordPr (n : Nat) : Ord3 (cPr n) := (ord n).pull Prod.fst
structure FunSo (n : Nat) (ps : List (AV n × AV n)) (k : Nat) (acc : List (AV n × AV n)) : Prop where
  asc : Asc (cmpV n) (acc.map Prod.fst)
  find : ∀ z, acc.find? (fun y => cPr n z y == 0) = (ps.take k).find? (fun y => cPr n z y == 0)
  mem : ∀ p ∈ acc, p ∈ ps
  len : acc.length ≤ k
theorem FunSo.start (n : Nat) (ps : List (AV n × AV n)) : FunSo n ps 0 [] := ⟨List.Pairwise.nil, fun z => by simp, fun p h => by simp at h, Nat.le_refl _⟩
theorem isIn_iff {n : Nat} {acc : List (AV n × AV n)} {x : AV n} : isIn n (acc.map Prod.fst) x = true ↔ ∃ p ∈ acc, p.1 = x := by
  unfold isIn
  rw [List.any_eq_true]
  constructor
  · rintro ⟨y, hy, e⟩
    obtain ⟨p, hp, rfl⟩ := List.mem_map.1 hy
    exact ⟨p, hp, (cmpV_eq n _ _).1 (by simpa using e)⟩
  · rintro ⟨p, hp, rfl⟩
    exact ⟨p.1, List.mem_map.2 ⟨p, hp, rfl⟩, by simp [(ord n).self]⟩
theorem FunSo.skip {n : Nat} {ps : List (AV n × AV n)} {k : Nat} {acc : List (AV n × AV n)} {p : AV n × AV n} (h : FunSo n ps k acc) (hp : ps[k]? = some p) (hin : isIn n (acc.map Prod.fst) p.1 = true) : FunSo n ps (k + 1) acc := by
  refine ⟨h.asc, fun z => ?_, h.mem, by have := h.len; omega⟩
  rw [List.take_add_one, hp, List.find?_append, ← h.find z]
  cases hf : acc.find? (fun y => cPr n z y == 0) with
  | some y => rfl
  | none =>
    have hz : (cPr n z p == 0) = false := by
      obtain ⟨q, hq, e⟩ := isIn_iff.1 hin
      have := List.find?_eq_none.1 hf q hq
      simp only [cPr, e] at this ⊢
      simpa using this
    simp [hz]
theorem FunSo.put {n : Nat} {ps : List (AV n × AV n)} {k : Nat} {acc : List (AV n × AV n)} {p : AV n × AV n} (h : FunSo n ps k acc) (hp : ps[k]? = some p) (hin : isIn n (acc.map Prod.fst) p.1 = false) : FunSo n ps (k + 1) (acc.take (posOf n (acc.map Prod.fst) p.1) ++ p :: acc.drop (posOf n (acc.map Prod.fst) p.1)) := by
  have hpl := placed_of (x := p.1) h.asc
  rw [hin] at hpl
  have hle := hpl.le
  rw [List.length_map] at hle
  refine ⟨?_, fun z => ?_, fun q hq => ?_, ?_⟩
  · have := hpl.asc h.asc
    rw [List.map_append, List.map_cons, List.map_take, List.map_drop]
    exact this
  · rw [List.take_add_one, hp, List.find?_append, List.find?_append, ← h.find z, List.find?_cons]
    have hsplit : acc.find? (fun y => cPr n z y == 0) = ((acc.take (posOf n (acc.map Prod.fst) p.1)).find? (fun y => cPr n z y == 0)).or ((acc.drop (posOf n (acc.map Prod.fst) p.1)).find? (fun y => cPr n z y == 0)) := by
      rw [← List.find?_append, List.take_append_drop]
    cases hz : cPr n z p == 0 with
    | true =>
      have hnone : acc.find? (fun y => cPr n z y == 0) = none := by
        rw [List.find?_eq_none]
        intro q hq e
        have hzp : z.1 = p.1 := (cmpV_eq n _ _).1 (by simpa [cPr] using hz)
        have hzq : z.1 = q.1 := (cmpV_eq n _ _).1 (by simpa [cPr] using e)
        have : isIn n (acc.map Prod.fst) p.1 = true := isIn_iff.2 ⟨q, hq, by rw [← hzq, hzp]⟩
        rw [hin] at this; simp at this
      have ht : (acc.take (posOf n (acc.map Prod.fst) p.1)).find? (fun y => cPr n z y == 0) = none := by
        rw [List.find?_eq_none] at hnone ⊢
        exact fun q hq => hnone q (List.mem_of_mem_take hq)
      rw [hnone, ht]
      simp [hz]
    | false =>
      rw [hsplit]
      simp [hz]
  · rcases (mem_put acc p q _).1 hq with rfl | hq
    · exact List.mem_of_getElem? hp
    · exact h.mem q hq
  · rw [put_len _ _ _ hle]; have := h.len; omega
theorem FunSo.done {n : Nat} {ps acc : List (AV n × AV n)} (h : FunSo n ps ps.length acc) : acc = normP (cmpV n) ps := by
  rw [normP_normF]
  refine asc_first (ordPr n) acc _ (List.pairwise_map.1 h.asc) (normF_asc (ordPr n) ps) (fun z => ?_)
  rw [h.find z, List.take_length]
  exact (normF_find (ordPr n) ps z).symm
theorem mkP_light {α : Type} (wta : α → Nat) (l : List (α × α)) : mkP wta l = if 1 + wtL wta (l.map Prod.fst) + wtL wta (l.map Prod.snd) ≤ 1024 then mkFn (l.map Prod.fst) (l.map Prod.snd) else mkNil := by
  unfold mkP mkF
  by_cases h : 1 + wtL wta (l.map Prod.fst) ≤ 1024
  · rw [if_pos h]
  · rw [if_neg h, if_neg (by omega)]
end Go.Proofs.YtbogejmmkohbkaaGreatDoor.Sx

namespace Go.Proofs.YtbogejmmkohbkaaGreatDoor.Sx
open Go.RowKit Go.Sort

/-- two slices own rows of their own; the box that holds them; the box of the result -/
structure Two (w wr : World) (kd : Int) (s1 s2 : Value) (h1 h2 : List H5) : Prop where
  o1 : wr.ownsRow (w.heap.size + 2) 30 5 s1 h1.length (flat5 h1)
  o2 : wr.ownsRow (w.heap.size + 2) 30 5 s2 h2.length (flat5 h2)
  dis : ∀ g, s1.ownBlock = some g → s2.ownBlock ≠ some g
  box : wr.heap[w.heap.size + 1]? = some (.cells #[.int .i64 kd, .int .i64 0, .string ⟨#[]⟩, s1, s2] 30 (0, 0))
  res : wr.heap[w.heap.size]? = some (.cells #[.int .i64 0, .int .i64 0, .string ⟨#[]⟩, .slice none 0 0, .slice none 0 0] 30 (0, 0))
  fr : Fr (fun _ => True) w wr
theorem Two.grew {w wr W : World} {kd : Int} {s1 s2 : Value} {h1 h2 : List H5} (h : Two w wr kd s1 s2 h1 h2) (g : Grew wr W) : Two w W kd s1 s2 h1 h2 :=
  ⟨owns5_of h.o1 (fun k _ hk => g.below.block k hk), owns5_of h.o2 (fun k _ hk => g.below.block k hk), h.dis, Below.blockAt g.below h.box, Below.blockAt g.below h.res, h.fr.trans (Fr.grew g)⟩
theorem fr_cell {w w' : World} (h : Fr (fun _ => True) w w') {b o : Nat} (hb : w.heap.size ≤ b) (u : Value) : Fr (fun _ => True) w (w'.setCell ⟨b, o, none⟩ u) := by
  have h2 : Fr (fun k => k < w.heap.size) w (w'.setCell ⟨b, o, none⟩ u) := (h.mono (fun _ _ => trivial)).set (by simp; omega) _
  exact ⟨h2.os, h2.tape, h2.output, h2.size, fun i hi _ => h2.block i hi hi⟩
/-- the first row was put anew -/
theorem Two.put1 {w W w' : World} {kd : Int} {s1 s2 : Value} {h1 h2 hs : List H5} {g cap L : Nat} (h : Two w W kd s1 s2 h1 h2) (ow : Own5 w' (w.heap.size + 2) g cap hs) (hl : hs.length = L) (fw : Fr (fun k => k < W.heap.size ∧ s1.ownBlock ≠ some k) W w') (hg : s1.ownBlock = some g ∨ W.heap.size ≤ g) :
    w'.heap[w.heap.size + 1]? = some (.cells #[.int .i64 kd, .int .i64 0, .string ⟨#[]⟩, s1, s2] 30 (0, 0)) ∧ Two w (w'.setCell ⟨w.heap.size + 1, 3, none⟩ (.slice (some ⟨g, 0, none⟩) L cap)) kd (.slice (some ⟨g, 0, none⟩) L cap) s2 hs h2 := by
  have hlow := ow.low
  have hzb := block_lt h.box
  have hzr := block_lt h.res
  have hb : w'.heap[w.heap.size + 1]? = some (.cells #[.int .i64 kd, .int .i64 0, .string ⟨#[]⟩, s1, s2] 30 (0, 0)) := (fw.block _ hzb ⟨hzb, fun e => by have := (own5_low h.o1 e).1; omega⟩).trans h.box
  have hr := (fw.block _ hzr ⟨hzr, fun e => by have := (own5_low h.o1 e).1; omega⟩).trans h.res
  have ff : Fr (fun _ => True) w w' := ⟨fw.os.trans h.fr.os, fw.tape.trans h.fr.tape, fw.output.trans h.fr.output, Nat.le_trans h.fr.size fw.size, fun i hi _ => (fw.block i (Nat.lt_of_lt_of_le hi h.fr.size) ⟨Nat.lt_of_lt_of_le hi h.fr.size, fun e => by have := (own5_low h.o1 e).1; omega⟩).trans (h.fr.block i hi trivial)⟩
  refine ⟨hb, ?_, ?_, ?_, set_block hb 3 _, (Below.heap_setCell _ _ _ _ (by simp)).trans hr, fr_cell ff (by omega) _⟩
  · have q := ow.owns
    rw [hl] at q ⊢
    exact owns5_of q (fun q hq _ => Below.heap_setCell _ _ _ _ (by simp; omega))
  · refine ⟨h.o2.1, ?_⟩
    rcases h.o2.2 with q | ⟨g2, c2, cur, e, q1, q2, q3⟩
    · exact .inl q
    · refine .inr ⟨g2, c2, cur, e, q1, ?_, q3⟩
      have hz2 := block_lt q2
      rw [Below.heap_setCell _ _ _ _ (by simp; omega)]
      exact (fw.block g2 hz2 ⟨hz2, fun e' => h.dis g2 e' (by rw [e]; rfl)⟩).trans q2
  · intro k hk
    simp only [Value.ownBlock, Option.some.injEq] at hk
    subst hk
    rcases hg with q | q
    · exact h.dis g q
    · intro e; have := (own5_low h.o2 e).2; omega
/-- the second one -/
theorem Two.put2 {w W w' : World} {kd : Int} {s1 s2 : Value} {h1 h2 hs : List H5} {g cap L : Nat} (h : Two w W kd s1 s2 h1 h2) (ow : Own5 w' (w.heap.size + 2) g cap hs) (hl : hs.length = L) (fw : Fr (fun k => k < W.heap.size ∧ s2.ownBlock ≠ some k) W w') (hg : s2.ownBlock = some g ∨ W.heap.size ≤ g) :
    w'.heap[w.heap.size + 1]? = some (.cells #[.int .i64 kd, .int .i64 0, .string ⟨#[]⟩, s1, s2] 30 (0, 0)) ∧ Two w (w'.setCell ⟨w.heap.size + 1, 4, none⟩ (.slice (some ⟨g, 0, none⟩) L cap)) kd s1 (.slice (some ⟨g, 0, none⟩) L cap) h1 hs := by
  have hlow := ow.low
  have hzb := block_lt h.box
  have hzr := block_lt h.res
  have hb : w'.heap[w.heap.size + 1]? = some (.cells #[.int .i64 kd, .int .i64 0, .string ⟨#[]⟩, s1, s2] 30 (0, 0)) := (fw.block _ hzb ⟨hzb, fun e => by have := (own5_low h.o2 e).1; omega⟩).trans h.box
  have hr := (fw.block _ hzr ⟨hzr, fun e => by have := (own5_low h.o2 e).1; omega⟩).trans h.res
  have ff : Fr (fun _ => True) w w' := ⟨fw.os.trans h.fr.os, fw.tape.trans h.fr.tape, fw.output.trans h.fr.output, Nat.le_trans h.fr.size fw.size, fun i hi _ => (fw.block i (Nat.lt_of_lt_of_le hi h.fr.size) ⟨Nat.lt_of_lt_of_le hi h.fr.size, fun e => by have := (own5_low h.o2 e).1; omega⟩).trans (h.fr.block i hi trivial)⟩
  refine ⟨hb, ?_, ?_, ?_, set_block hb 4 _, (Below.heap_setCell _ _ _ _ (by simp)).trans hr, fr_cell ff (by omega) _⟩
  · refine ⟨h.o1.1, ?_⟩
    rcases h.o1.2 with q | ⟨g2, c2, cur, e, q1, q2, q3⟩
    · exact .inl q
    · refine .inr ⟨g2, c2, cur, e, q1, ?_, q3⟩
      have hz2 := block_lt q2
      rw [Below.heap_setCell _ _ _ _ (by simp; omega)]
      exact (fw.block g2 hz2 ⟨hz2, fun e' => h.dis g2 (by rw [e]; rfl) e'⟩).trans q2
  · have q := ow.owns
    rw [hl] at q ⊢
    exact owns5_of q (fun q hq _ => Below.heap_setCell _ _ _ _ (by simp; omega))
  · intro k hk e
    simp only [Value.ownBlock, Option.some.injEq] at e
    subst e
    rcases hg with q | q
    · exact h.dis g hk q
    · have := (own5_low h.o1 hk).2; omega

set_option maxRecDepth 100000 in
set_option maxHeartbeats 4000000 in
theorem funOf_ref (n : Nat) (P : Nat → Prop) (w : World) (a a' : Option Addr) (len cap cap' : Nat) (ks vs : List (AV n)) (h : Row5 P w (Ref P w n) a len ks) (h' : Row5 P w (Ref P w n) a' len vs) (hl : len ≤ 5000) (hW : ∀ x, x ∈ ks ∨ x ∈ vs → wtR n x = wt n x ∧ wt n x ≤ 1024) :
    Calls Tryz.prog 67 #[.slice a len cap, .slice a' len cap'] w (MadeR (n + 1) P w (mkP (wt n) (normP (cmpV n) (ks.zip vs)) : Node (AV n))) := by
  obtain ⟨e1, b1, r1⟩ := h
  obtain ⟨e2, _, r2⟩ := h'
  have E1 : Hid (len = ks.length) := e1
  have E2 : Hid (len = vs.length) := e2
  clear e1 e2
  have HW : Hid (∀ x, x ∈ ks ∨ x ∈ vs → wtR n x = wt n x ∧ wt n x ≤ 1024) := hW
  clear hW
  have mo := follows
  have T0 : Hid (Two w ((w.alloc (.cells #[.int .i64 0, .int .i64 0, .string ⟨#[]⟩, .slice none 0 0, .slice none 0 0] 30)).alloc (.cells #[.int .i64 6, .int .i64 0, .string ⟨#[]⟩, .slice none 0 0, .slice none 0 0] 30)) 6 (.slice none 0 0) (.slice none 0 0) [] []) :=
    ⟨owns5_nil _ _, owns5_nil _ _, fun g e => by simp [Value.ownBlock] at e, heap_new (by simp), Below.blockAt ((Grew.refl _).alloc _).below (heap_new rfl), Fr.grew (((Grew.refl w).alloc _).alloc _)⟩
  go_enter Tryz.func67, Tryz.ntmps67
  go_wp2_with fail
  generalize World.alloc (World.alloc _ _) _ = W0 at T0 ⊢
  go_loopw [6] (fun s wr => ∃ (k : Nat) (acc : List (AV n × AV n)) (hk hv : List H5) (sk sv : Value), s = .int .i64 k ∧ k ≤ len ∧ Hid (FunSo n (ks.zip vs) k acc) ∧ Hid (Are P w n (acc.map Prod.fst) hk) ∧ Hid (Are P w n (acc.map Prod.snd) hv) ∧ Hid (Two w wr 6 sk sv hk hv)) (fun s _ => len - (intOf s).toNat)
  case atStart => exact ⟨0, [], [], [], _, _, rfl, Nat.zero_le _, FunSo.start n _, ⟨rfl, fun i x h hx => by simp at hx⟩, ⟨rfl, fun i x h hx => by simp at hx⟩, T0⟩
  case round =>
    clear T0
    obtain ⟨k, acc, hs, us, sk, sv, rfl, hk, HS, HA, HU, HT⟩ := hrel
    have hlen : hs.length ≤ 5000 := by have := HS.out.len; have := HA.out.1; rw [List.length_map] at this; omega
    have hulen : us.length ≤ 5000 := by have := HS.out.len; have := HU.out.1; rw [List.length_map] at this; omega
    have zb := block_lt HT.out.box
    by_cases hlt : k < len
    · have hx : k < ks.length := by rw [← E1.out]; exact hlt
      have hy : k < vs.length := by rw [← E2.out]; exact hlt
      have hex : ks[k]? = some ks[k] := List.getElem?_eq_getElem hx
      have hey : vs[k]? = some vs[k] := List.getElem?_eq_getElem hy
      have hez : (ks.zip vs)[k]? = some (ks[k], vs[k]) := by rw [List.getElem?_zip_eq_some]; exact ⟨hex, hey⟩
      obtain ⟨p1, o1, rfl, hp1, hP1, hc1⟩ := r1.resolve_left (by omega)
      obtain ⟨v1, hv1, hr1⟩ := hc1 k ks[k] hex
      obtain ⟨u, rfl⟩ := hr1.ones
      obtain ⟨p2, o2, rfl, hp2, hP2, hc2⟩ := r2.resolve_left (by omega)
      obtain ⟨v2, hv2, hr2⟩ := hc2 k vs[k] hey
      obtain ⟨t, rfl⟩ := hr2.ones
      have hv1' : Five wr p1 (o1 + k * 5) u.v := hv1.fr (HT.out.fr.block p1 hp1 trivial)
      obtain ⟨x0, x1, x2, x3, x4, eu, g0, g1, g2, g3, g4⟩ := hv1'
      obtain ⟨y0, y1, y2, y3, y4, et, _⟩ := hv2
      have HY : Hid (∀ W : World, Fr (fun _ => True) w W → W.cell? ⟨p2, o2 + k * 5, none⟩ = some y0 ∧ W.cell? ⟨p2, o2 + k * 5 + 1, none⟩ = some y1 ∧ W.cell? ⟨p2, o2 + k * 5 + 2, none⟩ = some y2 ∧ W.cell? ⟨p2, o2 + k * 5 + 3, none⟩ = some y3 ∧ W.cell? ⟨p2, o2 + k * 5 + 4, none⟩ = some y4 ∧ p2 < W.heap.size) := by
        intro W hW
        have q := (show Five w p2 (o2 + k * 5) t.v from ⟨y0, y1, y2, y3, y4, et, by assumption⟩).fr (hW.block p2 hp2 trivial)
        obtain ⟨z0, z1, z2, z3, z4, ez, q0, q1, q2, q3, q4⟩ := q
        rw [et] at ez
        simp only [Value.agg.injEq, Array.mk.injEq, List.cons.injEq, and_true] at ez
        obtain ⟨rfl, rfl, rfl, rfl, rfl⟩ := ez
        exact ⟨q0, q1, q2, q3, q4, Nat.lt_of_lt_of_le hp2 hW.size⟩
      have s1 : p1 < wr.heap.size := Nat.lt_of_lt_of_le hp1 HT.out.fr.size
      obtain ⟨sa, sn, sc, rfl, hrow⟩ := row_of_owns HT.out.o1 HA.out (by omega) (HT.out.fr.mono (fun _ _ => trivial))
      have hru : Ref (fun _ => True) wr n ks[k] u.v := hr1.fr (HT.out.fr.mono (fun _ _ => trivial)) (fun _ _ _ => trivial) n ks[k] u.v
      have HPL : Hid (∀ W : World, Grew wr W → Calls Tryz.prog 83 #[.slice sa sn sc, .agg #[x0, x1, x2, x3, x4]] W fun e w' => e = .returned (.tuple #[.int .i64 (posOf n (acc.map Prod.fst) ks[k]), .bool (isIn n (acc.map Prod.fst) ks[k])]) ∧ Grew W w') := fun W hW => by
        rw [← eu]
        exact place_det n (fun _ => True) W sa sn sc _ ks[k] u.v (hrow.grew hW) (hru.grew hW) HS.out.asc ⟨_, _, _, _, _, eu⟩
      have HSK : Hid (isIn n (acc.map Prod.fst) ks[k] = true → FunSo n (ks.zip vs) (k + 1) acc) := HS.out.skip hez
      have HSP : Hid (isIn n (acc.map Prod.fst) ks[k] = false → FunSo n (ks.zip vs) (k + 1) (acc.take (posOf n (acc.map Prod.fst) ks[k]) ++ (ks[k], vs[k]) :: acc.drop (posOf n (acc.map Prod.fst) ks[k]))) := HS.out.put hez
      have hple := (placed_of (x := ks[k]) HS.out.asc).le
      have HAP : Hid (Are P w n ((acc.take (posOf n (acc.map Prod.fst) ks[k]) ++ (ks[k], vs[k]) :: acc.drop (posOf n (acc.map Prod.fst) ks[k])).map Prod.fst) (hs.take (posOf n (acc.map Prod.fst) ks[k]) ++ u :: hs.drop (posOf n (acc.map Prod.fst) ks[k]))) := by
        have q := HA.out.put hr1 _ hple
        rw [List.map_append, List.map_cons, List.map_take, List.map_drop]
        exact q
      have HUP : Hid (Are P w n ((acc.take (posOf n (acc.map Prod.fst) ks[k]) ++ (ks[k], vs[k]) :: acc.drop (posOf n (acc.map Prod.fst) ks[k])).map Prod.snd) (us.take (posOf n (acc.map Prod.fst) ks[k]) ++ t :: us.drop (posOf n (acc.map Prod.fst) ks[k]))) := by
        have q := HU.out.put hr2 (posOf n (acc.map Prod.fst) ks[k]) (by rw [List.length_map] at hple ⊢; exact hple)
        rw [List.map_append, List.map_cons, List.map_take, List.map_drop]
        exact q
      have HAL := HA.out.1
      have HUL := HU.out.1
      rw [List.length_map] at HAL HUL hple
      clear hc1 hc2 hv1 hr1 hr2 r1 r2 hrow hru HS hez hex hey
      generalize posOf n (acc.map Prod.fst) ks[k] = pp at HPL HSP HAP HUP hple
      generalize hb : isIn n (acc.map Prod.fst) ks[k] = bb at HPL HSK HSP
      clear hb
      have i0 := cell_grown (w := wr) (a := ⟨p1, o1 + k * 5, none⟩) s1 g0
      have i1 := cell_grown (w := wr) (a := ⟨p1, o1 + k * 5 + 1, none⟩) s1 g1
      have i2 := cell_grown (w := wr) (a := ⟨p1, o1 + k * 5 + 2, none⟩) s1 g2
      have i3 := cell_grown (w := wr) (a := ⟨p1, o1 + k * 5 + 3, none⟩) s1 g3
      have i4 := cell_grown (w := wr) (a := ⟨p1, o1 + k * 5 + 4, none⟩) s1 g4
      have j3 := cell_grown (w := wr) (a := ⟨w.heap.size + 1, 3, none⟩) zb (block_cell HT.out.box 3)
      clear g0 g1 g2 g3 g4
      go_wp2_with fail
      go_quiet_grown (first | (go_at_call 83; refine Calls.grown_of (HPL.out _ ⟨_, _, rfl⟩)))
      have T1 : Hid (Two w (grow (wr.drewN nq) osq) 6 (.slice sa sn sc) sv hs us) := HT.out.grew ⟨nq, osq, rfl⟩
      have m0 := i0 nq osq
      have m1 := i1 nq osq
      have m2 := i2 nq osq
      have m3 := i3 nq osq
      have m4 := i4 nq osq
      show Exit.then _ _ _ _ (grow (wr.drewN nq) osq)
      clear i0 i1 i2 i3 i4 j3 HPL HT s1 zb
      generalize grow (wr.drewN nq) osq = W1 at T1 m0 m1 m2 m3 m4 ⊢
      clear nq osq
      have zb := block_lt T1.out.box
      cases bb with
      | true =>
        have HSN : Hid (FunSo n (ks.zip vs) (k + 1) acc) := HSK.out rfl
        clear m0 m1 m2 m3 m4
        go_wp2_with fail
        go_roundw
        case rel => exact ⟨k + 1, acc, hs, us, _, _, by go_num, by omega, HSN, HA, HU, T1⟩
        case measure => simp [intOf]; omega
      | false =>
        have HSN : Hid (FunSo n (ks.zip vs) (k + 1) (acc.take pp ++ (ks[k], vs[k]) :: acc.drop pp)) := HSP.out rfl
        have HPU : Hid (∀ W : World, Grew W1 W → Calls Tryz.prog 84 #[.slice sa sn sc, .int .i64 pp, .agg #[x0, x1, x2, x3, x4]] W fun e w' => ∃ g cap, e = .returned (.slice (some ⟨g, 0, none⟩) (hs.length + 1) cap) ∧ Own5 w' (w.heap.size + 2) g cap (hs.take pp ++ u :: hs.drop pp) ∧ Fr (fun k => k < W.heap.size ∧ (Value.slice sa sn sc).ownBlock ≠ some k) W w' ∧ ((Value.slice sa sn sc).ownBlock = some g ∨ W.heap.size ≤ g)) := fun W hW => by
          rw [← eu]
          exact put_all W (w.heap.size + 2) (.slice sa sn sc) hs u pp (by omega) (T1.out.grew hW).o1 (by have := hW.below.size; omega) hlen
        have HPV : Hid (∀ (W : World) (sk : Value) (hk : List H5), Two w W 6 sk sv hk us → Calls Tryz.prog 84 #[sv, .int .i64 pp, .agg #[y0, y1, y2, y3, y4]] W fun e w' => ∃ g cap, e = .returned (.slice (some ⟨g, 0, none⟩) (us.length + 1) cap) ∧ Own5 w' (w.heap.size + 2) g cap (us.take pp ++ t :: us.drop pp) ∧ Fr (fun k => k < W.heap.size ∧ sv.ownBlock ≠ some k) W w' ∧ (sv.ownBlock = some g ∨ W.heap.size ≤ g)) := fun W sk hk hT => by
          rw [← et]
          exact put_all W (w.heap.size + 2) sv us t pp (by omega) hT.o2 (by have := block_lt hT.box; omega) hulen
        have c3 := block_cell T1.out.box 3
        have f3 := frozen_block T1.out.box 3
        have hul1 : (us.take pp ++ t :: us.drop pp).length = acc.length + 1 := (put_len us t pp (by omega)).trans (by omega)
        have hhl1 : (hs.take pp ++ u :: hs.drop pp).length = acc.length + 1 := (put_len hs u pp (by omega)).trans (by omega)
        clear HSK HSP
        go_wp2_with fail
        have c3d : W1.drew.cell? ⟨w.heap.size + 1, 3, none⟩ = some (.slice sa sn sc) := c3
        have d0 : W1.drew.cell? ⟨p1, o1 + k * 5, none⟩ = some x0 := m0
        have d1 : W1.drew.cell? ⟨p1, o1 + k * 5 + 1, none⟩ = some x1 := m1
        have d2 : W1.drew.cell? ⟨p1, o1 + k * 5 + 2, none⟩ = some x2 := m2
        have d3 : W1.drew.cell? ⟨p1, o1 + k * 5 + 3, none⟩ = some x3 := m3
        have d4 : W1.drew.cell? ⟨p1, o1 + k * 5 + 4, none⟩ = some x4 := m4
        have TD : Hid (Two w W1.drew 6 (.slice sa sn sc) sv hs us) := T1.out.grew (Grew.refl W1).drew
        go_region_with (go_at_call 84; refine (HPU.out _ ?_).mono ?_; exact (Grew.refl W1).drew; rintro e w' ⟨g, cap2, rfl, ho, hf, hgg⟩; obtain ⟨qb, qt⟩ := TD.out.put1 ho hhl1 hf hgg; have q5 := block_cell qb 3; have q6 := frozen_block qb 3; have TW : Hid (Two w _ 6 _ sv _ us) := qt; have zw := block_lt qb; clear ho hf hgg qb qt)
        all_goals clear d0 d1 d2 d3 d4 c3d m0 m1 m2 m3 m4 c3 f3 q5 q6 HPU TD T1 zw
        all_goals generalize w'.setCell ⟨w.heap.size + 1, 3, none⟩ (.slice (some ⟨g, 0, none⟩) (acc.length + 1) cap2) = W2 at TW ⊢
        all_goals clear w' zb
        all_goals have zb := block_lt TW.out.box
        all_goals have c4 := block_cell TW.out.box 4
        all_goals have f4 := frozen_block TW.out.box 4
        all_goals obtain ⟨m0, m1, m2, m3, m4, zp⟩ := HY.out W2 TW.out.fr
        all_goals go_wp2_with fail
        all_goals have c4d : W2.drew.cell? ⟨w.heap.size + 1, 4, none⟩ = some sv := c4
        all_goals have d0 : W2.drew.cell? ⟨p2, o2 + k * 5, none⟩ = some y0 := m0
        all_goals have d1 : W2.drew.cell? ⟨p2, o2 + k * 5 + 1, none⟩ = some y1 := m1
        all_goals have d2 : W2.drew.cell? ⟨p2, o2 + k * 5 + 2, none⟩ = some y2 := m2
        all_goals have d3 : W2.drew.cell? ⟨p2, o2 + k * 5 + 3, none⟩ = some y3 := m3
        all_goals have d4 : W2.drew.cell? ⟨p2, o2 + k * 5 + 4, none⟩ = some y4 := m4
        all_goals have TD : Hid (Two w W2.drew 6 (.slice (some ⟨g, 0, none⟩) (acc.length + 1) cap2) sv (hs.take pp ++ u :: hs.drop pp) us) := TW.out.grew (Grew.refl W2).drew
        all_goals go_region_with (go_at_call 84; refine (HPV.out W2.drew _ _ TD.out).mono ?_; rintro e w3 ⟨g3, cap3, rfl, ho, hf, hgg⟩; obtain ⟨qb, qt⟩ := TD.out.put2 ho hul1 hf hgg; have q5 := block_cell qb 4; have q6 := frozen_block qb 4; have TZ : Hid (Two w _ 6 _ _ _ _) := qt; have zw := block_lt qb; clear ho hf hgg qb qt)
        all_goals clear d0 d1 d2 d3 d4 c4d m0 m1 m2 m3 m4 c4 f4 q5 q6 HPV TD TW zw
        all_goals generalize w3.setCell ⟨w.heap.size + 1, 4, none⟩ (.slice (some ⟨g3, 0, none⟩) (acc.length + 1) cap3) = W4 at TZ ⊢
        all_goals go_wp2_with fail
        all_goals go_roundw
        all_goals first | exact ⟨k + 1, _, _, _, _, _, by go_num, by omega, HSN, HAP, HUP, TZ⟩ | (simp [intOf]; omega)
    · have hke : k = len := by omega
      subst k
      have HD : Hid (acc = normP (cmpV n) (ks.zip vs)) := by
        have h := HS.out
        have hz : (ks.zip vs).length = len := by rw [List.length_zip, ← E1.out, ← E2.out]; omega
        rw [← hz] at h
        exact h.done
      obtain ⟨sa, sn, sc, rfl, hrow⟩ := row_of_owns2 (Q := fun k => (k < w.heap.size ∧ P k) ∨ w.heap.size + 2 ≤ k) HT.out.o1 HA.out (by omega) (HT.out.fr.mono (fun _ _ => trivial)) (fun g hg => .inr hg) (fun k hk hp => .inl ⟨hk, hp⟩)
      obtain ⟨ta, tn, tc, rfl, hrow2⟩ := row_of_owns2 (Q := fun k => (k < w.heap.size ∧ P k) ∨ w.heap.size + 2 ≤ k) HT.out.o2 HU.out (by omega) (HT.out.fr.mono (fun _ _ => trivial)) (fun g hg => .inr hg) (fun k hk hp => .inl ⟨hk, hp⟩)
      have hmk : ∀ x ∈ acc.map Prod.fst, wtR n x = wt n x ∧ wt n x ≤ 1024 := fun x hx => by
        obtain ⟨p, hp, rfl⟩ := List.mem_map.1 hx
        have := HS.out.mem p hp
        exact HW.out _ (.inl (List.of_mem_zip (a := p.1) (b := p.2) this).1)
      have hmv : ∀ x ∈ acc.map Prod.snd, wtR n x = wt n x ∧ wt n x ≤ 1024 := fun x hx => by
        obtain ⟨p, hp, rfl⟩ := List.mem_map.1 hx
        have := HS.out.mem p hp
        exact HW.out _ (.inr (List.of_mem_zip (a := p.1) (b := p.2) this).2)
      have hwk : wtL (wtR n) (acc.map Prod.fst) = wtL (wt n) (acc.map Prod.fst) := wtL_congr _ (fun x hx => (hmk x hx).1)
      have hwv : wtL (wtR n) (acc.map Prod.snd) = wtL (wt n) (acc.map Prod.snd) := wtL_congr _ (fun x hx => (hmv x hx).1)
      have hb1 : wtL (wt n) (acc.map Prod.fst) ≤ 1024 * (acc.map Prod.fst).length := wtL_le (wt n) _ (fun x hx => (hmk x hx).2)
      have hb2 : wtL (wt n) (acc.map Prod.snd) ≤ 1024 * (acc.map Prod.snd).length := wtL_le (wt n) _ (fun x hx => (hmv x hx).2)
      rw [List.length_map] at hb1 hb2
      have hal : acc.length ≤ 5000 := by have := HS.out.len; omega
      have hrf : Ref (fun k => (k < w.heap.size ∧ P k) ∨ w.heap.size + 2 ≤ k) wr (n + 1) (mkFn (acc.map Prod.fst) (acc.map Prod.snd) : Node (AV n)) (.agg #[.int .i64 6, .int .i64 0, .string ⟨#[]⟩, .slice sa sn sc, .slice ta tn tc]) := ⟨⟨#[]⟩, sa, sn, sc, ta, tn, tc, rfl, rfl, hrow, hrow2⟩
      have hw2 : wtR (n + 1) (mkFn (acc.map Prod.fst) (acc.map Prod.snd) : Node (AV n)) = 1 + wtL (wt n) (acc.map Prod.fst) + wtL (wt n) (acc.map Prod.snd) := by show 1 + wtL (wtR n) (acc.map Prod.fst) + wtL (wtR n) (acc.map Prod.snd) = _; rw [hwk, hwv]
      have HLI : Hid (∀ W : World, Grew wr W → Calls Tryz.prog 85 #[.agg #[.int .i64 6, .int .i64 0, .string ⟨#[]⟩, .slice sa sn sc, .slice ta tn tc]] W fun e w' => e = .returned (if 1 + wtL (wt n) (acc.map Prod.fst) + wtL (wt n) (acc.map Prod.snd) ≤ 1024 then .agg #[.int .i64 6, .int .i64 0, .string ⟨#[]⟩, .slice sa sn sc, .slice ta tn tc] else nilV5) ∧ Grew W w') := fun W hW => by
        have := rlight_mk n (fun k => (k < w.heap.size ∧ P k) ∨ w.heap.size + 2 ≤ k) W (mkFn (acc.map Prod.fst) (acc.map Prod.snd) : Node (AV n)) _ (hrf.grew hW) (by rw [hw2]; omega)
        rw [hw2] at this
        exact this
      have HRF : Hid (Ref (fun k => (k < w.heap.size ∧ P k) ∨ w.heap.size + 2 ≤ k) wr (n + 1) (mkFn (acc.map Prod.fst) (acc.map Prod.snd) : Node (AV n)) (.agg #[.int .i64 6, .int .i64 0, .string ⟨#[]⟩, .slice sa sn sc, .slice ta tn tc])) := hrf
      have HM : Hid ((mkP (wt n) (normP (cmpV n) (ks.zip vs)) : Node (AV n)) = if 1 + wtL (wt n) (acc.map Prod.fst) + wtL (wt n) (acc.map Prod.snd) ≤ 1024 then mkFn (acc.map Prod.fst) (acc.map Prod.snd) else mkNil) := by show _ = _; rw [← HD.out, mkP_light]
      have a0 := block_cell HT.out.box 0
      have a1 := block_cell HT.out.box 1
      have a2 := block_cell HT.out.box 2
      have a3 := block_cell HT.out.box 3
      have a4 := block_cell HT.out.box 4
      clear hrf hrow hrow2 hmk hmv hwk hwv hb1 hb2 hw2 r1 r2
      generalize 1 + wtL (wt n) (acc.map Prod.fst) + wtL (wt n) (acc.map Prod.snd) = q at HLI HM
      by_cases hq : q ≤ 1024
      · rw [if_pos hq] at HLI HM
        go_wp2_with fail
        refine (HLI.out wr (Grew.refl _)).mono ?_
        rintro e w' ⟨rfl, hg⟩
        have y2 : Hid (_ = _) := Below.blockAt hg.below HT.out.res
        have RF : Hid (Ref (fun k => (k < w.heap.size ∧ P k) ∨ w.heap.size + 2 ≤ k) w' (n + 1) (mkFn (acc.map Prod.fst) (acc.map Prod.snd) : Node (AV n)) _) := HRF.out.grew hg
        have FF : Hid (Fr (fun _ => True) w w') := HT.out.fr.trans (Fr.grew hg)
        clear a0 a1 a2 a3 a4 hg HRF HT
        have b0 := block_cell y2.out 0
        have b1 := block_cell y2.out 1
        have b2 := block_cell y2.out 2
        have b3 := block_cell y2.out 3
        have b4 := block_cell y2.out 4
        have f0 := frozen_block y2.out 0
        have f1 := frozen_block y2.out 1
        have f2 := frozen_block y2.out 2
        have f3 := frozen_block y2.out 3
        have f4 := frozen_block y2.out 4
        have z2 := block_lt y2.out
        go_wp2_with fail
        change bodyPost Tryz.prog _ _ _ _ (set5 w' w.heap.size 0 (.int .i64 6) (.int .i64 0) (.string ⟨#[]⟩) (.slice sa sn sc) (.slice ta tn tc))
        have E := set5_block y2.out (.int .i64 6) (.int .i64 0) (.string ⟨#[]⟩) (.slice sa sn sc) (.slice ta tn tc)
        rw [HM.out]
        have R1 : Ref (fun k => P k ∨ w.heap.size ≤ k) (set5 w' w.heap.size 0 (.int .i64 6) (.int .i64 0) (.string ⟨#[]⟩) (.slice sa sn sc) (.slice ta tn tc)) (n + 1) (mkFn (acc.map Prod.fst) (acc.map Prod.snd) : Node (AV n)) _ := RF.out.fr (set5_fr (Fr.refl _ w') (by omega) _ _ _ _ _ _) (fun k _ hk => hk.elim (fun q => .inl q.2) (fun q => .inr (by omega))) _ _ _
        have R2 := fr_box FF.out (Nat.le_refl _) 0 (.int .i64 6) (.int .i64 0) (.string ⟨#[]⟩) (.slice sa sn sc) (.slice ta tn tc)
        clear b0 b1 b2 b3 b4 f0 f1 f2 f3 f4
        generalize set5 w' w.heap.size 0 (.int .i64 6) (.int .i64 0) (.string ⟨#[]⟩) (.slice sa sn sc) (.slice ta tn tc) = WZ at E R1 R2 ⊢
        have b0 := block_cell E 0
        have b1 := block_cell E 1
        have b2 := block_cell E 2
        have b3 := block_cell E 3
        have b4 := block_cell E 4
        exact bodyPost_ret (v := .agg #[.int .i64 6, .int .i64 0, .string ⟨#[]⟩, .slice sa sn sc, .slice ta tn tc]) (by simp [results, Tryz.results67, go_sem, b0, b1, b2, b3, b4]) rfl ⟨_, rfl, R1, R2⟩
      · rw [if_neg hq] at HLI HM
        unfold nilV5 at HLI
        go_wp2_with fail
        refine (HLI.out wr (Grew.refl _)).mono ?_
        rintro e w' ⟨rfl, hg⟩
        have y2 : Hid (_ = _) := Below.blockAt hg.below HT.out.res
        have FF : Hid (Fr (fun _ => True) w w') := HT.out.fr.trans (Fr.grew hg)
        clear a0 a1 a2 a3 a4 hg HRF HT
        have b0 := block_cell y2.out 0
        have b1 := block_cell y2.out 1
        have b2 := block_cell y2.out 2
        have b3 := block_cell y2.out 3
        have b4 := block_cell y2.out 4
        have f0 := frozen_block y2.out 0
        have f1 := frozen_block y2.out 1
        have f2 := frozen_block y2.out 2
        have f3 := frozen_block y2.out 3
        have f4 := frozen_block y2.out 4
        have z2 := block_lt y2.out
        go_wp2_with fail
        change bodyPost Tryz.prog _ _ _ _ (set5 w' w.heap.size 0 (.int .i64 0) (.int .i64 0) (.string ⟨#[]⟩) (.slice none 0 0) (.slice none 0 0))
        have E := set5_block y2.out (.int .i64 0) (.int .i64 0) (.string ⟨#[]⟩) (.slice none 0 0) (.slice none 0 0)
        rw [HM.out]
        have R2 := fr_box FF.out (Nat.le_refl _) 0 (.int .i64 0) (.int .i64 0) (.string ⟨#[]⟩) (.slice none 0 0) (.slice none 0 0)
        clear b0 b1 b2 b3 b4 f0 f1 f2 f3 f4
        generalize set5 w' w.heap.size 0 (.int .i64 0) (.int .i64 0) (.string ⟨#[]⟩) (.slice none 0 0) (.slice none 0 0) = WZ at E R2 ⊢
        have b0 := block_cell E 0
        have b1 := block_cell E 1
        have b2 := block_cell E 2
        have b3 := block_cell E 3
        have b4 := block_cell E 4
        exact bodyPost_ret (v := nilV5) (by simp [results, Tryz.results67, go_sem, b0, b1, b2, b3, b4, nilV5]) rfl ⟨_, rfl, ref_nil _ _ n, R2⟩
end Go.Proofs.YtbogejmmkohbkaaGreatDoor.Sx
