/- The reference: Sift. -/
import Derived.Test.YtaakjjefnjbabaaGreatQ37
set_option maxRecDepth 100000
namespace Go.Proofs.YtaakjjefnjbabaaGreat.Sx
open Go.RowKit Go.Sort Go.Maps Go.WideMaps
def IBlk (w : World) (g : Nat) (l : List Nat) : Prop := w.heap[g]? = some (.cells (i64C l).toArray 3 (0, 0))
section
variable {w w' : World} {g i x : Nat} {l : List Nat}
theorem IBlk.cell (h : IBlk w g l) (hx : l[i]? = some x) : w.cell? ⟨g, i, none⟩ = some (.int .i64 (x : Int)) := by
 rw [block_cell h]; unfold i64C; simp [hx]
theorem IBlk.frz (h : IBlk w g l) (i : Nat) : w.frozen? ⟨g, i, none⟩ = false := frozen_block h i
theorem IBlk.set (h : IBlk w g l) (i x : Nat) : IBlk (w.setCell ⟨g, i, none⟩ (.int .i64 (x : Int))) g (l.set i x) := by
 have := set_block h i (.int .i64 (x : Int))
 unfold IBlk
 rw [this]
 unfold i64C
 simp [List.map_set]
theorem IBlk.of (h : IBlk w g l) (f : w'.heap[g]? = w.heap[g]?) : IBlk w' g l := f.trans h
end
theorem make_ints (w : World) (N : Nat) (hN : N ≤ 65536) : (Instr.makeSlice 27 (.int .i64 (N : Int)) (.int .i64 (N : Int))).run Tryz.prog w = .ok (.slice (some ⟨w.heap.size, 0, none⟩) N N) (w.alloc (.cells (i64C (List.replicate N 0)).toArray 3)) := by
 obtain ⟨i0, hi0, hz0, hz1, hz2⟩ := infoInt
 have := run_makeSlice (P := Tryz.prog) w 27 3 i0 _ Tryz.underlying27 hi0 hz0 .i64 .i64 (N : Int) (N : Int) (by omega) (by omega) (by rw [hz1]; omega) (by rw [hz2]; omega) (by omega)
 rw [hz1, show ((N : Int)).toNat = N by omega, made_ints] at this
 exact this
def doneL (n : Nat) (d : List Nat) : List Bool := (List.range n).map fun x => decide (x ∈ d)
theorem doneL_at {n : Nat} {d : List Nat} {i : Nat} (h : i < n) : (doneL n d)[i]? = some (decide (i ∈ d)) := by unfold doneL; rw [List.getElem?_map, List.getElem?_range h]; rfl
theorem doneL_set {n : Nat} {d : List Nat} {v : Nat} : (doneL n d).set v true = doneL n (d ++ [v]) := by
 refine List.ext_getElem? fun i => ?_
 by_cases hi : i < n
 · rw [doneL_at hi, List.getElem?_set, doneL_at hi]
   by_cases e : v = i
   · subst e
     have hl : v < (doneL n d).length := by unfold doneL; simpa using hi
     simp [hl]
   · rw [if_neg e]
     congr 1
     exact decide_eq_decide.2 ⟨fun q => List.mem_append.2 (.inl q), fun q => (List.mem_append.1 q).elim id fun q => absurd (List.mem_singleton.1 q).symm e⟩
 · rw [List.getElem?_eq_none (by unfold doneL; simp; omega), List.getElem?_eq_none (by unfold doneL; simp; omega)]
theorem doneL_nil (n : Nat) : doneL n [] = List.replicate n false := by unfold doneL; refine List.ext_getElem (by simp) fun i h1 h2 => by simp
theorem outL_perm {O : List Nat} {n v : Nat} (h : O.Perm (List.range n)) (hv : v < n) : (v :: outL O v).Perm O := by
 have hn : O.Nodup := (h.nodup_iff).2 List.nodup_range
 have hm : v ∈ O := h.mem_iff.2 (List.mem_range.2 hv)
 unfold outL
 refine (List.perm_ext_iff_of_nodup (List.nodup_cons.2 ⟨by simp, hn.filter _⟩) hn).2 fun a => ?_
 rw [List.mem_cons, List.mem_filter]
 by_cases e : a = v
 · subst e; simp [hm]
 · simp [e]
def BestS (f : Nat → Nat) (rest O : List Nat) (v p : Nat) (z : Int) (L : List Nat) : Prop := (p = 0 ∧ z = -1 ∧ L = O) ∨ ∃ q, p = q + 1 ∧ z = ((bestP f q).1 : Int) ∧ L = atL rest v (bestP f q).2
theorem BestS.take {f : Nat → Nat} {rest O L : List Nat} {v p : Nat} {z : Int} (h : BestS f rest O v p z L) (hz : z < 0 ∨ (f p : Int) < z) : BestS f rest O v (p + 1) (f p) (atL rest v p) := by
 refine .inr ⟨p, rfl, ?_⟩
 rcases h with ⟨rfl, _⟩ | ⟨q, rfl, rfl, rfl⟩
 · exact ⟨rfl, rfl⟩
 · have : f (q + 1) < (bestP f q).1 := by omega
   show (f (q + 1) : Int) = ((if _ then _ else _ : Nat × Nat).1 : Int) ∧ atL rest v (q + 1) = atL rest v (if _ then _ else _ : Nat × Nat).2
   rw [if_pos this]
   exact ⟨rfl, rfl⟩
theorem BestS.take2 {f : Nat → Nat} {rest O L : List Nat} {v p s : Nat} {z : Int} (h : BestS f rest O v p z L) (hs : f p = s) (hz : z < 0 ∨ (s : Int) < z) : BestS f rest O v (p + 1) s (atL rest v p) := by
 subst hs
 exact h.take hz
theorem BestS.keep {f : Nat → Nat} {rest O L : List Nat} {v p : Nat} {z : Int} (h : BestS f rest O v p z L) (h0 : ¬ z < 0) (hz : ¬ (f p : Int) < z) : BestS f rest O v (p + 1) z L := by
 rcases h with ⟨rfl, rfl, _⟩ | ⟨q, rfl, rfl, rfl⟩
 · omega
 · refine .inr ⟨q + 1, rfl, ?_⟩
   have : ¬ f (q + 1) < (bestP f q).1 := by omega
   show ((bestP f q).1 : Int) = ((if _ then _ else _ : Nat × Nat).1 : Int) ∧ atL rest v (bestP f q).2 = atL rest v (if _ then _ else _ : Nat × Nat).2
   rw [if_neg this]
   exact ⟨rfl, rfl⟩
theorem BestS.done {sz : List Nat → Nat} {O L : List Nat} {v n : Nat} {z : Int} (h : BestS (fun p => sz (atL (outL O v) v p)) (outL O v) O v n z L) (hn : 0 < n) : L = siftO sz n O v := by
 rcases h with ⟨rfl, _⟩ | ⟨q, rfl, _, rfl⟩
 · omega
 · rfl
def OB (w : World) (vo v : Value) : Prop := ∀ k, v.ownBlock = some k → vo.ownBlock = some k ∨ w.heap.size ≤ k
set_option maxHeartbeats 4000000 in
theorem rSift_any (w : World) (vf vo : Value) (fs : List (List Bool)) (o : List Nat) (n : Nat) (hn : n ≤ 9) (hf : RV w vf fs none) (b0 : Nat) (hb0 : b0 ≤ w.heap.size) (hown : w.ownsRow b0 3 1 vo n (i64C o)) (hop : o.Perm (List.range n)) (hl : ∀ f ∈ fs, f.length = 2 ^ n) (hB : fs.length * 3 ^ n ≤ 549755813888) (sz : List Nat → Nat) (hsz : ∀ o', o'.Perm (List.range n) → ∀ R, AskSt o' fs R.length R → askN o' R = sz o') :
 Calls Tryz.prog 20 #[vf, vo] w fun e w' => ∃ r, e = .returned r ∧ OB w vo r ∧ (∃ R d, AskSt o fs R.length R ∧ d.Perm (List.range n) ∧ d.Pairwise (Rk (askC o R)) ∧ w'.ownsRow b0 3 1 r n (i64C (siftP sz n d o))) ∧ Fr (fun _ => True) w w' := by
 have hon : o.length = n := by rw [hop.length_eq, List.length_range]
 have ho := own_irN hon hown
 have hoa : ∀ a ∈ o, a < n := fun a ha => List.mem_range.1 (hop.mem_iff.1 ha)
 have m1 := make_ints w n (by omega)
 have F01 : Hid (Fr (fun _ => True) w (w.alloc (.cells (i64C (List.replicate n 0)).toArray 3))) := (Fr.refl _ w).alloc _
 have A1 : Hid (IBlk (w.alloc (.cells (i64C (List.replicate n 0)).toArray 3)) w.heap.size (List.replicate n 0)) := heap_new rfl
 have HS1 : Hid ((w.alloc (.cells (i64C (List.replicate n 0)).toArray 3)).heap.size = w.heap.size + 1) := by show Array.size _ = _; simp
 have HA : Hid (Calls _ _ _ _ _) := rAsked_any (w.alloc (.cells (i64C (List.replicate n 0)).toArray 3)) vf vo fs o n hn (hf.fr F01.out) (ho.fr F01.out) (by omega) hoa hl hB
 have HVF : Hid (∀ W, Fr (fun _ => True) w W → RV W vf fs none) := fun W F => hf.fr F
 have HVO : Hid (w.ownsRow b0 3 1 vo n (i64C o)) := hown
 have HOP : Hid (o.Perm (List.range n)) := hop
 have HOA : Hid (∀ a ∈ o, a < n) := hoa
 have HSZ : Hid (∀ o', o'.Perm (List.range n) → ∀ R, AskSt o' fs R.length R → askN o' R = sz o') := hsz
 have HFL : Hid (∀ f ∈ fs, f.length = 2 ^ n) := hl
 have HBD : Hid (∀ o' k R, (∀ a ∈ o', a < n) → AskSt o' fs k R → R.length ≤ 549755813888) := fun o' k R h1 h2 => Nat.le_trans (h2.bound hl h1) hB
 obtain ⟨oa, oc, hov, -⟩ := ho
 have hnl : (nodesI o).length = n := by unfold nodesI; simpa using hon
 rw [hnl] at hov
 subst hov
 have HBB : Hid (fs.length * 3 ^ n ≤ 549755813888) := hB
 have HON : Hid (o.length = n) := hon
 have mo := follows
 clear hf hop hoa hl hB hsz hon hnl hown
 go_enter Tryz.func20, Tryz.ntmps20
 go_wp2_with fail
 clear m1
 generalize w.alloc (.cells (i64C (List.replicate n 0)).toArray 3) = W1 at HA F01 A1 HS1 ⊢
 refine HA.out.mono ?_
 rintro e w2 ⟨r, R, rfl, hA, ⟨_, hQ⟩, hF⟩
 have F12 : Hid (Fr (fun _ => True) W1 w2) := hF
 have F02 : Hid (Fr (fun _ => True) w w2) := F01.out.trans hF
 have HAS : Hid (AskSt o fs R.length R) := hA
 have A2 : Hid (IBlk w2 w.heap.size (List.replicate n 0)) := A1.out.of (hF.block _ (by have := HS1.out; omega) trivial)
 have hrb := HBD.out o _ R HOA.out hA
 obtain ⟨rl, hrl⟩ : ∃ rl, R.length = rl := ⟨_, rfl⟩
 have HRL : Hid (R.length = rl) := hrl
 rw [hrl] at hrb hQ
 obtain ⟨la, lc, hlv, HLC⟩ : ∃ la lc, r = .slice la rl lc ∧ Hid (∀ wr, Fr (fun b => b ≠ w.heap.size) w2 wr → ∀ (j : Nat) f, R[j]? = some f → ∃ g, la = some ⟨g, 0, none⟩ ∧ wr.cell? ⟨g, j, none⟩ = some (.int .i64 (askI o f))) := by
  rcases hQ.2 with ⟨rfl, h0⟩ | ⟨g, cap, cur, rfl, hb, hg, _⟩
  · exact ⟨none, 0, by rw [h0], fun wr _ j f hf => by have := lt_of_at hf; omega⟩
  · refine ⟨_, _, rfl, fun wr F j f hf => ⟨g, rfl, ?_⟩⟩
    have h1 := hQ.cells rfl j (.int .i64 (askI o f)) (by unfold asksV; rw [List.getElem?_map, List.getElem?_map, List.getElem?_take_of_lt (by have := lt_of_at hf; omega), hf]; rfl)
    rw [add0] at h1
    have h2 := HS1.out
    exact (World.cell?_of_block (w := w2) (F.block g (block_lt hg) (by omega))).trans h1
 subst hlv
 clear hF hA hQ hrl HA A1
 go_wp2_with fail
 go_loopg [8] (rl) (fun k s8 wr => ∃ j : Nat, s8 = .int .i64 (j : Int) ∧ j + k = rl ∧ Hid (IBlk wr w.heap.size (cntTo n o R j)) ∧ Hid (Fr (fun b => b ≠ w.heap.size) w2 wr))
 case atStart => exact ⟨0, rfl, by omega, by rw [cntTo_zero]; exact A2.out, Fr.refl _ _⟩
 case round =>
  clear A2
  obtain ⟨j, rfl, hjk, C, F⟩ := hrel
  by_cases hj : j < rl
  · obtain ⟨k, rfl⟩ : ∃ k, gk = k + 1 := ⟨gk - 1, by omega⟩
    have hjl : (j : Int) < (rl : Int) := by omega
    have hj0 : (0 : Int) ≤ (j : Int) := by omega
    obtain ⟨f, hf⟩ : ∃ f, R[j]? = some f := ⟨_, List.getElem?_eq_getElem (by rw [HRL.out]; exact hj)⟩
    obtain ⟨g, rfl, cg⟩ := HLC.out wr F.out j f hf
    cases hfo : firstO o f with
    | none =>
      have hz : askI o f < 0 := by unfold askI; rw [hfo]; decide
      have HS : Hid (cntTo n o R (j + 1) = cntTo n o R j) := cntTo_none hf hfo
      obtain ⟨z, hzz⟩ : ∃ z, askI o f = z := ⟨_, rfl⟩
      rw [hzz] at hz cg
      have hz2 : ¬ (0 : Int) ≤ z := by omega
      clear hfo hzz hf
      go_wp2_with fail
      go_roundg k
      case measure => omega
      case rel => exact ⟨j + 1, by simp, by omega, by rw [HS.out]; exact C.out, F.out⟩
    | some a =>
      have ha : a < n := HOA.out a (firstO_mem hfo)
      have haz : askI o f = (a : Int) := by unfold askI; rw [hfo]; rfl
      rw [haz] at cg
      obtain ⟨c, hc⟩ : ∃ c, askC o (R.take j) a = c := ⟨_, rfl⟩
      have HS : Hid (cntTo n o R (j + 1) = (cntTo n o R j).set a (c + 1)) := by show cntTo n o R (j + 1) = _; rw [cntTo_some hf hfo, hc]
      have hcb := askC_le o R j a
      rw [hc, HRL.out] at hcb
      have ca := C.out.cell (cntTo_at (o := o) (R := R) (j := j) ha)
      rw [hc] at ca
      have za := C.out.frz a
      have hal : (a : Int) < (n : Int) := by omega
      have ha0 : (0 : Int) ≤ (a : Int) := by omega
      have C2 : Hid (IBlk (wr.setCell ⟨w.heap.size, a, none⟩ (.int .i64 ((c + 1 : Nat) : Int))) w.heap.size (cntTo n o R (j + 1))) := by rw [HS.out]; exact C.out.set a (c + 1)
      have F2 : Hid (Fr (fun b => b ≠ w.heap.size) w2 (wr.setCell ⟨w.heap.size, a, none⟩ (.int .i64 ((c + 1 : Nat) : Int)))) := F.out.set (by simp) _
      clear hfo hf haz hc C F HS
      go_wp2_with fail
      go_region
      go_wp2_with fail
      go_roundg k
      case measure => omega
      case rel => exact ⟨j + 1, by simp, by omega, C2.out, F2.out.drew⟩
  · have hjl : ¬ (j : Int) < (rl : Int) := by omega
    obtain rfl : j = rl := by omega
    have C2 : Hid (IBlk wr w.heap.size ((List.range n).map (askC o R))) := by rw [← cntTo_end n o R HRL.out.symm]; exact C.out
    have FW : Hid (Fr (fun _ => True) w wr) := ⟨F.out.os.trans F02.out.os, F.out.tape.trans F02.out.tape, F.out.output.trans F02.out.output, Nat.le_trans F02.out.size F.out.size, fun b hb _ => (F.out.block b (Nat.lt_of_lt_of_le hb F02.out.size) (by omega)).trans (F02.out.block b hb trivial)⟩
    have HAL : Hid (∀ v, (askC o R) v ≤ j) := fun v => by
     have := askC_le o R j v
     rw [List.take_of_length_le (by rw [HRL.out]; exact Nat.le_refl _), HRL.out] at this
     exact this
    obtain ⟨A, hAA⟩ : ∃ A, askC o R = A := ⟨_, rfl⟩
    have HAA : Hid (askC o R = A) := hAA
    rw [hAA] at C2 HAL
    have m2 := make_bools wr n (by omega)
    have B3 : Hid (BBlk (wr.alloc (.cells (Array.replicate n (.bool false)) 4)) wr.heap.size (doneL n [])) := by rw [doneL_nil]; exact BBlk.zero wr n
    have F3 : Hid (Fr (fun _ => True) wr (wr.alloc (.cells (Array.replicate n (.bool false)) 4))) := (Fr.refl _ wr).alloc _
    have hga : w.heap.size < wr.heap.size := by have h1 := HS1.out; have h2 := F12.out.size; have h3 := F.out.size; omega
    clear hAA C F HLC F12 F02 HS1
    go_wp2_with fail
    clear m2
    have G3 : Hid (IBlk (wr.alloc (.cells (Array.replicate n (.bool false)) 4)) w.heap.size ((List.range n).map A)) := C2.out.of (F3.out.block _ hga trivial)
    have FW3 : Hid (Fr (fun _ => True) w (wr.alloc (.cells (Array.replicate n (.bool false)) 4))) := FW.out.trans F3.out
    obtain ⟨gd, hgd⟩ : ∃ gd, wr.heap.size = gd := ⟨_, rfl⟩
    rw [hgd] at B3 hga ⊢
    generalize wr.alloc (.cells (Array.replicate n (.bool false)) 4) = W3 at *
    clear hgd F3 FW C2
    go_loopg [1, 10] (n) (fun k s1 s10 wr => ∃ (i : Nat) (d : List Nat) (a1 : Option Addr) (c1 : Nat), s10 = .int .i64 (i : Int) ∧ s1 = .slice a1 n c1 ∧ i + k = n ∧ Hid (d.length = i) ∧ Hid (PickS A n d) ∧ Hid (IBlk wr w.heap.size ((List.range n).map A)) ∧ Hid (BBlk wr gd (doneL n d)) ∧ Hid (wr.ownsRow b0 3 1 (.slice a1 n c1) n (i64C (siftP sz n d o))) ∧ Hid ((siftP sz n d o).Perm (List.range n)) ∧ Hid (Fr (fun _ => True) w wr) ∧ Hid (OB w (.slice oa n oc) (.slice a1 n c1)))
    case atStart => exact ⟨0, [], oa, oc, rfl, rfl, by omega, rfl, PickS.nil _ _, G3.out, B3.out, own_fr HVO.out FW3.out fun _ _ => trivial, HOP.out, FW3.out, fun k hk => .inl hk⟩
    case round =>
     clear G3 B3 FW3
     obtain ⟨i, d, a1, c1, rfl, rfl, hik, DL, PS, G, B, I, OP, F, OB1⟩ := hrel
     by_cases hi : i < n
     · obtain ⟨k, rfl⟩ : ∃ k, gk = k + 1 := ⟨gk - 1, by omega⟩
       have hil : (i : Int) < (n : Int) := by omega
       go_wp2_with fail
       go_loopg [11, 12] (n) (fun k2 s11 s12 wr2 => ∃ q : Nat, s12 = .int .i64 (q : Int) ∧ s11 = .int .i64 (optI (pickV A d q)) ∧ q + k2 = n ∧ ∃ m, wr2 = wr.drewN m)
       case atStart => exact ⟨0, rfl, rfl, by omega, 0, rfl⟩
       case round =>
        obtain ⟨q, rfl, rfl, hqk, m, rfl⟩ := hrel
        by_cases hq : q < n
        · obtain ⟨k2, rfl⟩ : ∃ k2, gk = k2 + 1 := ⟨gk - 1, by omega⟩
          have hql : (q : Int) < (n : Int) := by omega
          have hq0 : (0 : Int) ≤ (q : Int) := by omega
          obtain ⟨s1, s2, s3, s4⟩ := pickV_step (A := A) (d := d) (i := q)
          have HG : Hid (∀ v, v < n → (wr.drewN m).cell? ⟨w.heap.size, v, none⟩ = some (.int .i64 (A v : Int))) := fun v hv => G.out.cell (by rw [List.getElem?_map, List.getElem?_range hv]; rfl)
          have cd : (wr.drewN m).cell? ⟨gd, q, none⟩ = some (.bool (decide (q ∈ d))) := B.out.cell (doneL_at hq)
          obtain ⟨W2, hW2⟩ : ∃ W2, wr.drewN m = W2 := ⟨_, rfl⟩
          have HW : Hid (wr.drewN m = W2) := hW2
          rw [hW2] at cd HG ⊢
          clear hW2
          have cq := HG.out q hq
          have haq := HAL.out q
          by_cases hd : q ∈ d
          · rw [decide_eq_true hd] at cd
            have HS : Hid (pickV A d (q + 1) = pickV A d q) := s1 hd
            clear s1 s2 s3 s4 hd
            obtain ⟨z, hz⟩ : ∃ z, optI (pickV A d q) = z := ⟨_, rfl⟩
            have HZ : Hid (optI (pickV A d q) = z) := hz
            rw [hz]
            clear hz
            go_wp2_with fail
            go_quiet (fail)
            go_wp2_with fail
            go_roundg k2
            case measure => omega
            case rel => exact ⟨q + 1, by simp, by rw [HS.out, HZ.out], by omega, _, by rw [← HW.out]; exact drewN2 _ _ _⟩
          · rw [decide_eq_false hd] at cd
            cases hp : pickV A d q with
            | none =>
              have HS : Hid (pickV A d (q + 1) = some q) := s2 hd hp
              obtain ⟨z, hz⟩ : ∃ z, optI none = z := ⟨_, rfl⟩
              have hzn : z < 0 := by rw [← hz]; decide
              rw [hz]
              clear s1 s2 s3 s4 hd hp hz
              go_wp2_with fail
              go_quiet (fail)
              go_wp2_with fail
              go_roundg k2
              case measure => omega
              case rel => exact ⟨q + 1, by simp, by rw [HS.out]; rfl, by omega, _, by rw [← HW.out]; exact drewN2 _ _ _⟩
            | some v =>
              obtain ⟨hv, _, _⟩ := pickV_some hp
              have cv := HG.out v (by omega)
              have hav := HAL.out v
              have hvn : (v : Int) < (n : Int) := by omega
              have hv0 : (0 : Int) ≤ (v : Int) := by omega
              have hvd : decide ((v : Int) < 0) = false := decide_eq_false (by omega)
              have hvo : optI (some v) = (v : Int) := rfl
              rw [hvo]
              obtain ⟨x, hx⟩ : ∃ x, A q = x := ⟨_, rfl⟩
              obtain ⟨y, hy⟩ : ∃ y, A v = y := ⟨_, rfl⟩
              rw [hx] at cq haq s3 s4
              rw [hy] at cv hav
              by_cases hxy : y < x
              · have HS : Hid (pickV A d (q + 1) = some q) := s3 v hd hp (by omega)
                have hxy1 : (x : Int) > (y : Int) := by omega
                clear s1 s2 s3 s4 hd hp hvo hx hy
                go_wp2_with fail
                go_quiet (fail)
                go_wp2_with fail
                go_roundg k2
                case measure => omega
                case rel => exact ⟨q + 1, by simp, by rw [HS.out]; rfl, by omega, _, by rw [← HW.out]; exact drewN2 _ _ _⟩
              · have HS : Hid (pickV A d (q + 1) = some v) := s4 v hd hp (by omega)
                have hxy1 : ¬ (x : Int) > (y : Int) := by omega
                clear s1 s2 s3 s4 hd hp hvo hx hy
                go_wp2_with fail
                go_quiet (fail)
                go_wp2_with fail
                go_roundg k2
                case measure => omega
                case rel => exact ⟨q + 1, by simp, by rw [HS.out]; rfl, by omega, _, by rw [← HW.out]; exact drewN2 _ _ _⟩
        · have hql : ¬ (q : Int) < (n : Int) := by omega
          obtain rfl : q = n := by omega
          obtain ⟨v, hv⟩ := PS.out.ex (by rw [DL.out]; exact hi)
          have hvn := (pickV_some hv).1
          have hvo : optI (some v) = (v : Int) := rfl
          rw [hv, hvo]
          have PS2 : Hid (PickS A q (d ++ [v])) := PS.out.push hv
          have hvl : (v : Int) < (q : Int) := by omega
          have hv0 : (0 : Int) ≤ (v : Int) := by omega
          have B0 : Hid (BBlk (wr.drewN m) gd (doneL q d)) := B.out
          have G0 : Hid (IBlk (wr.drewN m) w.heap.size ((List.range q).map A)) := G.out
          have I0 : Hid ((wr.drewN m).ownsRow b0 3 1 (.slice a1 q c1) q (i64C (siftP sz q d o))) := I.out
          have F0 : Hid (Fr (fun _ => True) w (wr.drewN m)) := ⟨F.out.os, F.out.tape, F.out.output, F.out.size, F.out.block⟩
          obtain ⟨W2, hW2⟩ : ∃ W2, wr.drewN m = W2 := ⟨_, rfl⟩
          rw [hW2] at B0 G0 I0 F0 ⊢
          have cd := B0.out.cell (doneL_at hvn)
          have zd := B0.out.frz v
          have B1 : Hid (BBlk (W2.setCell ⟨gd, v, none⟩ (.bool true)) gd (doneL q (d ++ [v]))) := by rw [← doneL_set]; exact B0.out.set v true
          have FS : Hid (Fr (fun b => b ≠ gd) W2 (W2.setCell ⟨gd, v, none⟩ (.bool true))) := (Fr.refl _ W2).set (by simp) _
          have G1 : Hid (IBlk (W2.setCell ⟨gd, v, none⟩ (.bool true)) w.heap.size ((List.range q).map A)) := G0.out.of (FS.out.block _ (block_lt G0.out) (by omega))
          have I1 : Hid ((W2.setCell ⟨gd, v, none⟩ (.bool true)).ownsRow b0 3 1 (.slice a1 q c1) q (i64C (siftP sz q d o))) := own_fr I0.out FS.out fun k hk e => own_bool I0.out (by decide) gd (block_lt B0.out) ⟨_, _, B0.out⟩ (by rw [← e]; exact hk.symm)
          have F1 : Hid (Fr (fun _ => True) w (W2.setCell ⟨gd, v, none⟩ (.bool true))) := ⟨FS.out.os.trans F0.out.os, FS.out.tape.trans F0.out.tape, FS.out.output.trans F0.out.output, Nat.le_trans F0.out.size FS.out.size, fun b hb _ => (FS.out.block b (Nat.lt_of_lt_of_le hb F0.out.size) (by omega)).trans (F0.out.block b hb trivial)⟩
          have hgd2 : gd < (W2.setCell ⟨gd, v, none⟩ (.bool true)).heap.size := block_lt B1.out
          clear hW2 B0 G0 I0 F0 FS B G I F hv hvo PS
          obtain ⟨O, hO⟩ : ∃ O, siftP sz q d o = O := ⟨_, rfl⟩
          have HO : Hid (siftP sz q d o = O) := hO
          rw [hO] at I1 OP
          clear hO
          have HOQ : Hid (O.length = q) := by show O.length = q; rw [OP.out.length_eq, List.length_range]
          have hol2 : O.length ≤ 65536 := by rw [OP.out.length_eq, List.length_range]; omega
          have HWo : Hid (∀ W, IR W (.slice a1 q c1) (nodesI O) → Calls Tryz.prog 55 #[.slice a1 q c1, .int .i64 (v : Int)] W fun e w' => ∃ r, e = .returned r ∧ w'.ownsRow W.heap.size 3 1 r (outL O v).length (i64C (outL O v)) ∧ Fr (fun _ => True) W w') := fun W h => rWithout_any W _ O v h hol2
          have hrl1 : (outL O v).length + 1 = q := by
           have h1 := (outL_perm OP.out hvn).length_eq
           rw [List.length_cons, OP.out.length_eq, List.length_range] at h1
           exact h1
          have HPM : Hid (∀ p, (atL (outL O v) v p).Perm (List.range q)) := fun p => (atL_perm _ v p).trans ((outL_perm OP.out hvn).trans OP.out)
          obtain ⟨rest, hrest⟩ : ∃ rest, outL O v = rest := ⟨_, rfl⟩
          have HREST : Hid (outL O v = rest) := hrest
          rw [hrest] at HWo hrl1 HPM
          obtain ⟨ff, hff⟩ : ∃ ff : Nat → Nat, ff = fun p => sz (atL rest v p) := ⟨_, rfl⟩
          have HFF : Hid (ff = fun p => sz (atL rest v p)) := hff
          clear hrest hff hol2
          generalize hW3 : W2.setCell ⟨gd, v, none⟩ (.bool true) = W3' at B1 G1 I1 F1 hgd2
          have HC : Hid (Calls _ _ _ _ _) := HWo.out W3' (own_irN HOQ.out I1.out)
          have HW3 : Hid (W2.setCell ⟨gd, v, none⟩ (.bool true) = W3') := hW3
          clear hW3
          go_wp2_with fail
          rw [HW3.out]
          refine HC.out.mono ?_
          rintro e w4 ⟨vr, rfl, hvr, hf4⟩
          have F34 : Hid (Fr (fun _ => True) W3' w4) := hf4
          have F4 : Hid (Fr (fun _ => True) w w4) := F1.out.trans hf4
          have B4 : Hid (BBlk w4 gd (doneL q (d ++ [v]))) := B1.out.of (hf4.block _ (block_lt B1.out) trivial)
          have G4 : Hid (IBlk w4 w.heap.size ((List.range q).map A)) := G1.out.of (hf4.block _ (block_lt G1.out) trivial)
          have I4 : Hid (w4.ownsRow b0 3 1 (.slice a1 q c1) q (i64C O)) := own_fr I1.out hf4 fun _ _ => trivial
          have QR : Hid (w4.ownsRow W3'.heap.size 3 1 vr rest.length (i64C rest)) := hvr
          clear hvr hf4 B1 G1 I1 F1 HC HWo HW3 cd zd
          go_wp2_with fail
          go_loopg [1, 14, 15] (q) (fun k2 s1 s14 s15 wr2 => ∃ (p : Nat) (z : Int) (L : List Nat) (a : Option Addr) (c : Nat), s15 = .int .i64 (p : Int) ∧ s14 = .int .i64 z ∧ s1 = .slice a q c ∧ p + k2 = q ∧ Hid (BestS ff rest O v p z L) ∧ -1 ≤ z ∧ z ≤ 549755813888 ∧ Hid (wr2.ownsRow b0 3 1 (.slice a q c) q (i64C L)) ∧ Hid (Fr (fun _ => True) w4 wr2) ∧ Hid (OB w (.slice oa q oc) (.slice a q c)))
          case atStart => exact ⟨0, -1, O, a1, c1, rfl, rfl, rfl, by omega, .inl ⟨rfl, rfl, rfl⟩, by omega, by omega, I4.out, Fr.refl _ _, OB1.out⟩
          case round =>
           clear I4 OB1
           obtain ⟨p, z, L, a, c, rfl, rfl, rfl, hpk, BS, hz1', hz2', I, F, OB1⟩ := hrel
           by_cases hp : p < q
           · obtain ⟨k2, rfl⟩ : ∃ k2, gk = k2 + 1 := ⟨gk - 1, by omega⟩
             have hpl : (p : Int) < (q : Int) := by omega
             have HAt : Hid (Calls _ _ _ _ _) := rAt_any wr W3'.heap.size vr rest v p (own_fr QR.out F.out fun _ _ => trivial) (by omega) (by omega)
             have HSi : Hid (∀ W r5, Fr (fun _ => True) w W → IR W r5 (nodesI (atL rest v p)) → Calls Tryz.prog 23 #[vf, r5] W fun e w' => ∃ R, e = .returned (.int .i64 (askN (atL rest v p) R : Int)) ∧ AskSt (atL rest v p) fs R.length R ∧ Fr (fun _ => True) W w') := fun W r5 hF hI => rSize_any W vf r5 fs (atL rest v p) q hn (HVF.out W hF) hI (by rw [(HPM.out p).length_eq, List.length_range]; omega) (fun a ha => List.mem_range.1 ((HPM.out p).mem_iff.1 ha)) HFL.out HBB.out
             go_wp2_with fail
             refine HAt.out.mono ?_
             rintro e w5 ⟨r5, rfl, hi5, hf5⟩
             have F45 : Hid (Fr (fun _ => True) w4 w5) := F.out.trans hf5
             rw [hrl1] at hi5
             have hlen5 : (atL rest v p).length = q := by rw [(HPM.out p).length_eq, List.length_range]
             have HS5 : Hid (Calls _ _ _ _ _) := HSi.out w5 r5 (F4.out.trans F45.out) (own_irN hlen5 hi5)
             have hbb5 : b0 ≤ wr.heap.size := Nat.le_trans hb0 (Nat.le_trans F4.out.size F.out.size)
             have I5 : Hid (w5.ownsRow b0 3 1 r5 q (i64C (atL rest v p))) := by
              refine ⟨hi5.1, ?_⟩
              rcases hi5.2 with h | ⟨g, cap, cur, e1, hg, h⟩
              · exact .inl h
              · exact .inr ⟨g, cap, cur, e1, by omega, h⟩
             have OB5 : Hid (OB w (.slice oa q oc) r5) := fun k hk => .inr (Nat.le_trans (Nat.le_trans F4.out.size F.out.size) (hi5.lt k hk).1)
             have J5 : Hid (w5.ownsRow b0 3 1 (.slice a q c) q (i64C L)) := own_fr I.out hf5 fun _ _ => trivial
             obtain ⟨a5, c5, hr5⟩ : ∃ a5 c5, r5 = .slice a5 q c5 := by
              rcases hi5.2 with ⟨h, h0⟩ | ⟨g, cap, cur, e1, _⟩
              · omega
              · exact ⟨_, _, e1⟩
             subst hr5
             clear hf5 hlen5 HAt HSi I F hi5 hbb5
             go_wp2_with fail
             refine HS5.out.mono ?_
             rintro e w6 ⟨R6, rfl, hA6, hF6⟩
             have hs6 := HSZ.out _ (HPM.out p) R6 hA6
             have hs7 : askN (atL rest v p) R6 ≤ 549755813888 := Nat.le_trans List.countP_le_length (HBD.out (atL rest v p) _ R6 (fun a ha => List.mem_range.1 ((HPM.out p).mem_iff.1 ha)) hA6)
             obtain ⟨s, hs⟩ : ∃ s, askN (atL rest v p) R6 = s := ⟨_, rfl⟩
             rw [hs] at hs6 hs7 ⊢
             have FP : Hid (ff p = s) := by show ff p = s; rw [HFF.out]; exact hs6.symm
             have F6 : Hid (Fr (fun _ => True) w4 w6) := F45.out.trans hF6
             have I6 : Hid (w6.ownsRow b0 3 1 (.slice a5 q c5) q (i64C (atL rest v p))) := own_fr I5.out hF6 fun _ _ => trivial
             have J6 : Hid (w6.ownsRow b0 3 1 (.slice a q c) q (i64C L)) := own_fr J5.out hF6 fun _ _ => trivial
             clear hA6 hF6 hs6 hs F45 HS5 J5
             by_cases hz : z < 0
             · have BT : Hid (BestS ff rest O v (p + 1) (s : Int) (atL rest v p)) := BS.out.take2 FP.out (by omega)
               clear BS I5
               go_wp2_with fail
               go_roundg k2
               case measure => omega
               case rel => exact ⟨p + 1, (s : Int), _, _, _, by simp, rfl, rfl, by omega, BT.out, by omega, by omega, I6.out, F6.out, OB5.out⟩
             · by_cases hsz : (s : Int) < z
               · have BT : Hid (BestS ff rest O v (p + 1) (s : Int) (atL rest v p)) := BS.out.take2 FP.out (by omega)
                 clear BS I5
                 go_wp2_with fail
                 go_roundg k2
                 case measure => omega
                 case rel => exact ⟨p + 1, (s : Int), _, _, _, by simp, rfl, rfl, by omega, BT.out, by omega, by omega, I6.out, F6.out, OB5.out⟩
               · have BT : Hid (BestS ff rest O v (p + 1) z L) := BS.out.keep (by omega) (by rw [FP.out]; omega)
                 clear BS I5
                 go_wp2_with fail
                 go_roundg k2
                 case measure => omega
                 case rel => exact ⟨p + 1, z, L, _, _, by simp, rfl, rfl, by omega, BT.out, by omega, by omega, J6.out, F6.out, OB1.out⟩
           · have hpl : ¬ (p : Int) < (q : Int) := by omega
             obtain rfl : p = q := by omega
             have HL : Hid (L = siftP sz p (d ++ [v]) o) := by
              have h := BS.out
              rw [HFF.out, ← HREST.out] at h
              rw [h.done (by omega), siftP_push, HO.out]
              rfl
             have I7 : Hid (wr.ownsRow b0 3 1 (.slice a p c) p (i64C (siftP sz p (d ++ [v]) o))) := by rw [← HL.out]; exact I.out
             have B7 : Hid (BBlk wr gd (doneL p (d ++ [v]))) := B4.out.of (F.out.block _ (block_lt B4.out) trivial)
             have G7 : Hid (IBlk wr w.heap.size ((List.range p).map A)) := G4.out.of (F.out.block _ (block_lt G4.out) trivial)
             have F7 : Hid (Fr (fun _ => True) w wr) := F4.out.trans F.out
             have P7 : Hid ((siftP sz p (d ++ [v]) o).Perm (List.range p)) := by
              have h := BS.out
              rcases h with ⟨h0, _⟩ | ⟨q', _, _, h3⟩
              · omega
              · rw [← HL.out, h3]; exact HPM.out _
             have DL7 : Hid ((d ++ [v]).length = i + 1) := by rw [List.length_append, DL.out]; rfl
             clear BS I F HL B4 G4 F4 F34 QR
             go_wp2_with fail
             go_roundg k
             case measure => omega
             case rel => exact ⟨i + 1, d ++ [v], _, _, by simp, rfl, by omega, DL7.out, PS2.out, G7.out, B7.out, I7.out, P7.out, F7.out, OB1.out⟩
     · have hil : ¬ (i : Int) < (n : Int) := by omega
       obtain rfl : i = n := by omega
       have HR : Hid (d.Perm (List.range i) ∧ d.Pairwise (Rk A)) := ⟨PS.out.perm DL.out, PS.out.rk⟩
       go_wp2_with fail
       go_ret
       exact ⟨_, rfl, OB1.out, ⟨R, HAS.out, d, HR.out.1, by rw [HAA.out]; exact HR.out.2, I.out⟩, F.out⟩
end Go.Proofs.YtaakjjefnjbabaaGreat.Sx
