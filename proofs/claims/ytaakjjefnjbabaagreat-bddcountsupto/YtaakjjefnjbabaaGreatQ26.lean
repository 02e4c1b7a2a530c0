/- A new table: empty, New. -/
import Derived.Test.YtaakjjefnjbabaaGreatQ25
set_option maxRecDepth 100000
namespace Go.Proofs.YtaakjjefnjbabaaGreat.Sx
open Go.RowKit Go.Sort Go.Maps Go.WideMaps
def Tb0 (n : Nat) : Tb := ⟨List.range n, List.range (n + 1), bareR n 1, [], [], [], []⟩
theorem made_ints (m : Nat) : madeCells (Value.int .i64 0).cells (m * 1) = (i64C (List.replicate m 0)).toArray := by
 apply Array.ext
 · rw [size_madeCells, List.size_toArray]; simp [i64C]
 · intro i h1 h2
   have hz : (Value.int .i64 0).cells.size = 1 := rfl
   simp only [madeCells, Array.getElem_map, hz, List.getElem_toArray, Nat.mod_one]
   unfold i64C
   rw [List.getElem_map, List.getElem_replicate]
   rfl
def lvI (n i : Nat) : List Nat := List.range i ++ List.replicate (n + 1 - i) 0
theorem lvI_len {n i : Nat} (h : i ≤ n + 1) : (lvI n i).length = n + 1 := by unfold lvI; rw [List.length_append, List.length_range, List.length_replicate]; omega
theorem lvI_at {n i : Nat} (h : i < n + 1) : (lvI n i)[i]? = some 0 := by
 unfold lvI
 rw [List.getElem?_append_right (by simp), List.length_range, Nat.sub_self, List.getElem?_replicate, if_pos (by omega)]
theorem lvI_set {n i : Nat} (h : i < n + 1) : (lvI n i).set i i = lvI n (i + 1) := by
 obtain ⟨k, hk⟩ : ∃ k, n + 1 - i = k + 1 := ⟨n - i, by omega⟩
 have hk2 : n + 1 - (i + 1) = k := by omega
 unfold lvI
 rw [hk, hk2, List.replicate_succ, List.set_append_right _ _ (by simp), List.length_range, Nat.sub_self, List.set_cons_zero, List.range_succ]
 simp
theorem lvI_end (n : Nat) : lvI n (n + 1) = List.range (n + 1) := by unfold lvI; simp
theorem Tb0.base {n M : Nat} (h24 : n ≤ 24) (h2 : 2 ≤ M) (hm : M ≤ 274877906944) : Base n (fun v => v) M (Tb0 n) := by
 have hd : deadL (bareR n 1) = [] := by
  refine List.eq_nil_iff_forall_not_mem.2 fun x hx => ?_
  obtain ⟨r, hr, hd⟩ := deadL_mem.1 hx
  match x, hr with
  | 0, hr => obtain rfl : endR n = r := Option.some.inj hr; exact absurd hd (by show (n : Int) ≠ -1; omega)
  | 1, hr => obtain rfl : endR n = r := Option.some.inj hr; exact absurd hd (by show (n : Int) ≠ -1; omega)
  | x + 2, hr => cases hr
 have I := (KpI.zero (n := n) (lv := fun v => v) (T := Tb0 n) (ls := []) (last := 1) (by simp [Tb0]) (Nat.le_refl _)).inv
 have I : Inv n (rk (fun v => v) (Tb0 n)) z0 (Tb0 n) := by
  have e : ({ ({ Tb0 n with rows := bareR n 1, made := [] } : Tb) with free := deadL (bareR n 1) } : Tb) = Tb0 n := by rw [hd]; rfl
  rw [e] at I
  exact I
 have hno : ∀ (x : Nat) (r : Rw), 2 ≤ x → (Tb0 n).rows[x]? = some r → False := fun x r h2 hr => by
  have : x < 2 := lt_of_at hr
  omega
 refine ⟨⟨⟨⟨fun v h => h, fun _ _ _ _ h => h, rfl⟩, I⟩, h24, by simp [Tb0], fun a ha => ?_, fun x r h2 hr _ _ => (hno x r h2 hr).elim, List.nodup_nil, (fun x hx => by cases hx), fun y r h2 hr _ j _ => (hno y r h2 hr).elim, List.nodup_nil, (fun a b c x hx => by cases hx), h2, hm, ?_⟩, rfl, rfl⟩
 · show (List.range (n + 1))[a]? = some a
   rw [List.getElem?_range (by omega)]
 · show 2 ≤ 0 + (2 - 0) + 0; omega
theorem Tb0.ords (n : Nat) : Ords n (fun v => v) (Tb0 n) := fun i hi => ⟨i, by show (List.range n)[i]? = _; rw [List.getElem?_range hi], hi, rfl⟩
section
variable {w : World}
set_option maxHeartbeats 4000000 in
theorem empty_any (w : World) (n : Nat) (hn : n ≤ 24) :
 Calls Tryz.prog 48 #[.int .i64 (n : Int)] w fun e w' => ∃ (tb : Nat) (L : Ly), e = .returned (.pointer (some ⟨tb, 0, none⟩)) ∧ TAt w' tb L (Tb0 n) ∧ Fr (fun _ => True) w w' ∧ ∀ b, b < w.heap.size → L.own b = 0 := by
 have mo := follows
 have n1 : (0 : Int) ≤ (n : Int) := by omega
 obtain ⟨i0, hi0, hz0, hz1, hz2⟩ := infoInt
 have m1 : (Instr.makeMap 77 none).run Tryz.prog w = .ok (.map (some w.heap.size)) (w.alloc (.map #[] 0)) := run_makeMap _ _
 have m2 : (Instr.makeMap 78 none).run Tryz.prog (w.alloc (.map #[] 0)) = .ok (.map (some (w.heap.size + 1))) ((w.alloc (.map #[] 0)).alloc (.map #[] 0)) := by have := run_makeMap (P := Tryz.prog) 78 (w.alloc (.map #[] 0)); simpa using this
 have m3 : (Instr.makeSlice 27 (.int .i64 ((n : Int) + 1)) (.int .i64 ((n : Int) + 1))).run Tryz.prog ((w.alloc (.map #[] 0)).alloc (.map #[] 0)) = .ok (.slice (some ⟨w.heap.size + 2, 0, none⟩) (n + 1) (n + 1)) (((w.alloc (.map #[] 0)).alloc (.map #[] 0)).alloc (.cells (i64C (List.replicate (n + 1) 0)).toArray 3)) := by
  have := run_makeSlice (P := Tryz.prog) ((w.alloc (.map #[] 0)).alloc (.map #[] 0)) 27 3 i0 _ Tryz.underlying27 hi0 hz0 .i64 .i64 ((n : Int) + 1) ((n : Int) + 1) (by omega) (by omega) (by rw [hz1]; omega) (by rw [hz2]; omega) (by omega)
  rw [hz1, show ((n : Int) + 1).toNat = n + 1 by omega, made_ints] at this
  have e2 : ((w.alloc (.map #[] 0)).alloc (.map #[] 0)).heap.size = w.heap.size + 2 := by simp
  rw [e2] at this
  exact this
 obtain ⟨s, hs⟩ : ∃ s, w.heap.size = s := ⟨_, rfl⟩
 rw [hs] at m1 m2 m3
 obtain ⟨L0, hL0⟩ : ∃ L0 : Ly, L0 = ⟨fun t => if t = 3 then .slice (some ⟨s + 2, 0, none⟩) (n + 1) (n + 1) else .slice none 0 0, s, s + 1, fun b => if b = s then 7 else if b = s + 1 then 8 else if b = s + 2 then 3 else if b = s + 3 then 1 else 0⟩ := ⟨_, rfl⟩
 have X0 : Hid (TAt ((((w.alloc (.map #[] 0)).alloc (.map #[] 0)).alloc (.cells (i64C (List.replicate (n + 1) 0)).toArray 3)).alloc (.cells #[.slice none 0 0, .slice (some ⟨s + 2, 0, none⟩) (n + 1) (n + 1), .slice none 0 0, .slice none 0 0, .map (some s), .map (some (s + 1)), .slice none 0 0] 80)) (s + 3) L0 ⟨List.range 0, lvI n 0, [], [], [], [], []⟩) := by
  have a1 := MapIs.new 89 w
  have a2 := MapIs.new 115 (w.alloc (.map #[] 0))
  rw [hs] at a1
  have e1 : (w.alloc (.map #[] 0)).heap.size = s + 1 := by simp [hs]
  rw [e1] at a2
  have hlv : lvI n 0 = List.replicate (n + 1) 0 := by simp [lvI]
  subst hL0
  refine ⟨⟨fun _ => ⟨heap_new (by simp [hs]), ?_⟩, fun t h1 h2 _ => ?_, fun _ => ⟨(a1.of (((((Fr.refl (fun _ => True) _).alloc _).alloc _).alloc _).block _ (by simp [hs]) trivial)), by simp, List.nodup_nil⟩, fun _ => ⟨(a2.of ((((Fr.refl (fun _ => True) _).alloc _).alloc _).block _ (by simp [hs]) trivial)), by simp, List.nodup_nil⟩⟩, fun b hb => ?_⟩
  · show (if s + 3 = s then 7 else _) = 1
    simp
  · by_cases ht : t = 3
    · subst ht
      refine ⟨?_, fun g hg => ?_⟩
      · show World.ownsRow _ 0 3 1 (.slice (some ⟨s + 2, 0, none⟩) (n + 1) (n + 1)) (lvI n 0).length (i64C (lvI n 0))
        rw [hlv]
        refine ⟨by simp [i64C], .inr ⟨s + 2, n + 1, _, by simp, Nat.zero_le _, (((Fr.refl (fun _ => True) _).alloc _).block _ (by simp [hs]) trivial).trans (heap_new (by simp [hs])), by simp, by unfold maxLen; omega, by simp [i64C], ?_⟩⟩
        simp [i64C, List.take_of_length_le]
      · simp [Value.ownBlock] at hg
        subst hg
        simp
    · have hv : (if t = 3 then Value.slice (some ⟨s + 2, 0, none⟩) (n + 1) (n + 1) else .slice none 0 0) = .slice none 0 0 := if_neg ht
      have : Tb.len ⟨List.range 0, lvI n 0, [], [], [], [], []⟩ t = 0 ∧ Tb.cells ⟨List.range 0, lvI n 0, [], [], [], [], []⟩ t = [] := by
       have : t = 2 ∨ t = 4 ∨ t = 5 ∨ t = 6 := by omega
       rcases this with rfl | rfl | rfl | rfl <;> exact ⟨rfl, rfl⟩
      show OwnR _ _ t _ _ (if t = 3 then Value.slice (some ⟨s + 2, 0, none⟩) (n + 1) (n + 1) else .slice none 0 0) _ _
      rw [hv, this.1, this.2]
      exact ⟨World.ownsRow_nil _ _ _ _, fun g hg => by cases hg⟩
  · simp [hs] at hb
    show (if b = s then 7 else _) = 0
    rw [if_neg (by omega), if_neg (by omega), if_neg (by omega), if_neg (by omega)]
 have F0 : Hid (Fr (fun _ => True) w ((((w.alloc (.map #[] 0)).alloc (.map #[] 0)).alloc (.cells (i64C (List.replicate (n + 1) 0)).toArray 3)).alloc (.cells #[.slice none 0 0, .slice (some ⟨s + 2, 0, none⟩) (n + 1) (n + 1), .slice none 0 0, .slice none 0 0, .map (some s), .map (some (s + 1)), .slice none 0 0] 80))) := ((((Fr.refl _ w).alloc _).alloc _).alloc _).alloc _
 have HOW : Hid (∀ b, b < w.heap.size → L0.own b = 0) := fun b hb => by
  rw [hs] at hb
  rw [hL0]
  show (if b = s then 7 else _) = 0
  rw [if_neg (by omega), if_neg (by omega), if_neg (by omega), if_neg (by omega)]
 have HV3 : Hid (∃ a c, L0.val 3 = .slice a (n + 1) c) := ⟨_, _, by rw [hL0]; rfl⟩
 clear hL0
 go_enter Tryz.func48, Tryz.ntmps48
 rw [hs]
 go_wp2_with fail
 clear m1 m2 m3
 have e3 : s + 1 + 1 + 1 = s + 3 := rfl
 try rw [e3]
 have HSS : Hid (w.heap.size = s) := hs
 clear e3 hs
 generalize ((((w.alloc (.map #[] 0)).alloc (.map #[] 0)).alloc (.cells (i64C (List.replicate (n + 1) 0)).toArray 3)).alloc (.cells #[.slice none 0 0, .slice (some ⟨s + 2, 0, none⟩) (n + 1) (n + 1), .slice none 0 0, .slice none 0 0, .map (some s), .map (some (s + 1)), .slice none 0 0] 80)) = W at X0 F0 ⊢
 obtain ⟨tb, htb⟩ : ∃ tb, s + 3 = tb := ⟨_, rfl⟩
 rw [htb] at X0 ⊢
 clear htb
 go_loopg [14] (n) (fun k s14 wr => ∃ (j : Nat) (Lj : Ly), s14 = .int .i64 (j : Int) ∧ j + k = n ∧ Hid (TAt wr tb Lj ⟨List.range j, lvI n 0, [], [], [], [], []⟩) ∧ Hid (FrT L0 Lj W wr))
 case atStart => exact ⟨0, L0, rfl, by omega, X0, FrT.refl _ _⟩
 case round =>
  clear X0
  obtain ⟨j, Lj, rfl, hjk, X, F⟩ := hrel
  by_cases hj : j < n
  · obtain ⟨k, rfl⟩ : ∃ k, gk = k + 1 := ⟨gk - 1, by omega⟩
    have hjl : (j : Int) < (n : Int) := by omega
    obtain ⟨fa, fc, hf5⟩ := X.out.len 2 (by omega) (by omega)
    have hf5 : Lj.val 2 = .slice fa j fc := by rw [hf5]; show Value.slice fa (List.range j).length fc = _; rw [List.length_range]
    have HV : Hid (Lj.val 2 = .slice fa j fc) := hf5
    have c6 : wr.cell? ⟨tb, 0, none⟩ = some (.slice fa j fc) := by rw [X.out.cell 0]; show some (Lj.val 2) = _; rw [HV.out]
    have HOA : Hid ((wr.alloc (.cells #[.int .i64 (j : Int)] 3)).ownsRow 0 3 1 (.slice fa j fc) j (i64C (List.range j))) := by
     have := (X.out.sl 2 (by omega) (by omega) trivial).1.alloc (.cells #[.int .i64 (j : Int)] 3)
     rw [HV.out] at this
     have e1 : Tb.len ⟨List.range j, lvI n 0, [], [], [], [], []⟩ 2 = j := by show (List.range j).length = j; rw [List.length_range]
     rw [e1] at this
     exact this
    clear hf5
    go_wp2_with (at_builtin; refine wpList_append_lies _ rfl _ _ 27 rfl 0 3 i0 _ 1 8 Tryz.underlying27 hi0 hz0 hz1 hz2 rfl (by decide) (.slice fa j fc) _ _ rfl HOA.out ⟨wr.heap.size, 0, none⟩ 1 1 [.int .i64 (j : Int)] rfl rfl ?q1 ?q2 (by decide) ?q3 ?q4 ?q5 (wr.heap.size + 1) ?q6 ?_)
    case q1 => exact World.news_of_block (heap_new rfl)
    case q2 =>
     intro u hu
     simp only [List.mem_cons, List.not_mem_nil, or_false] at hu
     rcases hu with rfl; rfl
    case q3 => unfold maxLen; omega
    case q4 => omega
    case q5 => simp
    case q6 => simp
    intro g' cap' w1 ho hg hat hlt
    have hle : i64C (List.range (j + 1)) = i64C (List.range j) ++ [.int .i64 (j : Int)] := by simp [i64C, List.range_succ]
    obtain ⟨p0, p1, p2, p3⟩ := (X.out.alloc (.cells #[.int .i64 (j : Int)] 3)).app (t := 2) (T' := ⟨List.range (j + 1), lvI n 0, [], [], [], [], []⟩) ((Fr.refl _ wr).alloc _) (by omega) (by omega) ⟨fun s hs => by unfold Tb.len Tb.cells; simp [hs], fun _ => rfl, fun _ => rfl⟩ (g := g') (cap := cap') (v' := .slice (some ⟨g', 0, none⟩) (j + 1) cap') (by show _ = Value.slice _ (List.range (j + 1)).length _; simp) (by
     show w1.ownsRow 0 3 1 _ (List.range (j + 1)).length (i64C (List.range (j + 1)))
     rw [hle, List.length_range]; exact ho) (by rw [HV.out]; exact hg) (by
     rw [HV.out]
     rcases hat with q | q
     · exact .inl q
     · exact .inr (by simp; omega))
    have p1' : w1.cell? ⟨tb, 0, none⟩ = some (.slice fa j fc) := by rw [← HV.out]; exact p1
    have p0' : w1.frozen? ⟨tb, 0, none⟩ = false := p0
    have P2 : Hid (TAt _ _ _ _) := p2
    have P3 : Hid (FrT _ _ _ _) := F.out.trans p3
    rw [show fld 2 = 0 from rfl] at P2 P3
    clear p0 p1 p2 p3 ho hg hat hlt HOA c6 X F HV
    go_wp2_with fail
    go_roundg k
    case measure => omega
    case rel => exact ⟨j + 1, _, by simp, by omega, P2, P3⟩
  · have hjl : ¬ (j : Int) < (n : Int) := by omega
    obtain rfl : j = n := by omega
    obtain ⟨la, lc, hl1⟩ : ∃ la lc, Lj.val 3 = .slice la (j + 1) lc := by
     obtain ⟨a, c, e⟩ := X.out.len 3 (by omega) (by omega)
     exact ⟨a, c, by rw [e]; show Value.slice a (lvI j 0).length c = _; rw [lvI_len (by omega)]⟩
    have c1 : wr.cell? ⟨tb, 1, none⟩ = some (.slice la (j + 1) lc) := by rw [X.out.cell 1]; show some (Lj.val 3) = _; rw [hl1]
    have HL3 : Hid (Lj.val 3 = .slice la (j + 1) lc) := hl1
    clear hl1
    go_wp2_with fail
    clear c1
    go_loopg [33] (j + 1) (fun k s33 wr2 => ∃ i : Nat, s33 = .int .i64 (i : Int) ∧ i + k = j + 1 ∧ Hid (TAt wr2 tb Lj ⟨List.range j, lvI j i, [], [], [], [], []⟩) ∧ Hid (FrT L0 Lj W wr2))
    case atStart => exact ⟨0, rfl, by omega, X, F⟩
    case round =>
     clear X F
     obtain ⟨i, rfl, hik, X, F⟩ := hrel
     by_cases hi : i < j + 1
     · obtain ⟨k, rfl⟩ : ∃ k, gk = k + 1 := ⟨gk - 1, by omega⟩
       have hil : (i : Int) < (j : Int) + 1 := by omega
       have hil2 : (i : Int) < ((j + 1 : Nat) : Int) := by omega
       have hi0 : (0 : Int) ≤ (i : Int) := by omega
       have hll : (lvI j i).length = j + 1 := lvI_len (by omega)
       obtain ⟨lg, lcap, LG⟩ := X.out.levG (fun e => by have e : lvI j i = [] := e; rw [e] at hll; cases hll)
       have b1 := X.out.b1 LG
       have b1 : wr.cell? ⟨tb, 1, none⟩ = some (.slice (some ⟨lg, 0, none⟩) (j + 1) lcap) := by rw [← hll]; exact b1
       have c0 := LG.cell i 0 (lvI_at hi)
       have z0 := LG.frz i
       obtain ⟨q1, q2⟩ := X.out.setLev (i := i) (x := i) LG
       have X2 : Hid (TAt (wr.setCell ⟨lg, i, none⟩ (.int .i64 (i : Int))) tb Lj ⟨List.range j, lvI j (i + 1), [], [], [], [], []⟩) := by
        have q1 : TAt (wr.setCell ⟨lg, i, none⟩ (.int .i64 (i : Int))) tb Lj ⟨List.range j, (lvI j i).set i i, [], [], [], [], []⟩ := q1
        rw [lvI_set hi] at q1
        exact q1
       have F2 : Hid (FrT L0 Lj W (wr.setCell ⟨lg, i, none⟩ (.int .i64 (i : Int)))) := F.out.trans q2
       clear q1 q2 LG X F
       go_wp2_with fail
       go_roundg k
       case measure => omega
       case rel => exact ⟨i + 1, by simp, by omega, X2, F2⟩
     · have hil : ¬ (i : Int) < (j : Int) + 1 := by omega
       obtain rfl : i = j + 1 := by omega
       have hX := X.out
       rw [lvI_end] at hX
       have HBR : Hid (Calls _ _ _ _ _) := bare_any hX j 1 (by simp) hn (by omega) (by omega)
       clear hX X
       go_wp2_with (go_at_call 59; refine HBR.out.mono ?_; rintro e W5 ⟨rfl, L5, hX5, hF5, -⟩; have X5 : Hid (TAt W5 tb L5 (Tb0 j)) := hX5; have F5 : Hid (FrT L0 L5 W W5) := F.out.trans hF5; clear hX5 hF5 HBR)
       go_ret
       have hsz := F0.out.size
       have hss := HSS.out
       refine ⟨tb, L5, rfl, X5.out, ⟨F5.out.os.trans F0.out.os, F5.out.tape.trans F0.out.tape, F5.out.output.trans F0.out.output, Nat.le_trans hsz F5.out.size, fun b hb _ => ?_⟩, fun b hb => ?_⟩
       · exact (F5.out.block b (by omega) (HOW.out b hb)).trans (F0.out.block b hb trivial)
       · have hb' : b < w.heap.size := by omega
         exact (F5.out.own b (by omega)).trans (HOW.out b hb')
end
end Go.Proofs.YtaakjjefnjbabaaGreat.Sx
namespace Go.Proofs.YtaakjjefnjbabaaGreat.Sx
section
variable {n : Nat} {lv p p' : Nat → Nat} {T T' : Tb} {x y v : Nat}
theorem Tbl.two (h : Tbl n lv p T) (hr : rk lv T x < n) : 2 ≤ x := by
 match x, hr with
 | 0, hr => rw [h.r0] at hr; omega
 | 1, hr => rw [h.r1] at hr; omega
 | x + 2, _ => omega
theorem Tbl.rk_at (h : Tbl n lv p T) (h2 : 2 ≤ x) (hx : Live T x) : ∃ v, v < n ∧ (ky T x).1 = (v : Int) ∧ rk lv T x = lv v := by
 obtain ⟨a1, a2, _⟩ := h.inv.nk h2 hx
 refine ⟨(ky T x).1.toNat, by omega, by omega, rk_ky hx⟩
theorem Tbl.cof (h : Tbl n lv p T) (h2 : 2 ≤ x) (hx : Live T x) (hv : (ky T x).1 = (v : Int)) (σ : Nat → Bool) : vl n T (ky T x).2.1 σ = vl n T x (upd σ v false) ∧ vl n T (ky T x).2.2 σ = vl n T x (upd σ v true) := by
 obtain ⟨r, hr, hd⟩ := hx
 have := h.low h2 hr hd σ
 rw [ky_at hr] at hv ⊢
 have hv : r.about = (v : Int) := hv
 rw [hv, Int.toNat_natCast] at this
 exact this
theorem Tbl.dep (h : Tbl n lv p T) (h2 : 2 ≤ x) (hx : Live T x) (hv : (ky T x).1 = (v : Int)) : ¬ Ind (vl n T x) v := fun hi => by
 obtain ⟨_, _, a3, l4, l5, _⟩ := h.inv.nk h2 hx
 refine a3 ((h.same l4 l5).1 (funext fun σ => ?_))
 rw [(h.cof h2 hx hv σ).1, (h.cof h2 hx hv σ).2, hi, hi]
theorem Tbl.rank_le (h : Tbl n lv p T) (h' : Tbl n lv p' T') (hx : Live T x) (hy : Live T' y) (e : vl n T x = vl n T' y) : rk lv T' y ≤ rk lv T x := Nat.le_of_not_lt fun hlt => by
 have := h'.rle y hy
 have h2 : 2 ≤ x := h.two (by omega)
 obtain ⟨v, hvn, hv, hr⟩ := h.rk_at h2 hx
 refine h.dep h2 hx hv fun b σ => ?_
 rw [e]
 exact h'.indep b n y hy (by omega) (by omega) σ
theorem Tbl.rank_eq (h : Tbl n lv p T) (h' : Tbl n lv p' T') (hx : Live T x) (hy : Live T' y) (e : vl n T x = vl n T' y) : rk lv T' y = rk lv T x := Nat.le_antisymm (h.rank_le h' hx hy e) (h'.rank_le h hy hx e.symm)
theorem Tbl.ask_eq (h : Tbl n lv p T) (h' : Tbl n lv p' T') (h2 : 2 ≤ x) (hx : Live T x) (hy : Live T' y) (e : vl n T x = vl n T' y) : 2 ≤ y ∧ (ky T' y).1 = (ky T x).1 ∧ vl n T' (ky T' y).2.1 = vl n T (ky T x).2.1 ∧ vl n T' (ky T' y).2.2 = vl n T (ky T x).2.2 := by
 have hr := h.rank_eq h' hx hy e
 obtain ⟨v, hvn, hv, hv2⟩ := h.rk_at h2 hx
 have hy2 : 2 ≤ y := h'.two (by have := h.lvo.lt v hvn; omega)
 obtain ⟨u, hun, hu, hu2⟩ := h'.rk_at hy2 hy
 obtain rfl : u = v := h.lvo.inj u v hun hvn (by omega)
 refine ⟨hy2, hu.trans hv.symm, funext fun σ => ?_, funext fun σ => ?_⟩
 · rw [(h.cof h2 hx hv σ).1, (h'.cof hy2 hy hu σ).1, e]
 · rw [(h.cof h2 hx hv σ).2, (h'.cof hy2 hy hu σ).2, e]
end
theorem nodeR_ex (T : Tb) (ab lo hh : Nat) : ∃ T' x, NodeR T ab lo hh T' x := by
 by_cases e : lo = hh
 · exact ⟨T, lo, .inl ⟨e, rfl, rfl⟩⟩
 by_cases hm : ∃ x, (((ab : Int), lo, hh), x) ∈ T.made
 · obtain ⟨x, hm⟩ := hm
   exact ⟨T, x, .inr (.inl ⟨e, hm, rfl⟩)⟩
 · exact ⟨_, _, .inr (.inr ⟨e, fun q hq e2 => hm ⟨q.2, by rw [← e2]; exact hq⟩, rfl, rfl⟩)⟩
section
variable {n : Nat} {lv : Nat → Nat} {M A : Nat} {T T' : Tb} {ab lo hh x : Nat}
theorem NodeR.p (hR : NodeR T ab lo hh T' x) (h : Mid n lv M A T) (ha : ab < n) (hl : Live T lo) (hu : Live T hh) (r1 : lv ab < rk lv T lo) (r2 : lv ab < rk lv T hh) (hroom : A + T.fresh.length < M) : NodeP n lv M A T ab lo hh T' x := by
 rcases hR with ⟨rfl, rfl, rfl⟩ | ⟨hne, hm, rfl⟩ | ⟨hne, hk, rfl, rfl⟩
 · exact NodeP.same h hl r1
 · exact NodeP.hit h hm
 · exact NodeP.miss h ha hl hu hne hk r1 r2 hroom
theorem NodeR.frm (hR : NodeR T ab lo hh T' x) {ρ p : Nat → Nat} (h : Inv n ρ p T) (hl : Live T lo) (hu : Live T hh) : ∀ y, Live T' y → Live T y ∨ y = x := fun y hy => by
 rcases hR with ⟨rfl, rfl, rfl⟩ | ⟨hne, hm, rfl⟩ | ⟨hne, hk, rfl, rfl⟩
 · exact .inl hy
 · exact .inl hy
 · have W := h.nodeNew (ab : Int) hl hu hne
   by_cases e : y = (numberP T).2
   · exact .inr e
   · obtain ⟨z, hz, hd⟩ := hy
     rw [W.get y e] at hz
     cases q : T.rows[y]? with
     | none => rw [q] at hz; cases hz
     | some s => rw [q] at hz; cases hz; exact .inl ⟨s, q, hd⟩
theorem NodeR.ord (hR : NodeR T ab lo hh T' x) {ρ p : Nat → Nat} (h : Inv n ρ p T) : T'.ord = T.ord := by
 rcases hR with ⟨rfl, rfl, rfl⟩ | ⟨hne, hm, rfl⟩ | ⟨hne, hk, rfl, rfl⟩
 · rfl
 · rfl
 · exact h.num.rest.1
end
structure AlnI (n : Nat) (lv : Nat → Nat) (M : Nat) (T : Tb) (ls : List Nat) (j : Nat) (th : Nat → Nat) (To : Tb) : Prop where
 mid : Mid n lv M 2 To
 found : To.found = []
 ord : To.ord = T.ord
 t0 : th 0 = 0
 t1 : th 1 = 1
 im : ∀ y, (y < 2 ∨ y ∈ ls.take j) → Live To (th y) ∧ vl n To (th y) = vl n T y
 cov : ∀ x, Live To x → x < 2 ∨ ∃ y ∈ ls.take j, x = th y
 ngv : ∀ x, Giv To x → x < 2
 fresh : To.fresh.length ≤ j
def thU (th : Nat → Nat) (x x' z : Nat) : Nat := if z = x then x' else th z
section
variable {n : Nat} {lv p : Nat → Nat} {M : Nat} {T To To' : Tb} {ls : List Nat} {j x x' : Nat} {th : Nat → Nat}
theorem AlnI.nodeP (h : AlnI n lv M T ls j th To) (ht : Tbl n lv p T) (hx : 2 ≤ x) (hl : Live T x) (hclo : ∀ r, T.rows[x]? = some r → (r.low < 2 ∨ r.low ∈ ls.take j) ∧ (r.high < 2 ∨ r.high ∈ ls.take j)) {ab : Nat} (hab : (ky T x).1 = (ab : Int)) (hroom : 2 + j < M) (hR : NodeR To ab (th (ky T x).2.1) (th (ky T x).2.2) To' x') :
 NodeP n lv M 2 To ab (th (ky T x).2.1) (th (ky T x).2.2) To' x' ∧ Live To (th (ky T x).2.1) ∧ Live To (th (ky T x).2.2) := by
 obtain ⟨r, hr, hd⟩ := hl
 obtain ⟨a1, a2, a3, l4, l5, r6, r7⟩ := ht.inv.nk hx ⟨r, hr, hd⟩
 have hk := ky_at hr
 obtain ⟨c1, c2⟩ := hclo r hr
 obtain ⟨i1, v1⟩ := h.im (ky T x).2.1 (by rw [hk]; exact c1)
 obtain ⟨i2, v2⟩ := h.im (ky T x).2.2 (by rw [hk]; exact c2)
 have e1 := h.mid.t.rank_eq ht i1 l4 v1
 have e2 := h.mid.t.rank_eq ht i2 l5 v2
 have hx0 : rk lv T x = lv ab := by rw [rk_ky ⟨r, hr, hd⟩, hab, Int.toNat_natCast]
 have := h.fresh
 exact ⟨hR.p h.mid (by omega) i1 i2 (by omega) (by omega) (by omega), i1, i2⟩
theorem AlnI.step (h : AlnI n lv M T ls j th To) (ht : Tbl n lv p T) (hnd : ls.Nodup) (hxj : ls[j]? = some x) (hx : 2 ≤ x) (hl : Live T x) (hclo : ∀ r, T.rows[x]? = some r → (r.low < 2 ∨ r.low ∈ ls.take j) ∧ (r.high < 2 ∨ r.high ∈ ls.take j)) {ab : Nat} (hab : (ky T x).1 = (ab : Int)) (hroom : 2 + j < M) (hR : NodeR To ab (th (ky T x).2.1) (th (ky T x).2.2) To' x') :
 AlnI n lv M T ls (j + 1) (thU th x x') To' := by
 obtain ⟨P, i1, i2⟩ := h.nodeP ht hx hl hclo hab hroom hR
 have hmem : ∀ y, y ∈ ls.take (j + 1) ↔ y ∈ ls.take j ∨ y = x := fun y => by
  rw [List.take_add_one, hxj, List.mem_append]; simp
 have hxt : x ∉ ls.take j := fun hm => by
  have hjl := lt_of_at hxj
  have hnd2 := hnd
  rw [← List.take_append_drop j ls] at hnd2
  rw [List.getElem?_eq_getElem hjl] at hxj
  exact (List.nodup_append.1 hnd2).2.2 x hm x (by rw [List.drop_eq_getElem_cons hjl, Option.some.inj hxj]; simp) rfl
 have hne : ∀ y, (y < 2 ∨ y ∈ ls.take j) → thU th x x' y = th y := fun y hy => if_neg fun e => by
  subst e
  rcases hy with hy | hy
  · omega
  · exact hxt hy
 have hi := h.mid.t.inv
 refine ⟨P.mid, P.fnd.trans h.found, (hR.ord hi).trans h.ord, (hne 0 (by omega)).trans h.t0, (hne 1 (by omega)).trans h.t1, fun y hy => ?_, fun y hy => ?_, fun y hy => h.ngv y (P.gv y hy), by have := P.cost; have := h.fresh; omega⟩
 · by_cases e : y = x
   · have e1 : thU th x x' y = x' := if_pos e
     rw [e1, e]
     refine ⟨P.live, funext fun σ => ?_⟩
     have hv2 := vl_ky ht.inv ht.rle σ hx hl
     rw [hab, Int.toNat_natCast] at hv2
     rw [P.val σ, hv2]
     obtain ⟨r, hr, hd⟩ := hl
     obtain ⟨c1, c2⟩ := hclo r hr
     rw [(h.im (ky T x).2.1 (by rw [ky_at hr]; exact c1)).2, (h.im (ky T x).2.2 (by rw [ky_at hr]; exact c2)).2]
     split <;> rfl
   · have hy2 : y < 2 ∨ y ∈ ls.take j := hy.imp id fun q => ((hmem y).1 q).resolve_right e
     rw [hne y hy2]
     obtain ⟨a, b⟩ := h.im y hy2
     exact ⟨P.more.live a, by rw [vl_more hi P.more a]; exact b⟩
 · rcases hR.frm hi i1 i2 y hy with q | q
   · rcases h.cov y q with q | ⟨z, hz, e⟩
     · exact .inl q
     · exact .inr ⟨z, (hmem z).2 (.inl hz), by rw [hne z (.inr hz)]; exact e⟩
   · exact .inr ⟨x, (hmem x).2 (.inr rfl), by rw [q]; exact (if_pos rfl).symm⟩
def markL (R : List Rw) (xs : List Nat) : List Rw := xs.foldl (fun R x => R.modify x fun r => { r with given := true }) R
theorem markL_push (R : List Rw) (xs : List Nat) (x : Nat) : markL R (xs ++ [x]) = (markL R xs).modify x fun r => { r with given := true } := by unfold markL; rw [List.foldl_append]; rfl
theorem markL_get (xs : List Nat) : ∀ (R : List Rw) (y : Nat), (markL R xs)[y]? = R[y]?.map fun r => { r with given := r.given || decide (y ∈ xs) } := by
 induction xs with
 | nil =>
   intro R y
   show R[y]? = _
   cases R[y]? with
   | none => rfl
   | some r => simp
 | cons x xs ih =>
   intro R y
   show (markL (R.modify x _) xs)[y]? = _
   rw [ih, get_modify]
   by_cases e : x = y
   · subst e
     cases R[x]? <;> simp
   · rw [if_neg e]
     have e2 : ¬ y = x := fun q => e q.symm
     cases R[y]? <;> simp [e2]
theorem markL_len (R : List Rw) (xs : List Nat) : (markL R xs).length = R.length := by
 induction xs generalizing R with
 | nil => rfl
 | cons x xs ih => show (markL (R.modify x _) xs).length = _; rw [ih]; simp
theorem Inv.mark {ρ : Nat → Nat} (h : Inv n ρ p T) : ∀ xs : List Nat, (∀ x ∈ xs, Live T x) → Inv n ρ p { T with rows := markL T.rows xs } := by
 intro xs
 induction xs generalizing T with
 | nil => intro _; exact h
 | cons x xs ih =>
   intro hl
   obtain ⟨r, hr, hd⟩ := hl x (by simp)
   have h1 := h.givn hr hd
   have e : T.rows.modify x (fun r => { r with given := true }) = T.rows.set x { r with given := true } := modify_set _ hr
   have := ih h1 fun y hy => by
    obtain ⟨s, hs, hsd⟩ := hl y (by simp [hy])
    by_cases e2 : x = y
    · subst e2
      rw [hr] at hs; cases hs
      exact ⟨{ r with given := true }, by show (T.rows.set x _)[x]? = _; rw [List.getElem?_set_self (lt_of_at hr)], hd⟩
    · exact ⟨s, by show (T.rows.set x _)[y]? = _; rw [List.getElem?_set_ne e2]; exact hs, hsd⟩
   show Inv n ρ p { T with rows := markL (T.rows.modify x _) xs }
   rw [e]
   exact this
structure AlnP (n : Nat) (lv : Nat → Nat) (M : Nat) (T : Tb) (fs : List Nat) (Tg : Tb) : Prop where
 base : Base n lv M { Tg with fresh := [] }
 fr : Tg.fresh.length ≤ 274877906944
 ord : Tg.ord = T.ord
 has : ∀ f ∈ fs, ∃ g, Giv Tg g ∧ vl n Tg g = vl n T f
 only : ∀ g, Giv Tg g → g < 2 ∨ ∃ f ∈ fs, vl n Tg g = vl n T f
 gs : ∃ gs : List Nat, gs.length ≤ fs.length + 2 ∧ ∀ g, Giv Tg g → g ∈ gs
theorem AlnI.done {fs : List Nat} (h : AlnI n lv M T ls ls.length th To) (ht : Tbl n lv p T) (hD : DiaP T fs ls) : AlnP n lv M T fs { To with rows := markL To.rows (fs.map th) } := by
 have htk : ls.take ls.length = ls := List.take_of_length_le (Nat.le_refl _)
 have him := h.im
 have hcov := h.cov
 rw [htk] at him hcov
 have hi := h.mid.t.inv
 have hfl : ∀ f ∈ fs, Live To (th f) ∧ vl n To (th f) = vl n T f := fun f hf => him f (hD.has f hf)
 have hml : ∀ x ∈ fs.map th, Live To x := fun x hx => by
  obtain ⟨f, hf, rfl⟩ := List.mem_map.1 hx
  exact (hfl f hf).1
 obtain ⟨Tg, hTg⟩ : ∃ Tg : Tb, { To with rows := markL To.rows (fs.map th) } = Tg := ⟨_, rfl⟩
 rw [hTg]
 have er : Tg.rows = markL To.rows (fs.map th) := by rw [← hTg]
 have hget : ∀ x : Nat, Tg.rows[x]? = To.rows[x]?.map fun r => { r with given := r.given || decide (x ∈ fs.map th) } := fun x => by rw [er]; exact markL_get _ _ _
 have hky : ∀ x, ky Tg x = ky To x := fun x => by
  unfold ky
  rw [hget]
  cases To.rows[x]? <;> rfl
 have hlv : ∀ x, Live Tg x ↔ Live To x := fun x => by rw [live_ky, live_ky, hky]
 have I : Inv n (rk lv To) z0 Tg := by rw [← hTg]; exact hi.mark _ hml
 have hrk : ∀ x, Live Tg x → rk lv Tg x = rk lv To x := fun x hx => by rw [rk_ky hx, rk_ky ((hlv x).1 hx), hky]
 have I2 := I.rho hrk
 have hval : ∀ (σ : Nat → Bool) (m x : Nat), ev m Tg x σ = ev m To x σ := by
  intro σ m
  induction m with
  | zero => intro x; rfl
  | succ m ih =>
    intro x
    unfold ev
    rw [hget]
    cases To.rows[x]? with
    | none => rfl
    | some r => simp only [Option.map_some, ih]
 have hvl : ∀ x, vl n Tg x = vl n To x := fun x => funext fun σ => hval σ (n + 1) x
 have hgv : ∀ x, Giv Tg x → x < 2 ∨ ∃ f ∈ fs, x = th f := fun x ⟨z, hz, hzd, hzg⟩ => by
  rw [hget] at hz
  cases q : To.rows[x]? with
  | none => rw [q] at hz; cases hz
  | some r =>
    rw [q] at hz; cases hz
    by_cases hm : x ∈ fs.map th
    · obtain ⟨f, hf, e⟩ := List.mem_map.1 hm
      exact .inr ⟨f, hf, e.symm⟩
    · have hzg : (r.given || decide (x ∈ fs.map th)) = true := hzg
      rw [decide_eq_false hm, Bool.or_false] at hzg
      exact .inl (h.ngv x ⟨r, q, hzd, hzg⟩)
 have hgf : ∀ f ∈ fs, Giv Tg (th f) := fun f hf => by
  obtain ⟨⟨r, hr, hd⟩, _⟩ := hfl f hf
  refine ⟨{ r with given := r.given || decide (th f ∈ fs.map th) }, by rw [hget, hr]; rfl, hd, ?_⟩
  show (r.given || decide (th f ∈ fs.map th)) = true
  rw [decide_eq_true (List.mem_map.2 ⟨f, hf, rfl⟩), Bool.or_true]
 have t2 : Tbl n lv z0 Tg := ⟨h.mid.t.lvo, I2⟩
 have hlen : Tg.rows.length = To.rows.length := by rw [er, markL_len]
 have ng : NG (fun _ => False) Tg := fun x z hx hz hzd _ => by
  have lx : Live Tg x := ⟨z, hz, hzd⟩
  rcases hcov x ((hlv x).1 lx) with q | ⟨y, hy, rfl⟩
  · omega
  obtain ⟨hy2, hyl, f, hf, hR⟩ := hD.new y hy
  have key := hR (fun y => y < 2 ∨ (y ∈ ls ∧ ∀ z, Tg.rows[th y]? = some z → z.given = true ∨ 0 < z.users)) ?_ ?_
  · rcases key with q | ⟨_, q⟩
    · omega
    · exact q z hz
  · rcases hD.has f hf with q | q
    · exact .inl q
    · obtain ⟨s, hs, _, hsg⟩ := hgf f hf
      exact .inr ⟨q, fun z hz => by rw [hs] at hz; cases hz; exact .inl hsg⟩
  · intro y r h2y hyS hr
    have hym : y ∈ ls := (hyS.resolve_left (by omega)).1
    obtain ⟨pre, post, e⟩ := List.append_of_mem hym
    obtain ⟨c1, c2⟩ := hD.clo pre post y r e hr
    have c1 : r.low < 2 ∨ r.low ∈ ls := c1.imp id fun q => by rw [e]; simp [q]
    have c2 : r.high < 2 ∨ r.high ∈ ls := c2.imp id fun q => by rw [e]; simp [q]
    obtain ⟨ly, vy⟩ := him y (.inr hym)
    obtain ⟨_, hyl, _⟩ := hD.new y hym
    obtain ⟨b1, b2, b3, b4⟩ := ht.ask_eq h.mid.t h2y hyl ly vy.symm
    obtain ⟨_, _, _, m4, m5, _⟩ := hi.nk b1 ly
    have hlow : (ky To (th y)).2.1 = th r.low := by
     obtain ⟨l1, v1⟩ := him r.low c1
     refine (h.mid.t.same m4 l1).1 (b3.trans ?_)
     rw [v1, ky_at hr]; rfl
    have hhigh : (ky To (th y)).2.2 = th r.high := by
     obtain ⟨l1, v1⟩ := him r.high c2
     refine (h.mid.t.same m5 l1).1 (b4.trans ?_)
     rw [v1, ky_at hr]; rfl
    have lyg : Live Tg (th y) := (hlv _).2 ly
    obtain ⟨d1, d2, _⟩ := I2.nk b1 lyg
    have hpos : ∀ g, ((ky Tg (th y)).2.1 = g ∨ (ky Tg (th y)).2.2 = g) → ∀ z, Tg.rows[g]? = some z → z.given = true ∨ 0 < z.users := fun g hg z hz => by
     obtain ⟨q, hq, hqd⟩ := lyg
     rw [ky_at hq] at hg d1 d2
     have hu := I2.us g z hz
     have := lnk_pos (n := n) (g := g) hq (by
      unfold lw
      rw [if_pos ⟨d1, d2⟩]
      rcases hg with e | e
      · rw [if_pos (show q.low = g from e)]; omega
      · rw [if_pos (show q.high = g from e)]; omega)
     right; rw [hu]; show 0 < lnk n Tg.rows g + 0; omega
    exact ⟨c1.imp id fun m => ⟨m, hpos _ (.inl (by rw [hky]; exact hlow))⟩, c2.imp id fun m => ⟨m, hpos _ (.inr (by rw [hky]; exact hhigh))⟩⟩
 have er2 : Tg.found = [] := by rw [← hTg]; exact h.found
 have efr : Tg.free = To.free := by rw [← hTg]
 have elv : Tg.lev = To.lev := by rw [← hTg]
 have t3 : Tbl n lv z0 { Tg with fresh := [] } := ⟨t2.lvo, ⟨I2.on, I2.e0, I2.e1, I2.nd, I2.made, I2.mn, I2.free, I2.fn, I2.us, I2.dg, I2.lh⟩⟩
 refine ⟨⟨⟨t3, h.mid.n24, by rw [← h.mid.ll]; show Tg.lev.length = _; rw [elv], fun a ha => by rw [← h.mid.la a ha]; show Tg.lev[a]? = _; rw [elv], fun x r h2 hr hd _ => ng x r h2 hr hd (fun q => q), List.nodup_nil, (fun x hx => by cases hx), (fun y r _ _ _ j hj => by simp at hj), ?_, (fun a b c x hx => ?_), ?_, h.mid.rm, ?_⟩, rfl, er2⟩, ?_, ?_, fun f hf => ⟨th f, hgf f hf, by rw [hvl]; exact (hfl f hf).2⟩, fun g hg => ?_, ⟨0 :: 1 :: fs.map th, by simp, fun g hg => ?_⟩⟩
 · show (Tg.found.map Prod.fst).Nodup; rw [er2]; exact List.nodup_nil
 · have hx : ((a, b, c), x) ∈ Tg.found := hx
   rw [er2] at hx; cases hx
 · show Tg.rows.length ≤ M; rw [hlen]; exact h.mid.rl
 · show Tg.rows.length ≤ Tg.free.length + (Tg.rows.length - Tg.free.length) + 0; omega
 · have := h.fresh
   have h1 := nodup_len T.rows.length ls hD.nd fun x hx => (hD.new x hx).2.1.lt
   have h2 : To.fresh.length ≤ To.rows.length := nodup_len _ _ h.mid.fnd fun x hx => (h.mid.fl x hx).2.lt
   have h3 := h.mid.rl
   have h4 := h.mid.rm
   rw [← hTg]
   show To.fresh.length ≤ _
   omega
 · rw [← hTg]; exact h.ord
 · rcases hgv g hg with q | ⟨f, hf, rfl⟩
   · exact .inl q
   · exact .inr ⟨f, hf, by rw [hvl]; exact (hfl f hf).2⟩
 · rcases hgv g hg with q | ⟨f, hf, rfl⟩
   · have : g = 0 ∨ g = 1 := by omega
     rcases this with rfl | rfl <;> simp
   · exact List.mem_cons_of_mem _ (List.mem_cons_of_mem _ (List.mem_map.2 ⟨f, hf, rfl⟩))
end
end Go.Proofs.YtaakjjefnjbabaaGreat.Sx
