/- The program: note. -/
import Derived.Test.YtbicefgjompnoaaA24
import Derived.Test.YtbicefgjompnoaaA25
import Derived.Test.YtbicefgjompnoaaA26
namespace Go.Proofs.Ytbicefgjompnoaa.Sx
open Go.RowKit Go.Sort Go.Maps

theorem sorted_set {len : Nat} {D D' : Array Nat} {d : List Nat} (h : SortsTo len D D') (hd : D.toList.take len = d) (hnd : d.Nodup) : SetOf d (D'.toList.take len) := by
  obtain ⟨⟨h1, _, h3⟩, h2⟩ := h
  have hp : (D'.toList.take len).Perm d := by
    rw [← hd]
    simpa using h3
  have hn : (D'.toList.take len).Nodup := hp.nodup_iff.2 hnd
  refine ⟨?_, fun x => hp.mem_iff⟩
  unfold Asc
  rw [List.pairwise_iff_getElem]
  intro i j hi hj hij
  have hi' : i < D'.size ∧ i < len := by simp at hi; omega
  have hj' : j < D'.size ∧ j < len := by simp at hj; omega
  have hle := h2 i j (Nat.zero_le _) hij hj'.2
  have e1 : (D'.toList.take len)[i] = D'[i]! := by simp [hi'.1]
  have e2 : (D'.toList.take len)[j] = D'[j]! := by simp [hj'.1]
  have hne : (D'.toList.take len)[i] ≠ (D'.toList.take len)[j] := fun e => by
    have := (List.nodup_iff_pairwise_ne.1 hn)
    rw [List.pairwise_iff_getElem] at this
    exact this i j hi hj hij e
  rw [e1, e2] at hne ⊢
  simp [ltN] at hle
  omega

/-- an append at a step of a region that draws, by its run -/
theorem step_append_run {P : Program} {w : World} {ops : Array Oper} {o : Oper} {a : Act} {K : Act → World → Prop} {Q : Exit → Act → World → Prop} {E : Prop} (hgd : o.guard = none) (s x : Operand) (t : TypeId)
    (ho : o.op = .call { callee := .builtin .append, args := #[s, x], argTypes := #[t, t] }) (v u v1 : Value) (w1 : World) (hs : a.eval s = v) (hx : a.eval x = u) (hr : (Builtin.append_ #[t, t] o.type #[v, u]).run P w = .ok v1 w1) (h : K (a.put o.dst v1) w1) :
    if Region.wanted o (yielded ops a.tmps) = true then Oper.wp P o a w K Q else E := by
  have hw : Region.wanted o (yielded ops a.tmps) = true := by simp [Region.wanted, hgd]
  rw [if_pos hw]
  unfold Oper.wp execOp
  simp only [ho, resolve, invoke, builtin, Sem.run_bind, Sem.run_pure, Result.andThen_ok, List.map_toArray, List.map_cons, List.map_nil, hs, hx, hr]
  exact h

/-- what note comes to -/
def NotePost (w : World) (P H : Nat → Prop) (rows : List (Option (List Nat))) (m row : Nat) (e : Ending) (w' : World) : Prop :=
  e = .returned (.tuple #[]) ∧ Fr (fun b => ¬ P b) w w' ∧ ∃ F', SameAt w' (fun b => P b ∨ w.heap.size ≤ b) (fun r => H r ∨ r = row) rows m F'

set_option maxRecDepth 100000 in
set_option maxHeartbeats 4000000 in
theorem note_any (w : World) (L : Ly) (n : Nat) (t : St) (bb m row : Nat) (sure never : Bool) (F : ByteArray → Value) (P H : Nat → Prop) (d : List Nat) (hA : SAt w L n t) (hbk : w.heap[bb]? = some (.cells #[.pointer (some ⟨L.sb, 0, none⟩), .bool sure, .bool never, .map (some m)] 63 (0, 0))) (hP : ∀ b, P b → b ≠ bb)
    (hS : SameAt w P H t.rows m F) (hr : t.rows[row]? = some (some d)) (hnd : d.Nodup) (hne : 0 < d.length) (hlit : ∀ x ∈ d, x < 33554434) (hH : ¬ H row) :
    Calls Try.prog 44 #[.pointer (some ⟨bb, 0, none⟩), .int .i32 (row : Int)] w (NotePost w P H t.rows m row) := by
  have mo := follows
  obtain ⟨v, hv, b, dd, rfl, hbo, hrow, htk, hds⟩ := hA.1.rl row trivial _ hr
  obtain ⟨ra, rc, hrv⟩ := (hA.1.ro trivial).form
  have hro := hA.1.ro trivial
  rw [hrv] at hro
  have hrl : row < t.rows.length := (List.getElem?_eq_some_iff.1 hr).1
  have hrows := hA.2.rows
  obtain ⟨rg, rfl⟩ : ∃ rg, ra = some ⟨rg, 0, none⟩ := by
    rcases hro.1.2 with ⟨_, q⟩ | ⟨g, cap, cur, e, _⟩
    · omega
    · cases e; exact ⟨g, rfl⟩
  have hlen : d.length ≤ dd.size := by
    have := congrArg List.length htk
    rw [List.length_take] at this
    have e2 : dd.toList.length = dd.size := by simp
    omega
  have c0 : w.cell? ⟨bb, 0, none⟩ = some (.pointer (some ⟨L.sb, 0, none⟩)) := by rw [block_cell hbk]; rfl
  have cs : w.cell? ⟨L.sb, 0, none⟩ = some (.slice (some ⟨rg, 0, none⟩) t.rows.length rc) := by have := hA.cell 0; simp only [stC, hrv] at this; exact this
  have cr : w.cell? ⟨rg, row, none⟩ = some (.slice (some ⟨b, 0, none⟩) d.length dd.size) := by
    have := hro.1.cells (g := rg) rfl row _ hv
    have hadd : (⟨rg, 0, none⟩ : Addr).add row = ⟨rg, row, none⟩ := by unfold Addr.add; split <;> simp_all
    rwa [hadd] at this
  have r0 : (0 : Int) ≤ (row : Int) := by omega
  have r1 : (row : Int) < (t.rows.length : Int) := by omega
  have HCL : Hid (Calls _ _ _ _ _) := clone_any w b dd.size d dd hrow htk hne (by omega)
  -- the end
  have HFIN : Hid (∀ (w3 : World) (c : List Nat), SetOf d c → Fr (fun _ => True) w w3 → ∃ V, (w3.drew.cell? ⟨bb, 3, none⟩ = some (.map (some m)) ∧ (Instr.lookup 61 (.map (some m)) (.string (keyB c)) false).run Try.prog w3.drew = .ok V w3.drew) ∧
      ((w3.drew.alloc (.cells #[.int .i32 (row : Int)] 21)).cell? ⟨bb, 3, none⟩ = some (.map (some m)) ∧ (Instr.lookup 61 (.map (some m)) (.string (keyB c)) false).run Try.prog (w3.drew.alloc (.cells #[.int .i32 (row : Int)] 21)) = .ok V (w3.drew.alloc (.cells #[.int .i32 (row : Int)] 21))) ∧
      ∃ v4 w4, (Builtin.append_ #[56, 56] 56 #[V, .slice (some ⟨w3.heap.size, 0, none⟩) 1 1]).run Try.prog (w3.drew.alloc (.cells #[.int .i32 (row : Int)] 21)) = .ok v4 w4 ∧ w4.cell? ⟨bb, 3, none⟩ = some (.map (some m)) ∧
      ∃ w5, (Instr.mapUpdate 61 (.map (some m)) (.string (keyB c)) v4).run Try.prog w4 = .ok () w5 ∧ w5.cell? ⟨bb, 3, none⟩ = some (.map (some m)) ∧ NotePost w P H t.rows m row (.returned (.tuple #[])) w5) := by
    intro w3 c hc hf
    have hk : (keyB c).size ≤ maxLen := by
      rw [keyB_size]
      have h1 := holes 33554434 c hc.nodup (fun x hx => hlit x ((hc.mem x).1 hx))
      unfold maxLen; omega
    have hS3 : SameAt w3 P H t.rows m F := hS.fr (fun b hb _ => hf.block b hb trivial) (fun _ _ h => h) fun _ _ => Iff.rfl
    obtain ⟨W, hW⟩ : ∃ W, w3.drew.alloc (.cells #[.int .i32 (row : Int)] 21) = W := ⟨_, rfl⟩
    have hSW : SameAt W P H t.rows m F := hS3.fr (fun b hb _ => by rw [← hW]; exact heap_alloc_old w3.drew _ hb) (fun _ _ h => h) fun _ _ => Iff.rfl
    have hb3 := (hf.block bb (block_lt hbk) trivial).trans hbk
    have hbW : W.heap[bb]? = some (.cells #[.pointer (some ⟨L.sb, 0, none⟩), .bool sure, .bool never, .map (some m)] 63 (0, 0)) := by rw [← hW]; exact (heap_alloc_old w3.drew _ (block_lt hb3)).trans hb3
    have hsz : W.heap.size = w3.heap.size + 1 := by rw [← hW]; simp
    have hBn : W.heap[w3.heap.size]? = some (.cells #[.int .i32 (row : Int)] 21 (0, 0)) := by rw [← hW]; exact heap_new rfl
    obtain ⟨l, hl1, hl2, hl3⟩ := hSW.rw_ (keyB c)
    have hfew := few_keys hl2 hl3
    obtain ⟨v4, w4, a1, a2, a3, a4⟩ := app_rws hl1 row w3.heap.size 1 hBn (by omega) 56
    have keep : ∀ b, b < W.heap.size → (F (keyB c)).ownBlock ≠ some b → w4.heap[b]? = W.heap[b]? := fun b hb hne => a3.block b hb (fun e => hne e.symm)
    have hm4 : MapF w4 m F := hSW.mp.of (keep m hSW.mp.lt (hSW.mo _))
    have hbb : (F (keyB c)).ownBlock ≠ some bb := fun q => hP bb (hS.bl _ _ q) rfl
    obtain ⟨w5, u1, u2, u3, u4⟩ := hm4.put hk v4
    have hFW : Fr (fun _ => True) w W := by rw [← hW]; exact hf.drew.alloc _
    refine ⟨F (keyB c), ⟨?_, (hS3.mp.of (w' := w3.drew) rfl).look hk⟩, ⟨?_, ?_⟩, v4, w4, ?_, ?_, w5, u1, ?_, rfl, ?_, putF F (keyB c) v4, ?_⟩
    · show w3.cell? _ = _
      rw [block_cell hb3]; rfl
    · rw [hW, block_cell hbW]; rfl
    · rw [hW]; exact hSW.mp.look hk
    · rw [hW]; exact a1
    · rw [block_cell ((keep bb (block_lt hbW) hbb).trans hbW)]; rfl
    · rw [block_cell ((u3.block bb (Nat.lt_of_lt_of_le (block_lt hbW) a3.size) (fun e => hP bb (by rw [e]; exact hS.pm) rfl)).trans ((keep bb (block_lt hbW) hbb).trans hbW))]; rfl
    · refine ⟨u3.os.trans (a3.os.trans hFW.os), u3.tape.trans (a3.tape.trans hFW.tape), u3.output.trans (a3.output.trans hFW.output), Nat.le_trans hFW.size (Nat.le_trans a3.size u3.size), fun b hb hp => ?_⟩
      have hbW2 : b < W.heap.size := Nat.lt_of_lt_of_le hb hFW.size
      exact (u3.block b (Nat.lt_of_lt_of_le hbW2 a3.size) (fun e => hp (by rw [e]; exact hS.pm))).trans ((keep b hbW2 (fun q => hp (hS.bl _ _ q))).trans (hFW.block b hb trivial))
    · have hv5 : RwsAt w5 v4 (l ++ [row]) := a2.fr fun g hg => u3.block g (a2.lt hg) (fun e => by
        rcases a4 with z | z
        · rw [z, e] at hg; exact hSW.mo _ hg
        · rw [z] at hg
          have := Option.some.inj hg
          have := hSW.mp.lt
          omega)
      have hkey : HasKey t.rows (keyB c) row := ⟨d, c, hr, hc, rfl⟩
      have hz := hSW.note hkey hH hl3 hl2 u2 hv5 a4 (fun b hb h1 h2 => (u3.block b (Nat.lt_of_lt_of_le hb a3.size) h1).trans (keep b hb h2)) hSW.mo
      have hs1 := hFW.size
      exact hz.fr (fun _ _ _ => rfl) (fun b _ q => q.imp id fun z => Nat.le_trans hs1 z) fun _ _ => Iff.rfl
  clear hA hbk hP hS hv hro hrv hr hH
  go_enter Try.func44, Try.ntmps44
  go_wp2_with fail
  go_at_call 63
  refine HCL.out.mono ?_
  rintro e w1 ⟨hF1, g, cap', D, rfl, hg, hLR, hDs, hDt⟩
  have HSO : Hid (Calls _ _ _ _ _) := sort_any w1 g d.length cap' D hLR (by omega) hDs
  have HF1 : Hid (Fr (fun _ => True) w w1) := hF1
  clear HCL hF1 hLR
  go_wp2_with fail
  go_at_call 31
  refine HSO.out.mono ?_
  rintro e w2 ⟨rfl, D', hD', hL2, hF2⟩
  have hsz : D'.size = D.size := hD'.1.1
  have hset := sorted_set hD' hDt hnd
  obtain ⟨c, hc⟩ : ∃ c, D'.toList.take d.length = c := ⟨_, rfl⟩
  rw [hc] at hset
  have hcl : c.length = d.length := by rw [← hc]; simp; omega
  have HKE : Hid (Calls _ _ _ _ _) := key_any w2 g cap' c D' hL2 (by rw [hcl]; exact hc) (fun x hx => hlit x ((hset.mem x).1 hx)) (by omega)
  rw [hcl] at HKE
  have HF2 : Hid (Fr (fun _ => True) w w2) := ⟨hF2.os.trans HF1.out.os, hF2.tape.trans HF1.out.tape, hF2.output.trans HF1.out.output, Nat.le_trans HF1.out.size hF2.size, fun b hb _ => (hF2.block b (Nat.lt_of_lt_of_le hb HF1.out.size) (by omega)).trans (HF1.out.block b hb trivial)⟩
  have HST : Hid (SetOf d c) := hset
  clear HSO HF1 hF2 hL2 hD' hset hDt hc hsz
  go_wp2_with fail
  go_at_call 35
  refine HKE.out.mono ?_
  rintro e w3 ⟨rfl, hF3⟩
  obtain ⟨V, ⟨d1, d2⟩, ⟨d3, d4⟩, v4, w4, a1, a2, w5, a4, a6, a5⟩ := HFIN.out w3 c HST.out (HF2.out.trans (hF3.mono fun _ _ => trivial))
  obtain ⟨K, hK⟩ : ∃ K, keyB c = K := ⟨_, rfl⟩
  rw [hK] at d2 d4 a4 ⊢
  have d5 : (Instr.lookup 61 (.map (some m)) (.string K) false).run Try.prog (w3.alloc (.cells #[.int .i32 (row : Int)] 21)).drew = .ok V (w3.alloc (.cells #[.int .i32 (row : Int)] 21)).drew := d4
  have A1 : Hid _ := a1
  have A4 : Hid _ := a4
  have A5 : Hid (NotePost w P H t.rows m row (.returned (.tuple #[])) w5) := a5
  clear HKE HF2 hF3 HST HFIN a1 a4 a5 hK c0 cs cr hlit
  go_wp2_with fail
  refine wp_region_noPanic ?_
  refine wp_region_held_drew (S := fun w' => w'.cell? ⟨bb, 3, none⟩ = some (.map (some m))) (by kernel_rfl) d1 (fun hHeld => ?_)
  refine wpAnyH_take (i := 0) (oi := ({ dst := some 21, op := Op.move (Operand.tmp 0), type := 40, pos := _, after := #[], guard := none } : Oper)) (v := ?_) rfl (by kernel_rfl) (by kernel_rfl) (by kernel_rfl) (fun _ _ _ h => h) (Or.inl ⟨by rfl, ?_⟩) hHeld ?_
  rotate_left
  · intro w0 hS0; (try dsimp only at hS0); go_simp; try with_reducible rfl
  try simp only [Act.put, List.setIfInBounds_toArray, List.set_cons_zero, List.set_cons_succ]
  refine wpAnyH_take (i := 1) (oi := ({ dst := some 22, op := Op.nilCheck (Operand.tmp 21), type := 0, pos := _, after := #[{ on := 0, ground := Ground.data }], guard := none } : Oper)) (v := ?_) rfl (by kernel_rfl) (by kernel_rfl) (by kernel_rfl) (fun _ _ _ h => h) (Or.inl ⟨by rfl, ?_⟩) hHeld ?_
  rotate_left
  · intro w0 hS0; (try dsimp only at hS0); go_simp; try with_reducible rfl
  try simp only [Act.put, List.setIfInBounds_toArray, List.set_cons_zero, List.set_cons_succ]
  refine wpAnyH_take (i := 2) (oi := ({ dst := some 23, op := Op.fieldAddr 63 (Operand.tmp 22) 3, type := 0, pos := _, after := #[{ on := 1, ground := Ground.data }], guard := none } : Oper)) (v := ?_) rfl (by kernel_rfl) (by kernel_rfl) (by kernel_rfl) (fun _ _ _ h => h) (Or.inl ⟨by rfl, ?_⟩) hHeld ?_
  rotate_left
  · intro w0 hS0; (try dsimp only at hS0); go_simp; try with_reducible rfl
  try simp only [Act.put, List.setIfInBounds_toArray, List.set_cons_zero, List.set_cons_succ]
  refine wpAnyH_take (i := 3) (oi := ({ dst := some 24, op := Op.load 61 (Operand.tmp 23), type := 61, pos := _, after := #[{ on := 2, ground := Ground.data }], guard := none } : Oper)) (v := ?_) rfl (by kernel_rfl) (by kernel_rfl) (by kernel_rfl) (fun _ _ _ h => h) (Or.inl ⟨by rfl, ?_⟩) hHeld ?_
  rotate_left
  · intro w0 hS0; (try dsimp only at hS0); go_simp; try with_reducible rfl
  try simp only [Act.put, List.setIfInBounds_toArray, List.set_cons_zero, List.set_cons_succ]
  refine wpAnyH_take (i := 4) (oi := ({ dst := some 25, op := Op.move (Operand.tmp 5), type := 9, pos := _, after := #[], guard := none } : Oper)) (v := ?_) rfl (by kernel_rfl) (by kernel_rfl) (by kernel_rfl) (fun _ _ _ h => h) (Or.inl ⟨by rfl, ?_⟩) hHeld ?_
  rotate_left
  · intro w0 hS0; (try dsimp only at hS0); go_simp; try with_reducible rfl
  try simp only [Act.put, List.setIfInBounds_toArray, List.set_cons_zero, List.set_cons_succ]
  refine wpAnyH_take (i := 5) (oi := ({ dst := some 26, op := Op.move (Operand.tmp 0), type := 40, pos := _, after := #[], guard := none } : Oper)) (v := ?_) rfl (by kernel_rfl) (by kernel_rfl) (by kernel_rfl) (fun _ _ _ h => h) (Or.inl ⟨by rfl, ?_⟩) hHeld ?_
  rotate_left
  · intro w0 hS0; (try dsimp only at hS0); go_simp; try with_reducible rfl
  try simp only [Act.put, List.setIfInBounds_toArray, List.set_cons_zero, List.set_cons_succ]
  refine wpAnyH_take (i := 6) (oi := ({ dst := some 27, op := Op.nilCheck (Operand.tmp 26), type := 0, pos := _, after := #[{ on := 5, ground := Ground.data }], guard := none } : Oper)) (v := ?_) rfl (by kernel_rfl) (by kernel_rfl) (by kernel_rfl) (fun _ _ _ h => h) (Or.inl ⟨by rfl, ?_⟩) hHeld ?_
  rotate_left
  · intro w0 hS0; (try dsimp only at hS0); go_simp; try with_reducible rfl
  try simp only [Act.put, List.setIfInBounds_toArray, List.set_cons_zero, List.set_cons_succ]
  refine wpAnyH_take (i := 7) (oi := ({ dst := some 28, op := Op.fieldAddr 63 (Operand.tmp 27) 3, type := 0, pos := _, after := #[{ on := 6, ground := Ground.data }], guard := none } : Oper)) (v := ?_) rfl (by kernel_rfl) (by kernel_rfl) (by kernel_rfl) (fun _ _ _ h => h) (Or.inl ⟨by rfl, ?_⟩) hHeld ?_
  rotate_left
  · intro w0 hS0; (try dsimp only at hS0); go_simp; try with_reducible rfl
  try simp only [Act.put, List.setIfInBounds_toArray, List.set_cons_zero, List.set_cons_succ]
  refine wpAnyH_take (i := 8) (oi := ({ dst := some 29, op := Op.load 61 (Operand.tmp 28), type := 61, pos := _, after := #[{ on := 7, ground := Ground.data }], guard := none } : Oper)) (v := ?_) rfl (by kernel_rfl) (by kernel_rfl) (by kernel_rfl) (fun _ _ _ h => h) (Or.inl ⟨by rfl, ?_⟩) hHeld ?_
  rotate_left
  · intro w0 hS0; (try dsimp only at hS0); go_simp; try with_reducible rfl
  try simp only [Act.put, List.setIfInBounds_toArray, List.set_cons_zero, List.set_cons_succ]
  refine wpAnyH_take (i := 9) (oi := ({ dst := some 30, op := Op.move (Operand.tmp 5), type := 9, pos := _, after := #[], guard := none } : Oper)) (v := ?_) rfl (by kernel_rfl) (by kernel_rfl) (by kernel_rfl) (fun _ _ _ h => h) (Or.inl ⟨by rfl, ?_⟩) hHeld ?_
  rotate_left
  · intro w0 hS0; (try dsimp only at hS0); go_simp; try with_reducible rfl
  try simp only [Act.put, List.setIfInBounds_toArray, List.set_cons_zero, List.set_cons_succ]
  refine wpAnyH_take (i := 11) (oi := ({ dst := some 32, op := Op.move (Operand.tmp 1), type := 21, pos := _, after := #[], guard := none } : Oper)) (v := ?_) rfl (by kernel_rfl) (by kernel_rfl) (by kernel_rfl) (fun _ _ _ h => h) (Or.inl ⟨by rfl, ?_⟩) hHeld ?_
  rotate_left
  · intro w0 hS0; (try dsimp only at hS0); go_simp; try with_reducible rfl
  try simp only [Act.put, List.setIfInBounds_toArray, List.set_cons_zero, List.set_cons_succ]
  refine wpAnyH_ready (rs := [10, 12]) (by kernel_rfl) (by simp) ?_
  refine AllReadyH.cons (o := ({ dst := some 31, op := Op.lookup 61 (Operand.tmp 29) (Operand.tmp 30) false, type := 56, pos := _, after := #[{ on := 8, ground := Ground.data }, { on := 9, ground := Ground.data }], guard := none } : Oper)) rfl (fun KK hK => ?_) (AllReadyH.cons (o := ({ dst := some 33, op := Op.buildSlice 56 1 #[(0, Operand.tmp 32)], type := 56, pos := _, after := #[{ on := 11, ground := Ground.data }], guard := none } : Oper)) rfl (fun KK hK => ?_) AllReadyH.nil)
  · go_simp
    refine hK.out _ _ ?_ (fun hHeld2 => ?_)
    · exact d1
    clear hK KK
    try simp only [Act.put, List.setIfInBounds_toArray, List.set_cons_zero, List.set_cons_succ]
    refine wpAnyH_ready (rs := [12]) (by kernel_rfl) (by simp) ?_
    refine AllReadyH.cons (o := ({ dst := some 33, op := Op.buildSlice 56 1 #[(0, Operand.tmp 32)], type := 56, pos := _, after := #[{ on := 11, ground := Ground.data }], guard := none } : Oper)) rfl (fun KK hK => ?_) AllReadyH.nil
    go_simp
    refine hK.out _ _ ?_ (fun hHeld3 => ?_)
    · exact d3
    clear hK KK
    try simp only [Act.put, List.setIfInBounds_toArray, List.set_cons_zero, List.set_cons_succ]
    refine wpAnyH_ready (rs := [13]) (by kernel_rfl) (by simp) ?_
    refine AllReadyH.cons (o := ({ dst := some 34, op := Op.call { callee := Callee.builtin Builtin.append, args := #[Operand.tmp 31, Operand.tmp 33], argTypes := #[56, 56] }, type := 56, pos := _, after := #[{ on := 10, ground := Ground.data }, { on := 12, ground := Ground.data }], guard := none } : Oper)) rfl (fun KK hK => ?_) AllReadyH.nil
    refine step_append_run rfl _ _ 56 rfl V (.slice (some ⟨w3.heap.size, 0, none⟩) 1 1) v4 w4 rfl rfl A1.out ?_
    refine hK.out _ _ ?_ (fun hHeld4 => ?_)
    · exact a2
    clear hK KK
    try simp only [Act.put, List.setIfInBounds_toArray, List.set_cons_zero, List.set_cons_succ]
    refine wpAnyH_ready (rs := [14]) (by kernel_rfl) (by simp) ?_
    refine AllReadyH.cons (o := ({ dst := none, op := Op.mapUpdate 61 (Operand.tmp 24) (Operand.tmp 25) (Operand.tmp 34), type := 0, pos := _, after := #[{ on := 3, ground := Ground.data }, { on := 4, ground := Ground.data }, { on := 13, ground := Ground.data }, { on := 13, ground := Ground.chain }, { on := 0, ground := Ground.phase }, { on := 1, ground := Ground.phase }, { on := 2, ground := Ground.phase }, { on := 3, ground := Ground.phase }, { on := 4, ground := Ground.phase }, { on := 5, ground := Ground.phase }, { on := 6, ground := Ground.phase }, { on := 7, ground := Ground.phase }, { on := 8, ground := Ground.phase }, { on := 9, ground := Ground.phase }, { on := 10, ground := Ground.phase }, { on := 11, ground := Ground.phase }, { on := 12, ground := Ground.phase }, { on := 13, ground := Ground.phase }], guard := none } : Oper)) rfl (fun KK hK => ?_) AllReadyH.nil
    have a4 := A4.out
    go_simp
    refine hK.out _ _ ?_ (fun _ => ?_)
    · exact a6
    clear hK KK
    refine wpAnyH_done (by kernel_rfl) ?_ _
    refine NoPanic.normal ?_
    go_wp2_with fail
    go_end0
    exact A5.out
  · go_simp
    refine hK.out _ _ ?_ (fun hHeld2 => ?_)
    · exact d3
    clear hK KK
    try simp only [Act.put, List.setIfInBounds_toArray, List.set_cons_zero, List.set_cons_succ]
    refine wpAnyH_ready (rs := [10]) (by kernel_rfl) (by simp) ?_
    refine AllReadyH.cons (o := ({ dst := some 31, op := Op.lookup 61 (Operand.tmp 29) (Operand.tmp 30) false, type := 56, pos := _, after := #[{ on := 8, ground := Ground.data }, { on := 9, ground := Ground.data }], guard := none } : Oper)) rfl (fun KK hK => ?_) AllReadyH.nil
    go_simp
    refine hK.out _ _ ?_ (fun hHeld3 => ?_)
    · exact d3
    clear hK KK
    try simp only [Act.put, List.setIfInBounds_toArray, List.set_cons_zero, List.set_cons_succ]
    refine wpAnyH_ready (rs := [13]) (by kernel_rfl) (by simp) ?_
    refine AllReadyH.cons (o := ({ dst := some 34, op := Op.call { callee := Callee.builtin Builtin.append, args := #[Operand.tmp 31, Operand.tmp 33], argTypes := #[56, 56] }, type := 56, pos := _, after := #[{ on := 10, ground := Ground.data }, { on := 12, ground := Ground.data }], guard := none } : Oper)) rfl (fun KK hK => ?_) AllReadyH.nil
    refine step_append_run rfl _ _ 56 rfl V (.slice (some ⟨w3.heap.size, 0, none⟩) 1 1) v4 w4 rfl rfl A1.out ?_
    refine hK.out _ _ ?_ (fun hHeld4 => ?_)
    · exact a2
    clear hK KK
    try simp only [Act.put, List.setIfInBounds_toArray, List.set_cons_zero, List.set_cons_succ]
    refine wpAnyH_ready (rs := [14]) (by kernel_rfl) (by simp) ?_
    refine AllReadyH.cons (o := ({ dst := none, op := Op.mapUpdate 61 (Operand.tmp 24) (Operand.tmp 25) (Operand.tmp 34), type := 0, pos := _, after := #[{ on := 3, ground := Ground.data }, { on := 4, ground := Ground.data }, { on := 13, ground := Ground.data }, { on := 13, ground := Ground.chain }, { on := 0, ground := Ground.phase }, { on := 1, ground := Ground.phase }, { on := 2, ground := Ground.phase }, { on := 3, ground := Ground.phase }, { on := 4, ground := Ground.phase }, { on := 5, ground := Ground.phase }, { on := 6, ground := Ground.phase }, { on := 7, ground := Ground.phase }, { on := 8, ground := Ground.phase }, { on := 9, ground := Ground.phase }, { on := 10, ground := Ground.phase }, { on := 11, ground := Ground.phase }, { on := 12, ground := Ground.phase }, { on := 13, ground := Ground.phase }], guard := none } : Oper)) rfl (fun KK hK => ?_) AllReadyH.nil
    have a4 := A4.out
    go_simp
    refine hK.out _ _ ?_ (fun _ => ?_)
    · exact a6
    clear hK KK
    refine wpAnyH_done (by kernel_rfl) ?_ _
    refine NoPanic.normal ?_
    go_wp2_with fail
    go_end0
    exact A5.out

end Go.Proofs.Ytbicefgjompnoaa.Sx
