/- The store: look. -/
import Derived.Test.YtbicefgjompnoaaA25
import Derived.Test.YtbicefgjompnoaaA27
import Derived.Test.YtbicefgjompnoaaA28
import Derived.Test.YtbicefgjompnoaaA29
import Derived.Shelf.SlicesE.DeleteFunc
namespace Go.Proofs.Ytbicefgjompnoaa.Sx
open Go.RowKit Go.Sort

set_option maxRecDepth 100000 in
set_option maxHeartbeats 4000000 in
theorem look_none (w : World) (L : Ly) (n : Nat) (s : St) (no cap : Nat) (a : Option Addr) (h : SAt w L n s) (hno : no < 2 * n) (hv : L.wv[no]? = some (.slice a 0 cap)) (h0 : s.watches.getD no [] = []) :
    Calls Try.prog 61 #[.pointer (some ⟨L.sb, 0, none⟩), .int .i32 (no : Int)] w (StPost w L n s (.int .i32 (-1))) := by
  have mo := follows
  have hn := h.2.n_
  obtain ⟨t1, t2⟩ := h.1.wt trivial
  obtain ⟨v, e1, e2⟩ := h.1.wl no trivial hno
  rw [hv] at e1
  cases e1
  have hs : wset s no [] = s := by rw [← h0]; exact wset_self (by rw [h.2.wt]; exact hno)
  have hp := h.putW hno (v' := .slice a 0 cap) (kept := []) (by rw [h0] at e2; exact e2)
  rw [hs] at hp
  have q := (FrS.refl L w).set (b := L.wb) (i := no) (v := .slice a 0 cap) (by rw [t2]; simp)
  have HP : Hid (StPost w L n s (.int .i32 (-1)) (.returned (.int .i32 (-1))) (w.setCell ⟨L.wb, no, none⟩ (.slice a 0 cap))) := ⟨rfl, _, hp, ⟨q.os, q.tape, q.output, q.size, q.block, q.own, q.sb⟩⟩
  have c3 : w.cell? ⟨L.sb, 3, none⟩ = some (.slice (some ⟨L.wb, 0, none⟩) (2 * n) (2 * n)) := h.cell 3
  have cw : w.cell? ⟨L.wb, no, none⟩ = some (.slice a 0 cap) := by rw [block_cell t1]; simpa using hv
  have fw := frozen_block t1 no
  have x1 : (no : Int) < 2 * (n : Int) := by omega
  have x2 : (no : Int) < ((2 * n : Nat) : Int) := by omega
  have ha : (a = none ∧ cap = 0) ∨ ∃ g, a = some ⟨g, 0, none⟩ := by
    rcases e2.1.2 with ⟨q, _⟩ | ⟨g, cap', cur, e, _⟩
    · cases q; exact .inl ⟨rfl, rfl⟩
    · exact .inr ⟨g, (Value.slice.inj e).1⟩
  clear h hv h0 e2 hs hp q t1 t2
  rcases ha with ⟨rfl, rfl⟩ | ⟨g, rfl⟩
  all_goals
    go_enter Try.func61, Try.ntmps61
    go_wp2_with fail
    go_step3
    go_wp2_with fail
    go_step3
    go_wp2_with fail
    refine wp_loop_rounds 1 ?_
    rw [rounds_succ]
    go_wp2_with fail
    first | go_ret | (rw [Exit.noGoto_ret]; go_ret)
    exact HP.out

theorem look_any (w : World) (L : Ly) (n : Nat) (s : St) (no : Nat) (h : SAt w L n s) (hI : LkI n s) (hno : no < 2 * n) (ht : s.truth.getD no 0 = -1) :
    Calls Try.prog 61 #[.pointer (some ⟨L.sb, 0, none⟩), .int .i32 (no : Int)] w (StPost w L n (lookP s no).1 (.int .i32 (lookP s no).2)) := by
  obtain ⟨R, hR⟩ : ∃ R, lookG no (s.watches.getD no []) [] s = R := ⟨_, rfl⟩
  have e1 : lookP s no = (wset R.1 no R.2.1, R.2.2) := by unfold lookP; rw [hR]; rfl
  rw [e1]
  obtain ⟨v, hv, hw⟩ := h.1.wl no trivial hno
  by_cases h0 : s.watches.getD no [] = []
  · obtain ⟨a, cap, hf⟩ := hw.form
    rw [h0] at hf
    subst hf
    have hs : wset s no [] = s := by rw [← h0]; exact wset_self (by rw [h.2.wt]; exact hno)
    rw [h0] at hR
    have hR' : (s, ([] : List (Nat × Nat)), (-1 : Int)) = R := hR
    rw [← hR']
    show Calls _ _ _ _ (StPost w L n (wset s no []) (.int .i32 (-1)))
    rw [hs]
    exact look_none w L n s no cap a h hno hv h0
  · rcases hw.1.2 with ⟨q, q2⟩ | ⟨g, cap, cur, e, _⟩
    · exact absurd (List.length_eq_zero_iff.1 q2) h0
    · subst e
      exact look_some w L n s no _ cap g R h hI hno ht hv hR

/-- look does as it should -/
theorem lookOK (n : Nat) : LookOK n (LkI n) := by
  have key : ∀ s, LkI n s → s.done < s.trail.length → opp (s.trail.getD s.done 0) < 2 * n ∧ s.truth.getD (opp (s.trail.getD s.done 0)) 0 = -1 := fun s hI hd => by
    have hm : s.trail.getD s.done 0 ∈ s.trail := getD_mem hd
    exact ⟨opp_lt (hI.tr.lt _ hm), (hI.tr.tr _ hm).2⟩
  have kp : ∀ s, LkI n s → s.done < s.trail.length → LkI n (nextS s).1 ∧ (nextS s).1.done = s.done + 1 ∧ -1 ≤ (nextS s).2 ∧ (nextS s).2 ≤ 2147483647 := fun s hI hd => by
    obtain ⟨h1, h2⟩ := key s hI hd
    have hI' := hI.done (s.done + 1)
    have := lookG_keep h1 _ [] _ (hI'.start (no := opp (s.trail.getD s.done 0)) h2)
    rcases this with ⟨q1, q2, q3, q4, q5⟩ | q
    · exact ⟨q1, q2, q4, q5⟩
    · exact absurd hI'.sum q
  refine ⟨fun w L s hI hd h => ?_, fun s hI hd => (kp s hI hd).1, fun s hI hd => (kp s hI hd).2.1, fun s hI hd => (kp s hI hd).2.2⟩
  obtain ⟨h1, h2⟩ := key s hI hd
  exact look_any w L n { s with done := s.done + 1 } _ h (hI.done _) h1 h2

end Go.Proofs.Ytbicefgjompnoaa.Sx
/- The program: a book in memory; rows that are gone are struck. -/
namespace Go.Proofs.Ytbicefgjompnoaa.Sx
open Go.RowKit Go.Sort Go.Lib Go.Shelf

/-- a book in memory -/
structure BkAt (w : World) (L : Ly) (n : Nat) (s : St) (bb : Nat) (sure never : Bool) (mv : Value) : Prop where
  at_ : SAt w L n s
  bk : w.heap[bb]? = some (.cells #[.pointer (some ⟨L.sb, 0, none⟩), .bool sure, .bool never, mv] 63 (0, 0))
  ow : L.own bb = (0, 0)

set_option maxRecDepth 100000 in
set_option maxHeartbeats 1000000 in
theorem newBook_any (w : World) (sb : Nat) : Calls Try.prog 14 #[.pointer (some ⟨sb, 0, none⟩)] w fun e w' => e = .returned (.pointer (some ⟨w.heap.size, 0, none⟩)) ∧ w' = w.alloc (.cells #[.pointer (some ⟨sb, 0, none⟩), .bool false, .bool false, .map none] 63) := by
  have mo := follows
  go_enter Try.func14, Try.ntmps14
  go_wp2_with fail
  go_ret
  exact ⟨rfl, rfl⟩

set_option maxRecDepth 100000 in
set_option maxHeartbeats 2000000 in
theorem settle1_any (W : World) (px bb sb rg RL rc r len cap : Nat) (a : Option Addr) (h1 : W.cell? ⟨px, 0, none⟩ = some (.pointer (some ⟨bb, 0, none⟩))) (h2 : W.cell? ⟨bb, 0, none⟩ = some (.pointer (some ⟨sb, 0, none⟩))) (h3 : W.cell? ⟨sb, 0, none⟩ = some (.slice (some ⟨rg, 0, none⟩) RL rc)) (h4 : W.cell? ⟨rg, r, none⟩ = some (.slice a len cap)) (hr : r < RL) :
    Calls Try.prog 58 #[.int .i32 (r : Int), .pointer (some ⟨px, 0, none⟩)] W fun e w' => e = .returned (.bool a.isNone) ∧ ∃ q, w' = W.drewN q := by
  have mo := follows
  have r1 : (r : Int) < (RL : Int) := by omega
  have rn : ∀ w : World, (binOp .eql 44 (.slice a len cap) (.slice none 0 0)).run Try.prog w = .ok (.bool a.isNone) w := fun w => Lib.run_eql_slice_nil w 44 70 a len cap 0 0 Try.underlying44
  go_enter Try.func58, Try.ntmps58
  go_wp2_with fail
  go_ret
  exact ⟨rfl, 0, rfl⟩

/-- a row of its own, written over -/
theorem put_row {α : Type} [Inhabited α] {enc : α → Value} {w : World} {g cap m k : Nat} {cur : Array Value} {d D : Array α} (hH : Holds enc w g 0 d) (hg : w.heap[g]? = some (.cells cur 21 (0, 0))) (hm : d.size = m) (hD : D.size = d.size) (hk : k ≤ m) (hc : cur.size = cap * 1) (hcap : m ≤ cap) {xs : List Value} (hx : xs.length = k) (he : ∀ j u, xs[j]? = some u → ∃ h : j < D.size, u = enc D[j]) (hmx : cap ≤ maxLen) (q : Nat) :
    (putRow enc (Sort.ahead w q) g 0 D).ownsRow 0 21 1 (.slice (some ⟨g, 0, none⟩) k cap) k xs ∧ Fr (· ≠ g) w (putRow enc (Sort.ahead w q) g 0 D) := by
  have hH' : Holds enc (Sort.ahead w q) g 0 d := hH
  have hb : (putRow enc (Sort.ahead w q) g 0 D).heap[g]? = some (.cells (putCells enc 0 D cur) 21 (0, 0)) := by simp [putRow, mapBlock, Array.getElem?_modify, hg, onCells]
  have hs : (putCells enc 0 D cur).size = cur.size := by simp [putCells]
  refine ⟨⟨by omega, .inr ⟨g, cap, putCells enc 0 D cur, rfl, Nat.zero_le _, hb, by omega, hmx, by rw [hs]; exact hc, ?_⟩⟩, ⟨rfl, rfl, rfl, by simp [putRow, mapBlock, Sort.ahead], fun b _ hne => by simp [putRow, mapBlock, Array.getElem?_modify, Ne.symm hne, Sort.ahead]⟩⟩
  apply List.ext_getElem?
  intro j
  by_cases hj : j < k
  · have hjx : j < xs.length := by omega
    obtain ⟨h1, h2⟩ := he j xs[j] (List.getElem?_eq_getElem hjx)
    have hcl := cell?_putRow enc (Sort.ahead w q) g 0 d D hH' hD j (by omega)
    rw [Nat.zero_add, block_cell hb] at hcl
    rw [List.getElem?_take, if_pos (by omega), List.getElem?_eq_getElem hjx, h2, Array.getElem?_toList, hcl]
    simp [h1]
  · rw [List.getElem?_take, if_neg (by omega), List.getElem?_eq_none (by omega)]

end Go.Proofs.Ytbicefgjompnoaa.Sx
/- The program: gather. -/
namespace Go.Proofs.Ytbicefgjompnoaa.Sx
open Go.RowKit Go.Sort Go.Maps

/-- what gather comes to -/
def GatPost (w : World) (L : Ly) (n : Nat) (t : St) (bb : Nat) (sure never : Bool) (P : Nat → Prop) (e : Ending) (w' : World) : Prop :=
  e = .returned (.tuple #[]) ∧ ∃ m F, BkAt w' (nrm L w.heap.size) n t bb sure never (.map (some m)) ∧ SameAt w' (fun b => P b ∨ w.heap.size ≤ b) (fun _ => True) t.rows m F ∧ Fr (fun b => ¬ P b ∧ b ≠ bb) w w'

theorem Fr.trans2 {P Q : Nat → Prop} {a b c : World} (h : Fr P a b) (k : Fr Q b c) (hq : ∀ i, i < a.heap.size → P i → Q i) : Fr P a c :=
  ⟨k.os.trans h.os, k.tape.trans h.tape, k.output.trans h.output, Nat.le_trans h.size k.size, fun i hi hp => (k.block i (Nat.lt_of_lt_of_le hi h.size) (hq i hi hp)).trans (h.block i hi hp)⟩

/-- a row that is there -/
theorem BB.row {n : Nat} {t : St} (h : BB n t) (hn : n ≤ 16777216) {r : Nat} {d : List Nat} (hr : t.rows[r]? = some (some d)) : d.Nodup ∧ 0 < d.length ∧ ∀ x ∈ d, x < 33554434 := by
  refine ⟨h.W.nd r d hr, ?_, fun x hx => ?_⟩
  · cases d with
    | nil => exact absurd hr (h.R.no0 r)
    | cons a d => simp
  · have := h.I.lit r d hr x hx
    omega

set_option maxRecDepth 100000 in
set_option maxHeartbeats 4000000 in
theorem gather_any (w : World) (L : Ly) (n : Nat) (t : St) (bb : Nat) (sure never : Bool) (mv : Value) (P : Nat → Prop) (h : BkAt w L n t bb sure never mv) (hB : BB n t) (hM : MvAt w P t.rows mv) (hPb : ∀ b, P b → b ≠ bb) (hPo : ∀ b, P b → L.own b = (0, 0)) :
    Calls Try.prog 34 #[.pointer (some ⟨bb, 0, none⟩)] w (GatPost w L n t bb sure never P) := by
  have mo := follows
  have q61 : ∀ (w : World) (r : Option Nat), (binOp .neq 61 (.map r) (.map none)).run Try.prog w = .ok (.bool (!r.isNone)) w := fun w r => run_neq_map_nil w _ _ _ r Try.underlying61
  have hbk := h.bk
  have hbl := block_lt hbk
  rcases hM with ⟨rfl, hno⟩ | ⟨m, F, rfl, hS⟩
  · -- it is made now
    obtain ⟨ra, rc, hrv⟩ := (h.at_.1.ro trivial).form
    have hrows := h.at_.2.rows
    have hn := h.at_.2.n_
    have c3 : w.cell? ⟨bb, 3, none⟩ = some (.map none) := by rw [block_cell hbk]; rfl
    obtain ⟨m, hm⟩ : ∃ m, w.heap.size = m := ⟨_, rfl⟩
    obtain ⟨W, hW⟩ : ∃ W, (w.alloc (.map #[] 0)).setCell ⟨bb, 3, none⟩ (.map (some m)) = W := ⟨_, rfl⟩
    have z3 : (w.alloc (.map #[] 0)).frozen? ⟨bb, 3, none⟩ = false := frozen_block ((heap_alloc_old w _ hbl).trans hbk) 3
    have y3 : (w.alloc (.map #[] 0)).cell? ⟨bb, 3, none⟩ = some (.map none) := by rw [block_cell ((heap_alloc_old w _ hbl).trans hbk)]; rfl
    have hbW : W.heap[bb]? = some (.cells #[.pointer (some ⟨L.sb, 0, none⟩), .bool sure, .bool never, .map (some m)] 63 (0, 0)) := by
      rw [← hW]
      exact set_block ((heap_alloc_old w _ hbl).trans hbk) 3 _
    have hFW : Fr (fun b => ¬ P b ∧ b ≠ bb) w W := by
      rw [← hW]
      exact ((Fr.refl _ w).alloc _).set (by simp) _
    have hmW : MapF W m fun _ => .slice none 0 0 := by
      have h1 := MapF.new w
      rw [hm] at h1
      refine h1.of ?_
      rw [← hW]
      exact Below.heap_setCell _ ⟨bb, 3, none⟩ _ m (fun e => by have e2 : m = bb := e; omega)
    have hSW : SameAt W (fun b => P b ∨ w.heap.size ≤ b) (fun r => r < 0) t.rows m fun _ => .slice none 0 0 := by
      exact ⟨hmW, .inr (by omega), fun k b q => by simp [Value.ownBlock] at q, fun k k' b q => by simp [Value.ownBlock] at q, fun k => ⟨[], .inl ⟨rfl, rfl⟩, by simp, fun r => by simp⟩⟩
    have hAW : ∀ wr, Fr (fun b => ¬ P b ∧ b ≠ bb) w wr → SAt wr (nrm L w.heap.size) n t := fun wr hf => h.at_.frl hf fun b hb => by
      rcases Classical.em (P b) with q | q
      · exact hPo b q
      · rcases Classical.em (b = bb) with z | z
        · rw [z]; exact h.ow
        · exact absurd ⟨q, z⟩ hb
    have HAW : Hid (∀ wr, Fr (fun b => ¬ P b ∧ b ≠ bb) w wr → SAt wr (nrm L w.heap.size) n t) := hAW
    have cb0 : W.cell? ⟨bb, 0, none⟩ = some (.pointer (some ⟨L.sb, 0, none⟩)) := by rw [block_cell hbW]; rfl
    have cs0 : W.cell? ⟨L.sb, 0, none⟩ = some (.slice ra t.rows.length rc) := by have := (hAW W hFW).cell 0; simp only [stC, nrm, hrv] at this; exact this
    have HS0 : Hid (SameAt W (fun b => P b ∨ w.heap.size ≤ b) (fun r => r < 0) t.rows m fun _ => .slice none 0 0) := hSW
    have HF0 : Hid (Fr (fun b => ¬ P b ∧ b ≠ bb) w W) := hFW
    have HB0 : Hid (W.heap[bb]? = some (.cells #[.pointer (some ⟨L.sb, 0, none⟩), .bool sure, .bool never, .map (some m)] 63 (0, 0))) := hbW
    have HOW : Hid (L.own bb = (0, 0)) := h.ow
    have HM : Hid (w.heap.size = m) := hm
    have HNO : Hid (∀ r : Nat, t.rows[r]? ≠ some none) := hno
    have HRW : Hid (∀ (r : Nat) (d : List Nat), t.rows[r]? = some (some d) → d.Nodup ∧ 0 < d.length ∧ ∀ x ∈ d, x < 33554434) := fun r d hr => hB.row hn hr
    have hmk : (Instr.makeMap 61 none).run Try.prog w = .ok (.map (some m)) (w.alloc (.map #[] 0)) := by rw [← hm]; exact run_makeMap _ _
    clear hSW hFW hbW hmW hAW h hB hno hbk
    go_enter Try.func34, Try.ntmps34
    go_upto_region 2 with fail
    clear hmk y3 z3 c3 hW
    go_wp2_with fail
    go_loopg [20] (t.rows.length) (fun k s20 wr => ∃ (i : Nat) (F : ByteArray → Value), s20 = .int .i64 (i : Int) ∧ i + k = t.rows.length ∧ Hid (SameAt wr (fun b => P b ∨ w.heap.size ≤ b) (fun r => r < i) t.rows m F) ∧ Hid (Fr (fun b => ¬ P b ∧ b ≠ bb) w wr) ∧ Hid (wr.heap[bb]? = some (.cells #[.pointer (some ⟨L.sb, 0, none⟩), .bool sure, .bool never, .map (some m)] 63 (0, 0))))
    case atStart => exact ⟨0, _, rfl, by omega, HS0, HF0, HB0⟩
    case round =>
      clear HS0 HF0 HB0 cb0 cs0
      obtain ⟨i, F, rfl, hik, HS, HF, HB⟩ := hrel
      by_cases hi : i < t.rows.length
      · obtain ⟨k, rfl⟩ : ∃ k, gk = k + 1 := ⟨gk - 1, by omega⟩
        obtain ⟨d, hd⟩ : ∃ d, t.rows[i]? = some (some d) := by
          cases hq : t.rows[i] with
          | none => exact absurd (by rw [List.getElem?_eq_getElem hi, hq]) (HNO.out i)
          | some d => exact ⟨d, by rw [List.getElem?_eq_getElem hi, hq]⟩
        obtain ⟨q1, q2, q3⟩ := HRW.out i d hd
        have hPP : ∀ b, P b ∨ w.heap.size ≤ b → b ≠ bb := fun b q e => by
          rcases q with q | q
          · exact hPb b q e
          · omega
        have HN : Hid (Calls _ _ _ _ _) := note_any wr (nrm L w.heap.size) n t bb m i sure never F (fun b => P b ∨ w.heap.size ≤ b) (fun r => r < i) d (HAW.out wr HF.out) HB.out hPP HS.out hd q1 q2 q3 (by omega)
        have i0 : (0 : Int) ≤ (i : Int) := by omega
        have i1 : (i : Int) < (t.rows.length : Int) := by omega
        have iw : IntKind.i32.wrap (i : Int) = (i : Int) := by rw [IntKind.wrap_i32]; omega
        clear hd q1 q2 q3
        go_wp2_with fail
        go_at_call 44
        refine HN.out.mono ?_
        rintro e w2 ⟨rfl, f2, F', hS2⟩
        have hHr : (fun r => r < i ∨ r = i) = fun r => r < i + 1 := funext fun r => propext (by omega)
        rw [hHr] at hS2
        have hsz := HF.out.size
        have HS2 : Hid (SameAt w2 (fun b => P b ∨ w.heap.size ≤ b) (fun r => r < i + 1) t.rows m F') := hS2.fr (fun _ _ _ => rfl) (fun b _ q => q.elim id fun z => .inr (Nat.le_trans hsz z)) fun _ _ => Iff.rfl
        have HF2 : Hid (Fr (fun b => ¬ P b ∧ b ≠ bb) w w2) := HF.out.trans2 f2 fun b hb q z => z.elim q.1 fun z => by omega
        have HB2 : Hid (w2.heap[bb]? = some (.cells #[.pointer (some ⟨L.sb, 0, none⟩), .bool sure, .bool never, .map (some m)] 63 (0, 0))) := (f2.block bb (block_lt HB.out) fun z => hPP bb z rfl).trans HB.out
        clear HN f2 hS2 HS HF HB hHr hPP hsz iw
        go_wp2_with fail
        go_roundg k
        case measure => omega
        case rel => exact ⟨i + 1, F', by simp, by omega, HS2, HF2, HB2⟩
      · have i1 : ¬ (i : Int) < (t.rows.length : Int) := by omega
        obtain rfl : i = t.rows.length := by omega
        have HP : Hid (GatPost w L n t bb sure never P (.returned (.tuple #[])) wr) := ⟨rfl, m, F, ⟨HAW.out wr HF.out, HB.out, nrm_zero fun _ => HOW.out⟩, by
          refine ⟨HS.out.mp, HS.out.pm, HS.out.bl, HS.out.ap, fun k => ?_⟩
          obtain ⟨l, h1, h2, h3⟩ := HS.out.rw_ k
          refine ⟨l, h1, h2, fun r => ?_⟩
          rw [h3]
          exact ⟨fun z => ⟨z.1, trivial⟩, fun z => ⟨z.1, z.1.lt⟩⟩, HF.out⟩
        clear HS HF HB
        go_wp2_with fail
        go_end0
        exact HP.out
  · have c3 : w.cell? ⟨bb, 3, none⟩ = some (.map (some m)) := by rw [block_cell hbk]; rfl
    have HP : Hid (GatPost w L n t bb sure never P (.returned (.tuple #[])) w) := ⟨rfl, m, F, ⟨h.at_.frl (Fr.refl _ w) (fun b q => by exact absurd (show True from trivial) q), h.bk, nrm_zero fun _ => h.ow⟩, hS.fr (fun _ _ _ => rfl) (fun _ _ q => .inl q) fun _ _ => Iff.rfl, Fr.refl _ w⟩
    clear h hS hbk
    go_enter Try.func34, Try.ntmps34
    go_wp2_with fail
    go_end0
    exact HP.out

end Go.Proofs.Ytbicefgjompnoaa.Sx
/- The program: rows of one literal that are gone are struck. -/
namespace Go.Proofs.Ytbicefgjompnoaa.Sx
open Go.RowKit Go.Sort Go.Lib Go.Shelf

set_option maxRecDepth 100000 in
set_option maxHeartbeats 2000000 in
theorem index_none (w : World) (a : Option Addr) (cap : Nat) (f : Nat) (lb : Array Value) : Calls Try.prog 77 #[.slice a 0 cap, .func (.func f) #[] lb] w fun e w' => e = .returned (.int .i64 (-1)) ∧ w' = w := by
  have mo := follows
  go_enter Try.func77, Try.ntmps77
  go_wp2_with fail
  refine wp_loop_rounds 1 ?_
  rw [rounds_succ]
  go_wp2_with fail
  go_ret
  exact ⟨rfl, rfl⟩
set_option maxRecDepth 100000 in
set_option maxHeartbeats 2000000 in
theorem delete_none (w : World) (a : Option Addr) (cap : Nat) (f : Nat) (lb : Array Value) : Calls Try.prog 57 #[.slice a 0 cap, .func (.func f) #[] lb] w fun e w' => e = .returned (.slice a 0 cap) ∧ w' = w := by
  have mo := follows
  have HI : Hid (Calls _ _ _ _ _) := index_none w a cap f lb
  go_enter Try.func57, Try.ntmps57
  go_wp2_with (go_at_call 77; refine HI.out.mono ?_; rintro e w' ⟨rfl, hw⟩; replace hw := hw.symm; subst hw)
  go_ret
  exact ⟨rfl, rfl⟩

theorem filter_pmap {n : Nat} (f : Nat → Bool) : ∀ (l : List Nat) (h : ∀ x ∈ l, x < n), ((l.pmap (fun x hx => (⟨x, hx⟩ : { x : Nat // x < n })) h).filter fun x => f x.1).map (·.1) = l.filter f
  | [], _ => rfl
  | x :: l, h => by
    have ih := filter_pmap f l (fun y hy => h y (List.mem_cons_of_mem _ hy))
    simp only [List.pmap_cons, List.filter_cons]
    split
    · simp only [List.map_cons, ih]
    · exact ih

/-- what the strike leaves -/
structure DelPost (W : World) (L : Ly) (s : St) (a : Option Addr) (cap : Nat) (e : Ending) (w' : World) : Prop where
  e_ : e = .returned (.slice a (liveS s).length cap)
  ow : OwnR w' L.own (3, 0) 21 1 (.slice a (liveS s).length cap) (liveS s).length (v32 (liveS s))
  fr : Fr (fun b => L.own b ≠ (3, 0)) W w'

theorem delete_any (W : World) (L : Ly) (n : Nat) (s : St) (px bb cap : Nat) (a : Option Addr) (h : SAt W L n s) (hR : RW s) (c1 : W.cell? ⟨px, 0, none⟩ = some (.pointer (some ⟨bb, 0, none⟩))) (c2 : W.cell? ⟨bb, 0, none⟩ = some (.pointer (some ⟨L.sb, 0, none⟩))) (hpx : L.own px = (0, 0)) (hbb : L.own bb = (0, 0)) (hv : L.sv = .slice a s.single.length cap) :
    Calls Try.prog 57 #[.slice a s.single.length cap, .func (.func 58) #[] #[.pointer (some ⟨px, 0, none⟩)]] W (DelPost W L s a cap) := by
  have hsi := h.1.si trivial
  rw [hv] at hsi
  by_cases h0 : s.single = []
  · have hl0 : liveS s = [] := by unfold liveS; rw [h0]; rfl
    rw [h0] at hsi ⊢
    refine (delete_none W a cap _ _).mono ?_
    rintro e w' ⟨rfl, rfl⟩
    exact ⟨by rw [hl0]; rfl, by rw [hl0]; exact hsi, Fr.refl _ _⟩
  rcases hsi.1.2 with ⟨_, q⟩ | ⟨g, cap', cur, e1, _, hg, hmc, hmx, hcs, htk⟩
  · exact absurd (List.length_eq_zero_iff.1 q) h0
  cases e1
  have hgo : L.own g = (3, 0) := hsi.2 g rfl
  have hlt : ∀ x ∈ s.single, x < s.rows.length := hR.lt
  obtain ⟨x0, hx0⟩ : ∃ x0, x0 ∈ s.single := by
    cases hq : s.single with
    | nil => exact absurd hq h0
    | cons x l => exact ⟨x, by simp⟩
  have hpos : 0 < s.rows.length := Nat.lt_of_le_of_lt (Nat.zero_le _) (hlt x0 hx0)
  have inst : Inhabited { x : Nat // x < s.rows.length } := ⟨⟨0, hpos⟩⟩
  obtain ⟨ra, rc, hrv⟩ := (h.1.ro trivial).form
  have hro := h.1.ro trivial
  rw [hrv] at hro
  -- rows in memory
  have hrows : ∃ rg, ra = some ⟨rg, 0, none⟩ ∧ L.own rg = (2, 0) ∧ ∀ x, x < s.rows.length → ∃ a' len cp, W.cell? ⟨rg, x, none⟩ = some (.slice a' len cp) ∧ a'.isNone = (s.rows.getD x none).isNone := by
    obtain ⟨v, q1, q2⟩ := h.1.rl 0 trivial _ (List.getElem?_eq_getElem hpos)
    obtain ⟨rg, q3, q4, _, _⟩ := hro.cell1 q1
    refine ⟨rg, q3, q4, fun x hx => ?_⟩
    obtain ⟨v, p1, p2⟩ := h.1.rl x trivial _ (List.getElem?_eq_getElem hx)
    obtain ⟨rg', p3, _, p5, _⟩ := hro.cell1 p1
    rw [q3] at p3
    have : rg = rg' := by simpa using p3
    subst this
    rw [List.getD_eq_getElem?_getD, List.getElem?_eq_getElem hx]
    cases hc : s.rows[x] with
    | none => rw [hc] at p2; exact ⟨none, 0, 0, by rw [p5, show v = .slice none 0 0 from p2], by simp⟩
    | some c => rw [hc] at p2; obtain ⟨b, d, z1, _⟩ := p2; exact ⟨_, _, _, by rw [p5, z1], by simp⟩
  obtain ⟨rg, rfl, hrg, hrow⟩ := hrows
  have c3 : W.cell? ⟨L.sb, 0, none⟩ = some (.slice (some ⟨rg, 0, none⟩) s.rows.length rc) := by have := h.cell 0; simp only [stC, hrv] at this; exact this
  have hsb : L.own L.sb = (1, 0) := (h.1.st trivial).2
  -- the closure, wherever the four blocks are as they were
  have hfn : ∀ (W' : World) (x : { x : Nat // x < s.rows.length }), (∀ b, b < W.heap.size → b ≠ g → W'.heap[b]? = W.heap[b]?) → Calls Try.prog 58 #[.int .i32 (x.1 : Int), .pointer (some ⟨px, 0, none⟩)] W' fun e w' => e = .returned (.bool (s.rows.getD x.1 none).isNone) ∧ ∃ q, w' = W'.drewN q := fun W' x hW => by
    obtain ⟨a', len, cp, q1, q2⟩ := hrow x.1 x.2
    have tr : ∀ (b i : Nat) (v : Value) (t : Nat × Nat), W.cell? ⟨b, i, none⟩ = some v → L.own b = t → t ≠ (3, 0) → W'.cell? ⟨b, i, none⟩ = some v := fun b i v t z1 z2 z3 => (World.cell?_of_block (a := ⟨b, i, none⟩) (hW b (World.block_lt_of_cell? _ _ z1) (fun e => z3 (by rw [← z2, e]; exact hgo)))).trans z1
    have := settle1_any W' px bb L.sb rg s.rows.length rc x.1 len cp a' (tr _ _ _ _ c1 hpx (by decide)) (tr _ _ _ _ c2 hbb (by decide)) (tr _ _ _ _ c3 hsb (by decide)) (tr _ _ _ _ q1 hrg (by decide)) x.2
    rw [q2] at this
    exact this
  have eg : ∀ args w, (callFunc 58 args).run Try.prog w = .ok (.enter 58 args) w := enters_of Try.func58 (by kernel_rfl) rfl
  obtain ⟨d, hd⟩ : ∃ d : Array { x : Nat // x < s.rows.length }, d = (s.single.pmap (fun x hx => ⟨x, hx⟩) hlt).toArray := ⟨_, rfl⟩
  have hds : d.size = s.single.length := by rw [hd]; simp
  have hH : Holds (fun x : { x : Nat // x < s.rows.length } => Value.int .i32 (x.1 : Int)) W g 0 d := fun j hj => by
    rw [Nat.zero_add]
    refine ⟨?_, frozen_block hg j⟩
    have hjs : j < s.single.length := by omega
    rw [block_cell hg, ← Array.getElem?_toList]
    have e2 : (cur.toList.take (s.single.length * 1))[j]? = some (.int .i32 (s.single[j] : Int)) := by rw [htk]; exact v32_get (List.getElem?_eq_getElem hjs)
    rw [List.getElem?_take, if_pos (by omega)] at e2
    rw [e2, getElem!_pos d j hj]
    subst hd
    simp
  have H := AnyE.slices_DeleteFunc Try.laysDelete (fun x : { x : Nat // x < s.rows.length } => Value.int .i32 (x.1 : Int)) (fun _ => rfl) (fun x => (s.rows.getD x.1 none).isNone) 58 #[.pointer (some ⟨px, 0, none⟩)] eg ⟨0, hpos⟩ (fun w => by kernel_rfl) g 0 cap d W (fun W' x hb => hfn W' x fun b hb' _ => hb.block b hb') (fun m os dk x _ => hfn _ x fun b hb' hne => by
      rw [sortWorld, heap_grow_old _ _ (by simpa [putRow, mapBlock, Sort.ahead] using hb')]
      simp [putRow, mapBlock, Array.getElem?_modify, Ne.symm hne, Sort.ahead]) hH (by have := hR.few; have := h.2.rows; omega) (by omega)
  have hfl : ((d.toList.filter fun x => !(s.rows.getD x.1 none).isNone).map (·.1)) = liveS s := by
    rw [hd]
    have := filter_pmap (fun x => !(s.rows.getD x none).isNone) s.single hlt
    rw [List.toList_toArray, this]
    unfold liveS
    congr 1
    funext x
    cases s.rows.getD x none <;> rfl
  have hfn2 : (d.toList.filter fun x => !(s.rows.getD x.1 none).isNone).length = (liveS s).length := by rw [← hfl, List.length_map]
  rw [hfn2, hds] at H
  have hll : (liveS s).length ≤ s.single.length := List.length_filter_le _ _
  obtain ⟨D, hDD⟩ : ∃ D : Array { x : Nat // x < s.rows.length }, D = ((d.toList.filter fun x : { x : Nat // x < s.rows.length } => !(s.rows.getD x.1 none).isNone) ++ List.replicate (s.single.length - (liveS s).length) (⟨0, hpos⟩ : { x : Nat // x < s.rows.length })).toArray := ⟨_, rfl⟩
  rw [← hDD] at H
  have hDs : D.size = d.size := by rw [hDD]; simp only [List.size_toArray, List.length_append, List.length_replicate]; omega
  have hE : ∀ (j : Nat) (u : Value), (v32 (liveS s))[j]? = some u → ∃ h : j < D.size, u = (fun x : { x : Nat // x < s.rows.length } => Value.int .i32 (x.1 : Int)) D[j] := fun j u hu => by
    have hjl : j < (liveS s).length := by have := (List.getElem?_eq_some_iff.1 hu).1; simpa [v32] using this
    refine ⟨by omega, ?_⟩
    subst hDD
    have e3 : (liveS s)[j]? = some (liveS s)[j] := List.getElem?_eq_getElem hjl
    have e4 := v32_get e3
    rw [hu] at e4
    rw [Option.some.inj e4]
    have e5 : (liveS s)[j] = ((d.toList.filter fun x => !(s.rows.getD x.1 none).isNone)[j]'(by omega)).1 := by
      have : ((d.toList.filter fun x => !(s.rows.getD x.1 none).isNone).map (·.1))[j]? = some (liveS s)[j] := by rw [hfl]; exact e3
      rw [List.getElem?_map, List.getElem?_eq_getElem (by omega)] at this
      exact (Option.some.inj this).symm
    rw [e5]
    simp only [List.getElem_toArray]
    rw [List.getElem_append_left (by omega)]

  refine H.mono ?_
  rintro e w' ⟨rfl, q, rfl⟩
  obtain ⟨z1, z2⟩ := put_row (k := (liveS s).length) (xs := v32 (liveS s)) (D := D) hH hg hds hDs hll hcs hmc (by simp [v32]) hE hmx q
  exact ⟨rfl, ⟨z1, fun g' hg' => by cases hg'; exact hgo⟩, z2.mono fun b hb e => hb (by rw [e]; exact hgo)⟩

end Go.Proofs.Ytbicefgjompnoaa.Sx
