/- A table: a node that is there, or a new one; variables. -/
import Derived.Test.YtkbomifmijafgaaDoorT5
namespace Go.Proofs.YtkbomifmijafgaaDoor.Sx
open Go.RowKit Go.Sort Go.Maps Go.WideMaps

theorem zero29 (w : World) : (zeroValue 29).run Tryd.prog w = .ok (.int .i64 0) w := by kernel_rfl

set_option maxRecDepth 100000 in
set_option maxHeartbeats 1000000 in
theorem node_hit (T : TL) (w : World) (R : List Rw) (M Fo : List (Value × Value)) (fr : List Nat) (h : Tab T w R M Fo fr) (ab : Int) (lo hh f : Nat) (hab : Fits ab) (hlo : lo ≤ 1000) (hhi : hh ≤ 1000) (hne : lo ≠ hh)
    (hm : (askV ab lo hh, Value.int .i64 (f : Int)) ∈ M) (hu : ∀ p ∈ M, p.1 = askV ab lo hh → p.2 = .int .i64 (f : Int)) :
    Calls Tryd.prog 17 #[.pointer (some ⟨T.b, 0, none⟩), .int .i64 ab, .int .i64 (lo : Int), .int .i64 (hh : Int)] w fun e w' => e = .returned (.int .i64 (f : Int)) ∧ Fr (fun _ => True) w w' := by
  obtain ⟨g, cap, fresh, hG⟩ := h
  have hk := key44 (a := ab) (b := (lo : Int)) (c := (hh : Int)) hab ⟨by omega, by omega⟩ ⟨by omega, by omega⟩
  have n1 : ((lo : Int) == (hh : Int)) = false := by simp; omega
  have HG : Hid (TabG T (w.alloc (.cells #[.int .i64 ab, .int .i64 (lo : Int), .int .i64 (hh : Int)] 44)) g cap fresh R M Fo fr) := hG.grew ((Fr.refl _ w).alloc _)
  have HF : Hid (Fr (fun _ => True) w (w.alloc (.cells #[.int .i64 ab, .int .i64 (lo : Int), .int .i64 (hh : Int)] 44))) := (Fr.refl _ w).alloc _
  have HB : Hid ((w.alloc (.cells #[.int .i64 ab, .int .i64 (lo : Int), .int .i64 (hh : Int)] 44)).heap[w.heap.size]? = some (.cells #[.int .i64 ab, .int .i64 (lo : Int), .int .i64 (hh : Int)] 44 (0, 0))) := heap_new rfl
  have mo := follows
  clear hG
  go_enter Tryd.func17, Tryd.ntmps17
  go_wp2_with fail
  generalize (w.alloc (.cells #[.int .i64 ab, .int .i64 (lo : Int), .int .i64 (hh : Int)] 44)) = W at HG HF HB ⊢
  generalize w.heap.size = ba at HB ⊢
  have HGd : Hid (TabG T W.drew g cap fresh R M Fo fr) := HG.out.grew (Fr.refl _ W).drew
  have HBd : Hid (W.drew.heap[ba]? = _) := HB.out
  have l1 := HG.out.made.hit law44 Tryd.underlying50 hk hm hu
  have l1d := HGd.out.made.hit law44 Tryd.underlying50 hk hm hu
  have b4 := block_cell HG.out.blk 4
  have b4d := block_cell HGd.out.blk 4
  have a0 := block_cell HB.out 0
  have a1 := block_cell HB.out 1
  have a2 := block_cell HB.out 2
  have a0d := block_cell HBd.out 0
  have a1d := block_cell HBd.out 1
  have a2d := block_cell HBd.out 2
  go_big_region_o
  clear a0 a1 a2 a0d a1d a2d b4 b4d l1 l1d
  all_goals
    go_wp2_with fail
    go_ret
    exact ⟨rfl, HF.out.drew⟩

set_option maxRecDepth 100000 in
set_option maxHeartbeats 1000000 in
theorem node_miss (T : TL) (w : World) (R : List Rw) (M Fo : List (Value × Value)) (fr : List Nat) (h : Tab T w R M Fo fr) (ab : Int) (lo hh : Nat) (r1 r2 : Rw) (hab : Fits ab) (hlo : lo ≤ 1000) (hhi : hh ≤ 1000) (hne : lo ≠ hh) (hu : ∀ p ∈ M, p.1 ≠ askV ab lo hh) (hl : R.length ≤ 1000) (hlf : fr.length ≤ 1000)
    (h1 : (R ++ [(⟨ab, lo, hh, 0, false⟩ : Rw)])[lo]? = some r1) (h2 : ((R ++ [(⟨ab, lo, hh, 0, false⟩ : Rw)]).set lo { r1 with users := r1.users + 1 })[hh]? = some r2) (hu1 : r1.users ≤ 1000) (hu2 : r2.users ≤ 1000) :
    Calls Tryd.prog 17 #[.pointer (some ⟨T.b, 0, none⟩), .int .i64 ab, .int .i64 (lo : Int), .int .i64 (hh : Int)] w fun e w' => e = .returned (.int .i64 (R.length : Int)) ∧
      Tab T w' (((R ++ [(⟨ab, lo, hh, 0, false⟩ : Rw)]).set lo { r1 with users := r1.users + 1 }).set hh { r2 with users := r2.users + 1 }) (M ++ [(askV ab lo hh, .int .i64 (R.length : Int))]) Fo (fr ++ [R.length]) ∧ Fr (· < T.lo) w w' ∧ Kept w w' := by
  obtain ⟨g, cap, fresh, hG⟩ := h
  have hk := key44 (a := ab) (b := (lo : Int)) (c := (hh : Int)) hab ⟨by omega, by omega⟩ ⟨by omega, by omega⟩
  have n1 : ((lo : Int) == (hh : Int)) = false := by simp; omega
  have hgl := hG.rows.lt
  have hbl := block_lt hG.blk
  have HG : Hid (TabG T (w.alloc (.cells #[.int .i64 ab, .int .i64 (lo : Int), .int .i64 (hh : Int)] 44)) g cap fresh R M Fo fr) := hG.grew ((Fr.refl _ w).alloc _)
  have HF : Hid (Fr (fun _ => True) w (w.alloc (.cells #[.int .i64 ab, .int .i64 (lo : Int), .int .i64 (hh : Int)] 44))) := (Fr.refl _ w).alloc _
  have HB : Hid ((w.alloc (.cells #[.int .i64 ab, .int .i64 (lo : Int), .int .i64 (hh : Int)] 44)).heap[w.heap.size]? = some (.cells #[.int .i64 ab, .int .i64 (lo : Int), .int .i64 (hh : Int)] 44 (0, 0))) := heap_new rfl
  have mo := follows
  clear hG
  go_enter Tryd.func17, Tryd.ntmps17
  go_wp2_with fail
  generalize (w.alloc (.cells #[.int .i64 ab, .int .i64 (lo : Int), .int .i64 (hh : Int)] 44)) = W at HG HF HB ⊢
  obtain ⟨ba, hba⟩ : ∃ ba, w.heap.size = ba := ⟨_, rfl⟩
  rw [hba] at HB hgl hbl ⊢
  have HGd : Hid (TabG T W.drew g cap fresh R M Fo fr) := HG.out.grew (Fr.refl _ W).drew
  have HBd : Hid (W.drew.heap[ba]? = _) := HB.out
  have l1 := HG.out.made.miss law44 Tryd.underlying50 (zero29 W) hk hu
  have l1d := HGd.out.made.miss law44 Tryd.underlying50 (zero29 W.drew) hk hu
  have b4 := block_cell HG.out.blk 4
  have b4d := block_cell HGd.out.blk 4
  have a0 := block_cell HB.out 0
  have a1 := block_cell HB.out 1
  have a2 := block_cell HB.out 2
  have a0d := block_cell HBd.out 0
  have a1d := block_cell HBd.out 1
  have a2d := block_cell HBd.out 2
  go_big_region_o
  clear a0 a1 a2 a0d a1d a2d b4 b4d l1 l1d
  all_goals
    have HFd : Hid (Fr (fun _ => True) w W.drew) := HF.out.drew
    clear HG HF HB
    generalize W.drew = W1 at HGd HFd HBd ⊢
    have HN : Hid (Calls _ _ _ _ _) := number_any T W1 R M Fo fr g cap fresh HGd.out hl
    go_wp2_with fail
    refine HN.out.mono ?_
    rintro e W2 ⟨rfl, ⟨g2, cap2, fresh2, hG2⟩, hf2⟩
    have F2 : Hid (Fr (· < T.lo) w W2) := (HFd.out.mono fun _ _ => trivial).trans (hf2.mono fun k hk => by have := HGd.out.rows.ge; have := HGd.out.ok.lob; have := HGd.out.ok.b; omega)
    have K2 : Hid (Kept w W2) := (Kept.fr HFd.out).trans (HGd.out.keptN hf2)
    have B2 : Hid (W2.heap[ba]? = some (.cells #[.int .i64 ab, .int .i64 (lo : Int), .int .i64 (hh : Int)] 44 (0, 0))) := (hf2.block ba (block_lt HBd.out) ⟨by omega, by omega⟩).trans HBd.out
    have X2 : Hid (TabG T W2 g2 cap2 fresh2 (R ++ [newRow]) M Fo fr) := hG2
    obtain ⟨fa, fc, hfs⟩ : ∃ fa fc, fresh2 = .slice fa fr.length fc := by
      rcases hG2.frs.2 with ⟨e, hn⟩ | ⟨g', cap', cur, e, _⟩
      · exact ⟨none, 0, by rw [e, hn]⟩
      · exact ⟨_, _, e⟩
    subst hfs
    have c6 := block_cell hG2.blk 6
    obtain ⟨i0, hi0, hz0, hz1, hz2⟩ := info29
    have hok := hG2.ok.hi
    have HOA : Hid ((W2.alloc (.cells #[.int .i64 (R.length : Int)] 29)).ownsRow T.hi 29 1 (.slice fa fr.length fc) fr.length (fr.map fun x : Nat => Value.int .i64 (x : Int))) := hG2.frs.alloc _
    clear HN HGd HFd HBd hf2 hG2
    go_wp2_with (at_builtin; refine wpList_append_lies _ rfl _ _ 49 rfl T.hi 29 i0 _ 1 8 Tryd.underlying49 hi0 hz0 hz1 hz2 rfl (by decide) (.slice fa fr.length fc) _ _ rfl HOA.out ⟨W2.heap.size, 0, none⟩ 1 1 [.int .i64 (R.length : Int)] rfl rfl ?q1 ?q2 (by decide) ?q3 ?q4 ?q5 (W2.heap.size + 1) ?q6 ?_)
    case q1 => exact World.news_of_block (heap_new rfl)
    case q2 =>
      intro u hu
      simp only [List.mem_cons, List.not_mem_nil, or_false] at hu
      rcases hu with rfl; rfl
    case q3 => unfold maxLen; omega
    case q4 => omega
    case q5 => simp; omega
    case q6 => simp
    intro g' cap' w1 ho hg hat hlt
    obtain ⟨p1, p2, p3⟩ := X2.out.freshen R.length ((Fr.refl _ W2).alloc _) ho hg hat (by omega)
    have hnb : (Value.slice fa fr.length fc).ownBlock ≠ some ba := by
      intro e
      rcases X2.out.frs.2 with ⟨e2, _⟩ | ⟨gg, cc, cur, e2, _, e3, _⟩
      · rw [e2] at e; simp [Value.ownBlock] at e
      · rw [e2] at e
        obtain rfl : gg = ba := by simpa [Value.ownBlock] using e
        rw [B2.out] at e3
        simp at e3
    have hbw := block_lt B2.out
    have kb := X2.out.ok.b
    have B3 : w1.heap[ba]? = some (.cells #[.int .i64 ab, .int .i64 (lo : Int), .int .i64 (hh : Int)] 44 (0, 0)) := (hg.block ba (by simp; omega) (fun e => hnb e.symm)).trans ((((Fr.refl (fun _ => True) W2).alloc _).block ba hbw trivial).trans B2.out)
    have hbb : T.b ≠ ba := by omega
    have f3 : Fr (· ≠ T.b) w1 (w1.setCell ⟨T.b, 6, none⟩ (.slice (some ⟨g', 0, none⟩) (fr.length + 1) cap')) := (Fr.refl _ w1).set (by simp) _
    have B4 : Hid (_ = _) := (f3.block ba (block_lt B3) (Ne.symm hbb)).trans B3
    have X4 : Hid (TabG _ _ _ _ _ _ _ _ _) := p2
    have F4 : Hid (Fr (· < T.lo) w _) := F2.out.trans p3
    have K4 : Hid (Kept w _) := (K2.out.trans (X2.out.keptR (((Fr.refl (fun _ => True) W2).alloc _).mono (fun _ _ => trivial) |>.trans ⟨hg.os, hg.tape, hg.output, hg.size, fun k hk hp => hg.block k hk (fun e => hp e.symm)⟩))).trans (p1.kept f3)
    have b6 := block_cell p1 6
    have z6 := frozen_block p1 6
    have a0 := block_cell B4.out 0
    have a1 := block_cell B4.out 1
    have a2 := block_cell B4.out 2
    have er : (R ++ [newRow]).set R.length { newRow with about := ab, low := lo, high := hh } = R ++ [(⟨ab, lo, hh, 0, false⟩ : Rw)] := by simp [newRow]
    have hr : (R ++ [newRow])[R.length]? = some newRow := by simp
    have HL : Hid (Calls _ _ _ _ _) := lay_any T _ (R ++ [newRow]) M Fo (fr ++ [R.length]) ⟨_, _, _, p2⟩ R.length ab lo hh newRow r1 r2 hab hlo hhi hr (by rw [er]; exact h1) (by rw [er]; exact h2) hu1 hu2 hu
    rw [er] at HL
    unfold askV at HL
    clear p1 p2 p3 ho hg hat hlt f3 B3 hnb hbw kb HOA X2 c6 B2 F2 er hr
    go_wp2_with (go_at_call 29; refine HL.out.mono ?_; rintro e W5 ⟨rfl, hX5, hF5, hK5⟩; have K5 : Hid (Kept w W5) := K4.out.trans hK5; have X5 : Hid (Tab _ _ _ _ _ _) := hX5; have F5 : Hid (Fr (· < T.lo) w W5) := F4.out.trans hF5; clear hX5 hF5 hK5)
    go_ret
    exact ⟨rfl, X5.out, F5.out, K5.out⟩

end Go.Proofs.YtkbomifmijafgaaDoor.Sx
