/- The store: add. -/
import Derived.Test.YtbicefgjompnoaaDoorF16
namespace Go.Proofs.YtbicefgjompnoaaDoor.Sx
open Go.RowKit Go.Sort

/-- a clause comes in: the store, and its row's number, or -1 -/
def addP (s : St) : List Nat → St × Int
  | [] => ({ s with empty := s.empty + 1 }, -1)
  | [a] => ({ s with rows := s.rows ++ [some [a]], single := s.single ++ [s.rows.length] }, (s.rows.length : Int))
  | a :: b :: c => (pushW (pushW { s with rows := s.rows ++ [some (a :: b :: c)] } a s.rows.length b) b s.rows.length a, (s.rows.length : Int))
def AddPost (w : World) (L : Ly) (n : Nat) (cb : Nat) (r : St × Int) (e : Ending) (w' : World) : Prop := e = .returned (.int .i32 r.2) ∧ ∃ L', SAt w' L' n r.1 ∧ FrX cb L L' w w' ∧ ∀ k : Nat, r.2 = (k : Int) → ∃ m cap, L'.rr[k]? = some (.slice (some ⟨cb, 0, none⟩) m cap)
theorem info44 : ∃ i0, Tryd.prog.info? 43 = some i0 ∧ i0.zero = some (.slice none 0 0) ∧ i0.size = 1 ∧ i0.bytes = 24 := by
  have h : ((Tryd.prog.info? 43).map fun i => (i.zero, i.size, i.bytes)) = some (some (.slice none 0 0), 1, 24) := by kernel_rfl
  cases hq : Tryd.prog.info? 43 with
  | none => rw [hq] at h; simp at h
  | some j => rw [hq] at h; simp at h; exact ⟨j, rfl, h.1, h.2.1, h.2.2⟩

set_option maxRecDepth 100000 in
set_option maxHeartbeats 4000000 in
theorem add_none (w : World) (L : Ly) (n : Nat) (s : St) (cb cap : Nat) (h : SAt w L n s) (he : s.empty ≤ 1000000000000) :
    Calls Tryd.prog 32 #[.pointer (some ⟨L.sb, 0, none⟩), .slice (some ⟨cb, 0, none⟩) 0 cap] w (AddPost w L n cb (addP s [])) := by
  have mo := follows
  have c2 : w.cell? ⟨L.sb, 2, none⟩ = some (.int .i64 (s.empty : Int)) := h.cell 2
  have z2 := h.free 2
  have S1 : Hid (SAt (w.setCell ⟨L.sb, 2, none⟩ (.int .i64 ((s.empty : Int) + 1))) L n { s with empty := s.empty + 1 }) := h.setEmpty (s.empty + 1)
  have F1 : Hid (FrS L L w (w.setCell ⟨L.sb, 2, none⟩ (.int .i64 ((s.empty : Int) + 1)))) := (FrS.refl L w).set (by rw [(h.1.st trivial).2]; decide)
  clear h
  go_enter Tryd.func32, Tryd.ntmps32
  go_wp2_with fail
  go_ret
  exact ⟨rfl, L, S1.out, F1.out.x cb, fun k e => absurd (show (-1 : Int) = (k : Int) from e) (by omega)⟩

/-- the rows' append -/
structure Grs (w : World) (L : Ly) (n : Nat) (s1 : St) (cb : Nat) (W : World) (L1 : Ly) : Prop where
  at_ : SAt W L1 n s1
  fr : FrX cb L L1 w W
  rr : ∃ m cap, L1.rr[s1.rows.length - 1]? = some (.slice (some ⟨cb, 0, none⟩) m cap)

set_option maxRecDepth 100000 in
set_option maxHeartbeats 4000000 in
theorem add_one (w : World) (L : Ly) (n : Nat) (s : St) (cb a : Nat) (d : Array Nat) (h : SAt w L n s) (hc : CAt w L cb d [a]) (hrw : s.rows.length + 1 ≤ 1000000000) (hsl : s.single.length ≤ s.rows.length) :
    Calls Tryd.prog 32 #[.pointer (some ⟨L.sb, 0, none⟩), .slice (some ⟨cb, 0, none⟩) 1 d.size] w (AddPost w L n cb (addP s [a])) := by
  have mo := follows
  obtain ⟨i0, hi0, hz0, hz1, hz2⟩ := info44
  obtain ⟨i1, hi1, hy0, hy1, hy2⟩ := info21
  obtain ⟨ra, rc, hrv⟩ := (h.1.ro trivial).form
  have c0 : w.cell? ⟨L.sb, 0, none⟩ = some (.slice ra s.rows.length rc) := by have := h.cell 0; simp only [stC, hrv] at this; exact this
  have HW : Hid (SAt (w.alloc (.cells #[.slice (some ⟨cb, 0, none⟩) 1 d.size] 43)) L n s) := h.alloc _
  have HF : Hid (Fr (fun _ => True) w (w.alloc (.cells #[.slice (some ⟨cb, 0, none⟩) 1 d.size] 43))) := (Fr.refl _ w).alloc _
  have OW : Hid ((w.alloc (.cells #[.slice (some ⟨cb, 0, none⟩) 1 d.size] 43)).ownsRow 0 43 1 (.slice ra s.rows.length rc) s.rows.length L.rr) := by rw [← hrv]; exact (HW.out.1.ro trivial).1
  have hmx : s.rows.length + 1 ≤ maxLen := by unfold maxLen; omega
  have hby : (s.rows.length + 1) * 24 ≤ 140737488355328 := by omega
  obtain ⟨SR, hSR⟩ : ∃ SR, ({ s with rows := s.rows ++ [some [a]] } : St) = SR := ⟨_, rfl⟩
  have HP : Hid (∀ (v4 : Value) (w9 : World), w9.ownsRow 0 43 1 v4 (s.rows.length + 1) (L.rr ++ [.slice (some ⟨cb, 0, none⟩) 1 d.size]) → (w.alloc (.cells #[.slice (some ⟨cb, 0, none⟩) 1 d.size] 43)).grownBy w9 (Value.slice ra s.rows.length rc).ownBlock → (v4.ownBlock = (Value.slice ra s.rows.length rc).ownBlock ∨ v4.ownBlock = some (w.alloc (.cells #[.slice (some ⟨cb, 0, none⟩) 1 d.size] 43)).heap.size) →
      ∃ g cap, v4 = .slice (some ⟨g, 0, none⟩) (s.rows.length + 1) cap ∧ w9.cell? ⟨L.sb, 0, none⟩ = some (.slice ra s.rows.length rc) ∧ w9.frozen? ⟨L.sb, 0, none⟩ = false ∧ ∃ L1, Grs w L n SR cb (w9.setCell ⟨L.sb, 0, none⟩ (.slice (some ⟨g, 0, none⟩) (s.rows.length + 1) cap)) L1) := by
    intro v4 w9 ho hg hat
    rcases ho.2 with ⟨_, q⟩ | ⟨g, cap, cur, e, q⟩
    · omega
    subst e
    rw [← hrv] at hg hat
    obtain ⟨k1, k2, L1, k3, k4, k5⟩ := HW.out.app_rows HF.out (c := [a]) hc hrw ho hg (by
      rcases hat with q | q
      · exact .inl q.symm
      · exact .inr (Option.some.inj q))
    exact ⟨g, cap, rfl, by rw [k1, hrv], k2, L1, by rw [← hSR]; exact k3, k4, _, _, by rw [← hSR]; simpa using k5⟩
  have e1 : SR.single.length = s.single.length := by rw [← hSR]
  have e2 : (addP s [a]) = ({ SR with single := SR.single ++ [s.rows.length] }, (s.rows.length : Int)) := by rw [← hSR]; rfl
  rw [e2]
  have hRl : SR.rows.length - 1 = s.rows.length := by rw [← hSR]; simp
  generalize s.rows.length = R at c0 OW hmx hby HP hrw hsl hRl ⊢
  have hwr : IntKind.i32.wrap (R : Int) = (R : Int) := by rw [IntKind.wrap_i32]; omega
  obtain ⟨SX, hSX⟩ : ∃ SX, ({ SR with single := SR.single ++ [R] } : St) = SX := ⟨_, rfl⟩
  rw [hSX]
  have HSX : Hid (({ SR with single := SR.single ++ [R] } : St) = SX) := hSX
  clear HW HF hrv hSR e2 hSX h
  go_enter Tryd.func32, Tryd.ntmps32
  go_upto_region 6 with (at_builtin; refine wpList_append_own_at _ rfl _ _ 49 rfl 0 43 i0 _ 1 24 Tryd.underlying49 hi0 hz0 hz1 hz2 rfl (by decide) (.slice ra R rc) R _ rfl OW.out ⟨w.heap.size, 0, none⟩ 1 1 [.slice (some ⟨cb, 0, none⟩) 1 d.size] rfl rfl (World.news_of_block (heap_new rfl)) (one1 rfl) hmx hby (Nat.zero_le _) ?_; intro v4 w9 ho9 hg9 _ hat9; obtain ⟨g, cap4, rfl, q1, q2, L1, q3⟩ := HP.out v4 w9 ho9 hg9 hat9; have Q3 : Hid (Grs w L n SR cb (w9.setCell ⟨L.sb, 0, none⟩ (.slice (some ⟨g, 0, none⟩) (R + 1) cap4)) L1) := q3; clear ho9 hg9 hat9 q3)
  clear c0 OW HP q1 q2
  generalize w9.setCell ⟨L.sb, 0, none⟩ (.slice (some ⟨g, 0, none⟩) (R + 1) cap4) = W5 at Q3 ⊢
  have h5 := Q3.out.at_
  have HRR : Hid (∃ m cap, L1.rr[R]? = some (.slice (some ⟨cb, 0, none⟩) m cap)) := by rw [← hRl]; exact Q3.out.rr
  clear hRl
  have hsb : L1.sb = L.sb := Q3.out.fr.sb
  obtain ⟨sa, sc, hsv⟩ := (h5.1.si trivial).form
  have c1 : W5.cell? ⟨L.sb, 1, none⟩ = some (.slice sa SR.single.length sc) := by have := h5.cell 1; simp only [stC, hsv] at this; rw [← hsb]; exact this
  have HW : Hid (SAt (W5.alloc (.cells #[.int .i32 (R : Int)] 21)) L1 n SR) := h5.alloc _
  have HF : Hid (Fr (fun _ => True) W5 (W5.alloc (.cells #[.int .i32 (R : Int)] 21))) := (Fr.refl _ W5).alloc _
  have OW : Hid ((W5.alloc (.cells #[.int .i32 (R : Int)] 21)).ownsRow 0 21 1 (.slice sa SR.single.length sc) SR.single.length (v32 SR.single)) := by rw [← hsv]; exact (HW.out.1.si trivial).1
  have hmx2 : SR.single.length + 1 ≤ maxLen := by unfold maxLen; omega
  have hby2 : (SR.single.length + 1) * 4 ≤ 140737488355328 := by omega
  have HP : Hid (∀ (v4 : Value) (w9 : World), w9.ownsRow 0 21 1 v4 (SR.single.length + 1) (v32 SR.single ++ [.int .i32 (R : Int)]) → (W5.alloc (.cells #[.int .i32 (R : Int)] 21)).grownBy w9 (Value.slice sa SR.single.length sc).ownBlock → (v4.ownBlock = (Value.slice sa SR.single.length sc).ownBlock ∨ v4.ownBlock = some (W5.alloc (.cells #[.int .i32 (R : Int)] 21)).heap.size) →
      ∃ g cap, v4 = .slice (some ⟨g, 0, none⟩) (SR.single.length + 1) cap ∧ w9.cell? ⟨L.sb, 1, none⟩ = some (.slice sa SR.single.length sc) ∧ w9.frozen? ⟨L.sb, 1, none⟩ = false ∧ ∃ L', SAt (w9.setCell ⟨L.sb, 1, none⟩ (.slice (some ⟨g, 0, none⟩) (SR.single.length + 1) cap)) L' n SX ∧ FrX cb L L' w (w9.setCell ⟨L.sb, 1, none⟩ (.slice (some ⟨g, 0, none⟩) (SR.single.length + 1) cap)) ∧ ∀ k : Nat, (R : Int) = (k : Int) → ∃ m cap, L'.rr[k]? = some (.slice (some ⟨cb, 0, none⟩) m cap)) := by
    intro v4 w9 ho hg hat
    rcases ho.2 with ⟨_, q⟩ | ⟨g, cap, cur, e, q⟩
    · omega
    subst e
    rw [← hsv] at hg hat
    obtain ⟨k1, k2, k3, k4⟩ := HW.out.app_single HF.out ho hg (by
      rcases hat with q | q
      · exact .inl q.symm
      · exact .inr (Option.some.inj q))
    rw [hsb] at k1 k2 k3 k4
    rw [HSX.out] at k3
    exact ⟨g, cap, rfl, by rw [k1, hsv], k2, _, k3, Q3.out.fr.trans k4, fun k e => by rw [← show R = k by omega]; exact HRR.out⟩
  clear e1
  generalize SR.single.length = T at c1 OW hmx2 hby2 HP
  clear HW HF hsv h5 HSX Q3 HRR
  go_wp2_with (at_builtin; refine wpList_append_own_at _ rfl _ _ 50 rfl 0 21 i1 _ 1 4 Tryd.underlying50 hi1 hy0 hy1 hy2 rfl (by decide) (.slice sa T sc) T _ rfl OW.out ⟨W5.heap.size, 0, none⟩ 1 1 [.int .i32 (R : Int)] rfl rfl (World.news_of_block (heap_new rfl)) (one1 rfl) hmx2 hby2 (Nat.zero_le _) ?_; intro v4 w9 ho9 hg9 _ hat9; obtain ⟨g, cap4, rfl, q1, q2, q3⟩ := HP.out v4 w9 ho9 hg9 hat9; have Q4 : Hid (∃ L', SAt (w9.setCell ⟨L.sb, 1, none⟩ (.slice (some ⟨g, 0, none⟩) (T + 1) cap4)) L' n SX ∧ FrX cb L L' w (w9.setCell ⟨L.sb, 1, none⟩ (.slice (some ⟨g, 0, none⟩) (T + 1) cap4)) ∧ ∀ k : Nat, (R : Int) = (k : Int) → ∃ m cap, L'.rr[k]? = some (.slice (some ⟨cb, 0, none⟩) m cap)) := q3; clear ho9 hg9 hat9 q3)
  go_ret
  exact ⟨rfl, Q4.out⟩

end Go.Proofs.YtbicefgjompnoaaDoor.Sx
