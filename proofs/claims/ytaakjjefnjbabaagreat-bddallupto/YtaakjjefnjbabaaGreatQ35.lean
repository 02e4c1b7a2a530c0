/- The reference: joined (walked). -/
import Derived.Test.YtaakjjefnjbabaaGreatQ34
set_option maxRecDepth 100000
namespace Go.Proofs.YtaakjjefnjbabaaGreat.Sx
open Go.RowKit Go.Sort Go.Maps Go.WideMaps
theorem RowS.ty {b0 : Nat} {w : World} {v : Value} {R : List (List Bool)} (h : RowS b0 w v R) : ∀ b, b < w.heap.size → (∃ cs fz, w.heap[b]? = some (.cells cs 4 fz)) → some b ≠ v.ownBlock := by
 rintro b _ ⟨cs, fz, hb⟩ e
 obtain ⟨vs, _, hrow, _⟩ := h
 rcases hrow.2 with ⟨rfl, _⟩ | ⟨g, cap, cur, rfl, _, hg, _⟩
 · cases e
 · have e : some b = some g := e
   cases e
   rw [hg] at hb
   injection hb with hb
   injection hb with _ h2 _
   exact absurd h2 (by decide)
theorem RowS.lt {b0 : Nat} {w : World} {v : Value} {R : List (List Bool)} (h : RowS b0 w v R) : ∀ k, v.ownBlock = some k → b0 ≤ k ∧ k < w.heap.size := by
 obtain ⟨vs, _, hrow, _⟩ := h
 exact hrow.lt
set_option maxHeartbeats 1000000 in
theorem rJoined_any (w : World) (b0 : Nat) (v1 v2 : Value) (R M : List (List Bool)) (hl : R.length + M.length ≤ 1099511627776) (hx : ∀ x, x ∈ R ∨ x ∈ M → x.length ≤ 65536) (hr : RowS b0 w v1 R) (hb : b0 ≤ w.heap.size) (hm : RV w v2 M v1.ownBlock) :
 Calls Tryz.prog 84 #[v1, v2] w fun e w' => ∃ r, e = .returned r ∧ RowS b0 w' r (joinR R M) ∧ Fr (fun b => some b ≠ v1.ownBlock) w w' ∧ ∀ k, r.ownBlock = some k → v1.ownBlock = some k ∨ w.heap.size ≤ k := by
 obtain ⟨a1, c1, hv1, -⟩ := hr.form
 have hm0 := hm
 obtain ⟨a2, c2, rfl, -⟩ := hm0
 have HR : Hid (RowS b0 w v1 R) := hr
 have HM : Hid (RV w (.slice a2 M.length c2) M v1.ownBlock) := hm
 have HX : Hid (∀ x, x ∈ R ∨ x ∈ M → x.length ≤ 65536) := hx
 obtain ⟨ob, hob⟩ : ∃ ob, v1.ownBlock = ob := ⟨_, rfl⟩
 rw [hob] at HM ⊢
 have HOB : Hid (v1.ownBlock = ob) := hob
 obtain ⟨i0, hi0, hz0, hz1, hz2⟩ := infoBs
 have HCS : Hid (∀ (W : World) vf vg (f g : List Bool) n, BV W vf f → BV W vg g → f.length ≤ 65536 → Calls Tryz.prog 41 #[vf, vg] (W.drewN n) fun e w' => e = .returned (.bool (decide (f = g))) ∧ ∃ m, w' = (W.drewN n).drewN m) := fun W vf vg f g n h1 h2 h3 => rSame_any (W.drewN n) vf vg f g h3 h1 h2
 have mo := follows
 clear hr hm hx hob
 obtain ⟨K, hK⟩ : ∃ K, M.length = K := ⟨_, rfl⟩
 have HK : Hid (M.length = K) := hK
 rw [hK] at hl HM ⊢
 clear hK
 have R0 : Hid (joinR R (M.take 0) = R) := rfl
 have HV1 : Hid (v1 = .slice a1 R.length c1) := hv1
 rw [hv1]
 clear hv1
 go_enter Tryz.func84, Tryz.ntmps84
 go_wp2_with fail
 go_loopg [0, 5] (K) (fun k s0 s5 wr => ∃ (i : Nat) (a0 : Option Addr) (c0 : Nat) (r : Nat), s5 = .int .i64 (i : Int) ∧ s0 = .slice a0 r c0 ∧ i + k = K ∧ Hid ((joinR R (M.take i)).length = r) ∧ Hid (RowS b0 wr (.slice a0 r c0) (joinR R (M.take i))) ∧ Hid (Fr (fun b => some b ≠ ob) w wr) ∧ Hid (∀ k, (Value.slice a0 r c0).ownBlock = some k → ob = some k ∨ w.heap.size ≤ k))
 case atStart => exact ⟨0, a1, c1, _, rfl, rfl, by omega, rfl, by rw [← HV1.out]; exact HR.out, Fr.refl _ _, fun k h => .inl (by rw [← HOB.out, HV1.out]; exact h)⟩
 case round =>
  clear R0
  obtain ⟨i, a0, c0, r, rfl, rfl, hik, RL, S, F, O⟩ := hrel
  by_cases hi : i < K
  · obtain ⟨k, rfl⟩ : ∃ k, gk = k + 1 := ⟨gk - 1, by omega⟩
    have hil : (i : Int) < (K : Int) := by omega
    have hil0 : (0 : Int) ≤ (i : Int) := by omega
    obtain ⟨x, hx⟩ : ∃ x, M[i]? = some x := ⟨_, List.getElem?_eq_getElem (by rw [HK.out]; exact hi)⟩
    have HJ : Hid (joinR R (M.take (i + 1)) = putR (joinR R (M.take i)) x) := joinR_take hx
    have hrl : r ≤ R.length + i := by
     have := joinR_len (M.take i) R
     rw [RL.out, List.length_take] at this
     omega
    have HXR : Hid (∀ y, y ∈ joinR R (M.take i) → y.length ≤ 65536) := fun y hy => HX.out y ((mem_joinR.1 hy).imp id List.mem_of_mem_take)
    have S0 := S.out
    obtain ⟨R', hR'⟩ : ∃ R', joinR R (M.take i) = R' := ⟨_, rfl⟩
    rw [hR'] at RL S S0 HJ HXR
    have hty : ∀ b, b < w.heap.size → (∃ cs fz, w.heap[b]? = some (.cells cs 4 fz)) → some b ≠ ob := by
     have := HR.out.ty
     rw [HOB.out] at this
     exact this
    have hMV : RV wr (.slice a2 K c2) M (Value.slice a0 r c0).ownBlock := HM.out.frg F.out (fun b _ h => h) hty fun k hk => O.out k hk
    obtain ⟨a, cap, he, hMc⟩ := hMV
    obtain ⟨q, vx, e1, hq, cx, bx⟩ := hMc i x hx
    rw [e1] at he
    injection he with h1 h2 h3
    subst h1 h3
    clear h2
    have BX : Hid (BV wr vx x) := bx
    have HQ : Hid (q.block < wr.heap.size ∧ x.length ≤ 65536) := ⟨by have := World.block_lt_of_cell? wr _ cx; rw [add_block] at this; exact this, HX.out x (.inr (List.mem_of_getElem? hx))⟩
    clear e1 hMc hq bx hx hty S0 hR'
    go_wp2_with fail
    go_loopg [6, 7] (r) (fun k2 s6 s7 wr2 => ∃ j : Nat, s7 = .int .i64 (j : Int) ∧ s6 = .bool (hasN R' x j) ∧ j + k2 = r ∧ ∃ m, wr2 = wr.drewN m)
    case atStart => exact ⟨0, rfl, rfl, by omega, 0, rfl⟩
    case round =>
     obtain ⟨j, rfl, rfl, hjk, m, rfl⟩ := hrel
     cases hh : hasN R' x j with
     | true =>
       have HH : Hid (putR R' x = R') := if_pos (hasN_true hh)
       have S2 : Hid (RowS b0 (wr.drewN m) (.slice a0 r c0) R') := S.out
       have F2 : Hid (Fr (fun b => some b ≠ ob) w (wr.drewN m)) := ⟨F.out.os, F.out.tape, F.out.output, F.out.size, F.out.block⟩
       clear hh BX S F
       by_cases hj : j < r
       · have hjl : (j : Int) < (r : Int) := by omega
         go_wp2_with fail
         go_roundg k
         case measure => omega
         case rel => exact ⟨i + 1, a0, c0, r, by simp, rfl, by omega, by rw [HJ.out, HH.out]; exact RL.out, by rw [HJ.out, HH.out]; exact S2.out, F2.out, O.out⟩
       · have hjl : ¬ (j : Int) < (r : Int) := by omega
         go_wp2_with fail
         go_roundg k
         case measure => omega
         case rel => exact ⟨i + 1, a0, c0, r, by simp, rfl, by omega, by rw [HJ.out, HH.out]; exact RL.out, by rw [HJ.out, HH.out]; exact S2.out, F2.out, O.out⟩
     | false =>
       by_cases hj : j < r
       · obtain ⟨k2, rfl⟩ : ∃ k2, gk = k2 + 1 := ⟨gk - 1, by omega⟩
         have hjl : (j : Int) < (r : Int) := by omega
         have hjl0 : (0 : Int) ≤ (j : Int) := by omega
         obtain ⟨y, hy⟩ : ∃ y, R'[j]? = some y := ⟨_, List.getElem?_eq_getElem (by rw [RL.out]; exact hj)⟩
         have HH : Hid (hasN R' x (j + 1) = decide (y = x)) := hasN_step hy hh
         obtain ⟨aa, cc, ee, hS⟩ := S.out.form
         obtain ⟨g, vy, e1, cy, bvy⟩ := hS j y hy
         rw [e1] at ee
         injection ee with h1 h2 h3
         subst h1 h3
         clear h2
         have cy : (wr.drewN m).cell? ⟨g, j, none⟩ = some vy := cy
         have cx2 : (wr.drewN m).cell? (q.add i) = some vx := cx
         have HCQ : Hid (∀ n, Calls Tryz.prog 41 #[vy, vx] ((wr.drewN m).drewN n) fun e w' => e = .returned (.bool (decide (y = x))) ∧ ∃ m', w' = ((wr.drewN m).drewN n).drewN m') := fun n => HCS.out (wr.drewN m) vy vx y x n bvy BX.out (HXR.out y (List.mem_of_getElem? hy))
         clear hh hy e1 hS bvy
         obtain ⟨W2, hW2⟩ : ∃ W2, wr.drewN m = W2 := ⟨_, rfl⟩
         have HW : Hid (wr.drewN m = W2) := hW2
         rw [hW2] at cy cx2 HCQ ⊢
         clear hW2
         go_wp2_with fail
         go_quiet (first | (go_at_call 41; refine Calls.quiet_of (HCQ.out _)))
         go_wp2_with fail
         go_roundg k2
         case measure => omega
         case rel => exact ⟨j + 1, by simp, by rw [HH.out], by omega, _, by rw [← HW.out]; exact drewN2 _ _ _⟩
       · have hjl : ¬ (j : Int) < (r : Int) := by omega
         have HH : Hid (putR R' x = R' ++ [x]) := by
          have e : j = R'.length := by have := RL.out; omega
          rw [e, hasN_all] at hh
          exact if_neg (of_decide_eq_false hh)
         have S2 : RowS b0 (wr.drewN m) (.slice a0 r c0) R' := S.out
         obtain ⟨vs, h1, h2, h3⟩ := S2
         rw [RL.out] at h2
         have HVS : Hid (vs.length = R'.length ∧ (wr.drewN m).ownsRow b0 28 1 (.slice a0 r c0) r vs ∧ ∀ (i : Nat) vx x, vs[i]? = some vx → R'[i]? = some x → BV (wr.drewN m) vx x) := ⟨h1, h2, h3⟩
         have BX2 : BV (wr.drewN m) vx x := BX.out
         have bx2 := BX2
         obtain ⟨xa, xc, rfl, -⟩ := bx2
         have BX3 : Hid (BV (wr.drewN m) (.slice xa x.length xc) x) := BX2
         have F2 : Hid (Fr (fun b => some b ≠ ob) w (wr.drewN m)) := ⟨F.out.os, F.out.tape, F.out.output, F.out.size, F.out.block⟩
         have cx2 : (wr.drewN m).cell? (q.add i) = some (.slice xa x.length xc) := cx
         have hbs : b0 ≤ (wr.drewN m).heap.size := Nat.le_trans hb F2.out.size
         clear h1 h2 h3 hh BX2 BX S F cx
         have HSZ : Hid (wr.heap.size = (wr.drewN m).heap.size) := rfl
         generalize wr.drewN m = W at *
         have HOA : Hid ((W.alloc (.cells #[.slice xa x.length xc] 28)).ownsRow b0 28 1 (.slice a0 r c0) r vs) := HVS.out.2.1.alloc _
         go_wp2_with (at_builtin; refine wpList_append_lies _ rfl _ _ 37 rfl b0 28 i0 _ 1 24 Tryz.underlying37 hi0 hz0 hz1 hz2 rfl (by decide) (.slice a0 r c0) r _ rfl HOA.out ⟨W.heap.size, 0, none⟩ 1 1 [.slice xa x.length xc] rfl rfl (World.news_of_block (heap_new rfl)) ?q2 (by decide) ?q3 ?q4 ?q5 (W.heap.size + 1) (by simp) ?_)
         case q2 => first | rfl | (intro u hu; rw [List.mem_singleton.1 hu]; rfl)
         case q3 => unfold maxLen; omega
         case q4 => omega
         case q5 => first | omega | (simp; omega)
         intro g' cap' w1 ho hg hat _
         obtain ⟨p1, p2, p3⟩ := RowS.app (v := .slice a0 r c0) RL.out.symm HVS.out.1 HVS.out.2.1 HVS.out.2.2 BX3.out ho hg hat (by omega)
         have P1 : Hid (RowS b0 w1 (.slice (some ⟨g', 0, none⟩) (r + 1) cap') (putR R' x)) := by rw [HH.out]; exact p1
         have P2 : Hid (Fr (fun b => some b ≠ ob) w w1) := ⟨p2.os.trans F2.out.os, p2.tape.trans F2.out.tape, p2.output.trans F2.out.output, Nat.le_trans F2.out.size p2.size, fun b hbl h => (p2.block b (Nat.lt_of_lt_of_le hbl F2.out.size) fun e => by
          rcases O.out b e.symm with e2 | e2
          · exact h e2.symm
          · omega).trans (F2.out.block b hbl h)⟩
         have P3 : Hid (∀ k, (Value.slice (some ⟨g', 0, none⟩) (r + 1) cap').ownBlock = some k → ob = some k ∨ w.heap.size ≤ k) := fun k hk => by
          have hk : some g' = some k := hk
          cases hk
          rcases p3 with e | e
          · exact O.out _ e
          · have := F2.out.size
            exact .inr (by omega)
         have P4 : Hid ((putR R' x).length = r + 1) := by rw [HH.out, List.length_append, RL.out]; rfl
         clear ho hg hat p1 p2 p3 HVS BX3 F2 HOA cx2 O
         go_wp2_with fail
         go_roundg k
         case measure => omega
         case rel => exact ⟨i + 1, _, _, _, by simp, rfl, by omega, by rw [HJ.out]; exact P4.out, by rw [HJ.out]; exact P1.out, P2.out, P3.out⟩
  · have hil : ¬ (i : Int) < (K : Int) := by omega
    have HE : Hid (M.take i = M) := List.take_of_length_le (by rw [HK.out]; omega)
    go_wp2_with fail
    go_ret
    refine ⟨_, rfl, ?_, F.out, O.out⟩
    have := S.out
    rw [HE.out] at this
    exact this
end Go.Proofs.YtaakjjefnjbabaaGreat.Sx
namespace Go.Proofs.YtaakjjefnjbabaaGreat.Sx
def firstO (o : List Nat) (f : List Bool) : Option Nat := o.find? (hangL f)
def optI : Option Nat → Int
 | some a => (a : Int)
 | none => -1
def askI (o : List Nat) (f : List Bool) : Int := optI (firstO o f)
structure AskSt (o : List Nat) (fs : List (List Bool)) (k : Nat) (R : List (List Bool)) : Prop where
 nd : R.Nodup
 has : ∀ f ∈ fs, f ∈ R
 gen : ∀ P : List Bool → Prop, (∀ f ∈ fs, P f) → (∀ f a v, P f → firstO o f = some a → P (withL f a v)) → ∀ f ∈ R, P f
 clo : ∀ (i : Nat) f a v, i < k → R[i]? = some f → firstO o f = some a → withL f a v ∈ R
theorem putR_nd {R : List (List Bool)} {x : List Bool} (h : R.Nodup) : (putR R x).Nodup := by
 unfold putR
 split
 · exact h
 · rename_i hx
   refine List.nodup_append.2 ⟨h, by simp, fun a ha b hb e => hx ?_⟩
   rw [List.mem_singleton.1 hb] at e
   rw [← e]; exact ha
theorem joinR_nd (M : List (List Bool)) : ∀ {R : List (List Bool)}, R.Nodup → (joinR R M).Nodup := by
 induction M with
 | nil => intro R h; exact h
 | cons x M ih => intro R h; exact ih (putR_nd h)
theorem joinR_pre (M : List (List Bool)) : ∀ R : List (List Bool), ∃ S, joinR R M = R ++ S := by
 induction M with
 | nil => intro R; exact ⟨[], by simp [joinR]⟩
 | cons x M ih =>
   intro R
   obtain ⟨S, hS⟩ := ih (putR R x)
   have hS : joinR R (x :: M) = putR R x ++ S := hS
   rw [hS]
   unfold putR
   split
   · exact ⟨S, rfl⟩
   · exact ⟨[x] ++ S, by simp⟩
section
variable {o : List Nat} {fs R : List (List Bool)} {k : Nat} {f : List Bool} {a : Nat}
theorem firstO_mem (h : firstO o f = some a) : a ∈ o := List.mem_of_find?_eq_some h
theorem AskSt.start (o : List Nat) (fs : List (List Bool)) : AskSt o fs 0 (joinR [] fs) :=
 ⟨joinR_nd _ List.nodup_nil, fun _ hf => mem_joinR.2 (.inr hf), fun _ h1 _ f hf => h1 f ((mem_joinR.1 hf).elim (fun q => by cases q) id), fun _ _ _ _ hi => absurd hi (Nat.not_lt_zero _)⟩
theorem AskSt.skip (h : AskSt o fs k R) (hf : R[k]? = some f) (h0 : firstO o f = none) : AskSt o fs (k + 1) R :=
 ⟨h.nd, h.has, h.gen, fun i g a v hi hg ha => by
   by_cases e : i < k
   · exact h.clo i g a v e hg ha
   · obtain rfl : i = k := by omega
     rw [hf] at hg
     cases hg
     rw [h0] at ha
     cases ha⟩
theorem AskSt.step (h : AskSt o fs k R) (hf : R[k]? = some f) (h0 : firstO o f = some a) : AskSt o fs (k + 1) (joinR R [withL f a false, withL f a true]) := by
 obtain ⟨S, hS⟩ := joinR_pre [withL f a false, withL f a true] R
 refine ⟨joinR_nd _ h.nd, fun g hg => mem_joinR.2 (.inl (h.has g hg)), fun P h1 h2 g hg => ?_, fun i g b v hi hg hb => ?_⟩
 · rcases mem_joinR.1 hg with q | q
   · exact h.gen P h1 h2 g q
   · have hp := h.gen P h1 h2 f (List.mem_of_getElem? hf)
     simp only [List.mem_cons, List.not_mem_nil, or_false] at q
     rcases q with rfl | rfl <;> exact h2 _ _ _ hp h0
 · have hk := lt_of_at hf
   rw [hS, List.getElem?_append_left (by omega)] at hg
   by_cases e : i < k
   · exact mem_joinR.2 (.inl (h.clo i g b v e hg hb))
   · obtain rfl : i = k := by omega
     rw [hf] at hg
     cases hg
     rw [h0] at hb
     cases hb
     refine mem_joinR.2 (.inr ?_)
     cases v <;> simp
theorem AskSt.len {n : Nat} (h : AskSt o fs k R) (hl : ∀ f ∈ fs, f.length = 2 ^ n) : ∀ f ∈ R, f.length = 2 ^ n :=
 h.gen (fun f => f.length = 2 ^ n) hl fun f a v hf _ => by rw [withL_len]; exact hf
theorem nodup_subL {l m : List (List Bool)} (hn : l.Nodup) (h : ∀ x ∈ l, x ∈ m) : l.length ≤ m.length := by
 induction l generalizing m with
 | nil => exact Nat.zero_le _
 | cons a l ih =>
   obtain ⟨h1, h2⟩ := List.nodup_cons.1 hn
   have hm : a ∈ m := h a (by simp)
   have := ih (m := m.erase a) h2 fun x hx => (List.mem_erase_of_ne (fun e => h1 (by rw [← e]; exact hx))).2 (h x (by simp [hx]))
   rw [List.length_erase_of_mem hm] at this
   have := List.length_pos_of_mem hm
   simp only [List.length_cons]
   omega
theorem AskSt.bound {n : Nat} (h : AskSt o fs k R) (hl : ∀ f ∈ fs, f.length = 2 ^ n) (ho : ∀ a ∈ o, a < n) : R.length ≤ fs.length * 3 ^ n := by
 have key := h.gen (fun f => ∃ F c, F ∈ fs ∧ (∀ v, n ≤ v → c v = none) ∧ f = tab n (Cof (unt n F) c)) (fun f hf => ⟨f, fun _ => none, hf, fun _ _ => rfl, (tab_unt (hl f hf)).symm⟩) fun f a v ⟨F, c, hF, hc, e⟩ ha => by
  have han := ho a (firstO_mem ha)
  refine ⟨F, fun w => if w = a then some ((c a).getD v) else c w, hF, fun w hw => ?_, ?_⟩
  · show (if w = a then _ else _) = _
    rw [if_neg (by omega)]; exact hc w hw
  · rw [e, withL_tab han]
    congr 1
    funext σ
    unfold Cof
    congr 1
    funext w
    unfold upd
    by_cases q : w = a
    · subst q; simp
    · simp [q]
 have := nodup_subL (m := (prodL fs (pas n)).map fun q => tab n (Cof (unt n q.1) q.2)) h.nd fun f hf => by
  obtain ⟨F, c, hF, hc, e⟩ := key f hf
  exact List.mem_map.2 ⟨(F, c), prodL_mem hF (pas_mem n c hc), e.symm⟩
 rw [List.length_map, prodL_len, pas_len] at this
 exact this
theorem firstO_take {i : Nat} {v : Nat} (hv : o[i]? = some v) (h0 : firstO (o.take i) f = none) : firstO (o.take (i + 1)) f = if hangL f v then some v else none := by
 unfold firstO at h0 ⊢
 rw [List.take_add_one, hv, List.find?_append, h0]
 show (none : Option Nat).or (List.find? (hangL f) [v]) = _
 rw [Option.none_or]
 cases q : hangL f v <;> simp [q]
theorem firstO_some {i : Nat} (h : firstO (o.take i) f = some a) : firstO o f = some a := by
 unfold firstO at h ⊢
 have := List.find?_append (xs := o.take i) (ys := o.drop i) (p := hangL f)
 rw [List.take_append_drop, h] at this
 simpa using this
theorem asks_succ (o : List Nat) (hf : R[k]? = some f) : (R.take (k + 1)).map (askI o) = (R.take k).map (askI o) ++ [askI o f] := by rw [List.take_add_one, hf]; simp
theorem asks_join (M : List (List Bool)) (hk : k ≤ R.length) : (joinR R M).take k = R.take k := by
 obtain ⟨S, hS⟩ := joinR_pre M R
 rw [hS, List.take_append_of_le_length hk]
end
end Go.Proofs.YtaakjjefnjbabaaGreat.Sx
namespace Go.Proofs.YtaakjjefnjbabaaGreat.Sx
open Go.RowKit Go.Sort Go.Maps Go.WideMaps
theorem own_ne {w : World} {b b2 n n2 : Nat} {e e2 : TypeId} {v v2 : Value} {xs xs2 : List Value} (h : w.ownsRow b e 1 v n xs) (h2 : w.ownsRow b2 e2 1 v2 n2 xs2) (he : e ≠ e2) : v.ownBlock = none ∨ v.ownBlock ≠ v2.ownBlock := by
 rcases h.2 with ⟨rfl, _⟩ | ⟨g, cap, cur, rfl, _, hg, _⟩
 · exact .inl rfl
 · right
   intro e3
   rcases h2.2 with ⟨rfl, _⟩ | ⟨g', cap', cur', rfl, _, hg', _⟩
   · cases e3
   · have e3 : some g = some g' := e3
     cases e3
     rw [hg] at hg'
     injection hg' with q
     injection q with _ q _
     exact he q
theorem own_bool {w : World} {b n : Nat} {e : TypeId} {v : Value} {xs : List Value} (h : w.ownsRow b e 1 v n xs) (he : e ≠ 4) : ∀ b, b < w.heap.size → (∃ cs fz, w.heap[b]? = some (.cells cs 4 fz)) → some b ≠ v.ownBlock := by
 rintro b _ ⟨cs, fz, hb⟩ e
 rcases h.2 with ⟨rfl, _⟩ | ⟨g, cap, cur, rfl, _, hg, _⟩
 · cases e
 · have e : some b = some g := e
   cases e
   rw [hg] at hb
   injection hb with q
   injection q with _ q _
   exact he q
theorem own_fr {P : Nat → Prop} {w w' : World} {b n : Nat} {e : TypeId} {v : Value} {xs : List Value} (h : w.ownsRow b e 1 v n xs) (f : Fr P w w') (hp : ∀ k, v.ownBlock = some k → P k) : w'.ownsRow b e 1 v n xs := by
 refine ⟨h.1, ?_⟩
 rcases h.2 with q | ⟨g, cap, cur, e1, hb, hg, q⟩
 · exact .inl q
 · exact .inr ⟨g, cap, cur, e1, hb, (f.block g (block_lt hg) (hp g (by rw [e1]; rfl))).trans hg, q⟩
def IR (w : World) (v : Value) (l : List Int) : Prop := ∃ a c, v = .slice a l.length c ∧ ∀ (i : Nat) x, l[i]? = some x → ∃ q, a = some q ∧ w.cell? (q.add i) = some (.int .i64 x) ∧ ∃ cs fz, w.heap[q.block]? = some (.cells cs 3 fz)
theorem IR.old {w : World} {v : Value} {l : List Int} (h : IR w v l) : ∃ a c, v = .slice a l.length c ∧ ∀ (i : Nat) x, l[i]? = some x → ∃ q, a = some q ∧ w.cell? (q.add i) = some (.int .i64 x) := by
 obtain ⟨a, c, e, h⟩ := h
 exact ⟨a, c, e, fun i x hx => by obtain ⟨q, e1, h1, _⟩ := h i x hx; exact ⟨q, e1, h1⟩⟩
theorem IR.frg {P : Nat → Prop} {w w' : World} {v : Value} {l : List Int} (h : IR w v l) (f : Fr P w w') (hp : ∀ b, b < w.heap.size → (∃ cs fz, w.heap[b]? = some (.cells cs 3 fz)) → P b) : IR w' v l := by
 obtain ⟨a, c, e, h⟩ := h
 refine ⟨a, c, e, fun i x hx => ?_⟩
 obtain ⟨q, e1, h1, cs, fz, ht⟩ := h i x hx
 have hb := block_lt ht
 have hk := f.block _ hb (hp _ hb ⟨_, _, ht⟩)
 exact ⟨q, e1, (World.cell?_of_block (w := w) (by rw [add_block]; exact hk)).trans h1, cs, fz, hk.trans ht⟩
theorem IR.fr {w w' : World} {v : Value} {l : List Int} (h : IR w v l) (f : Fr (fun _ => True) w w') : IR w' v l := h.frg f fun _ _ _ => trivial
theorem own_ir {w : World} {b : Nat} {v : Value} {l : List Int} (h : w.ownsRow b 3 1 v l.length (l.map (Value.int .i64))) : IR w v l := by
 rcases h.2 with ⟨rfl, h0⟩ | ⟨g, cap, cur, rfl, hb, hg, _⟩
 · have : l = [] := List.eq_nil_of_length_eq_zero h0
   subst this
   exact ⟨none, 0, rfl, fun i x hx => by cases hx⟩
 · exact ⟨_, _, rfl, fun i x hx => ⟨_, rfl, h.cells rfl i _ (by rw [List.getElem?_map, hx]; rfl), _, _, hg⟩⟩
end Go.Proofs.YtaakjjefnjbabaaGreat.Sx
