/- The reference: Size, without, at. -/
import Derived.Test.YtaakjjefnjbabaaGreatQ36
import Derived.Laws.AppendOwnNone
set_option maxRecDepth 100000
namespace Go.Proofs.YtaakjjefnjbabaaGreat.Sx
open Go.RowKit Go.Sort Go.Maps Go.WideMaps
def askN (o : List Nat) (R : List (List Bool)) : Nat := R.countP fun f => (firstO o f).isSome
theorem askI_some (o : List Nat) (f : List Bool) : (firstO o f).isSome = decide (0 ≤ askI o f) := by
 unfold askI
 cases firstO o f with
 | none => rfl
 | some a =>
   show true = decide (0 ≤ (a : Int))
   rw [decide_eq_true (by omega)]
def askT (o : List Nat) (R : List (List Bool)) (j : Nat) : Nat := askN o (R.take j)
theorem askT_succ {o : List Nat} {R : List (List Bool)} {j : Nat} {f : List Bool} (hf : R[j]? = some f) : askT o R (j + 1) = askT o R j + (if 0 ≤ askI o f then 1 else 0) := by
 unfold askT askN
 rw [List.take_add_one, hf, List.countP_append]
 show _ + [f].countP _ = _
 rw [List.countP_singleton, askI_some]
 by_cases h : 0 ≤ askI o f <;> simp [h]
theorem askT_le (o : List Nat) (R : List (List Bool)) (j : Nat) : askT o R j ≤ R.length := by
 unfold askT askN
 exact Nat.le_trans List.countP_le_length (by rw [List.length_take]; omega)
theorem askT_end (o : List Nat) (R : List (List Bool)) : askT o R R.length = askN o R := by unfold askT; rw [List.take_of_length_le (Nat.le_refl _)]
set_option maxHeartbeats 2000000 in
theorem rSize_any (w : World) (vf vo : Value) (fs : List (List Bool)) (o : List Nat) (n : Nat) (hn : n ≤ 9) (hf : RV w vf fs none) (ho : IR w vo (nodesI o)) (hol : o.length ≤ 65536) (hoa : ∀ a ∈ o, a < n) (hl : ∀ f ∈ fs, f.length = 2 ^ n) (hB : fs.length * 3 ^ n ≤ 549755813888) :
 Calls Tryz.prog 23 #[vf, vo] w fun e w' => ∃ R, e = .returned (.int .i64 (askN o R : Int)) ∧ AskSt o fs R.length R ∧ Fr (fun _ => True) w w' := by
 have HA : Hid (Calls _ _ _ _ _) := rAsked_any w vf vo fs o n hn hf ho hol hoa hl hB
 have HBD : Hid (∀ k R, AskSt o fs k R → R.length ≤ 549755813888) := fun k R h => Nat.le_trans (h.bound hl hoa) hB
 have mo := follows
 clear hf ho hol hoa hl hB
 go_enter Tryz.func23, Tryz.ntmps23
 go_wp2_with fail
 refine HA.out.mono ?_
 rintro e w1 ⟨r, R, rfl, hA, ⟨hI, _⟩, hF⟩
 obtain ⟨ra, rc, rfl, hc⟩ := hI.old
 have hbd := HBD.out _ _ hA
 have HF : Hid (Fr (fun _ => True) w w1) := hF
 have HAS : Hid (AskSt o fs R.length R) := hA
 have HC : Hid (∀ (i : Nat) f, R[i]? = some f → ∃ q, ra = some q ∧ w1.cell? (q.add i) = some (.int .i64 (askI o f))) := fun i f hf => hc i (askI o f) (by rw [List.getElem?_map, hf]; rfl)
 have hrl : (R.map (askI o)).length = R.length := List.length_map _
 rw [hrl]
 obtain ⟨rl, hR⟩ : ∃ rl, R.length = rl := ⟨_, rfl⟩
 have HR : Hid (R.length = rl) := hR
 rw [hR] at hbd ⊢
 clear hF hA hc hrl hR HA
 go_wp2_with fail
 go_loopg [5, 7] (rl) (fun k s5 s7 wr => ∃ (j c : Nat), s7 = .int .i64 (j : Int) ∧ s5 = .int .i64 (c : Int) ∧ j + k = rl ∧ c ≤ 549755813888 ∧ Hid (askT o R j = c) ∧ wr = w1)
 case atStart => exact ⟨0, 0, rfl, rfl, by omega, by omega, rfl, rfl⟩
 case round =>
  obtain ⟨j, c, rfl, rfl, hjk, hc, C, rfl⟩ := hrel
  by_cases hj : j < rl
  · obtain ⟨k, rfl⟩ : ∃ k, gk = k + 1 := ⟨gk - 1, by omega⟩
    have hjl : (j : Int) < (rl : Int) := by omega
    have hj0 : (0 : Int) ≤ (j : Int) := by omega
    obtain ⟨f, hf⟩ : ∃ f, R[j]? = some f := ⟨_, List.getElem?_eq_getElem (by rw [HR.out]; exact hj)⟩
    obtain ⟨q, rfl, cq⟩ := HC.out j f hf
    have HS : Hid (askT o R (j + 1) = c + (if 0 ≤ askI o f then 1 else 0)) := by show askT o R (j + 1) = _; rw [askT_succ hf, C.out]
    have hle := askT_le o R (j + 1)
    rw [HR.out] at hle
    by_cases hz : 0 ≤ askI o f
    · have hc2 : askT o R (j + 1) = c + 1 := by rw [HS.out, if_pos hz]
      have HS2 : Hid (askT o R (j + 1) = c + 1) := hc2
      rw [hc2] at hle
      obtain ⟨z, hz2⟩ : ∃ z, askI o f = z := ⟨_, rfl⟩
      rw [hz2] at cq hz
      clear HS C hf hz2 hc2
      go_wp2_with fail
      go_roundg k
      case measure => omega
      case rel => exact ⟨j + 1, c + 1, by simp, by simp, by omega, by omega, HS2.out, rfl⟩
    · have HS2 : Hid (askT o R (j + 1) = c) := by rw [HS.out, if_neg hz]; rfl
      obtain ⟨z, hz2⟩ : ∃ z, askI o f = z := ⟨_, rfl⟩
      rw [hz2] at cq hz
      clear HS C hf hz2 hle
      go_wp2_with fail
      go_roundg k
      case measure => omega
      case rel => exact ⟨j + 1, c, by simp, rfl, by omega, by omega, HS2.out, rfl⟩
  · have hjl : ¬ (j : Int) < (rl : Int) := by omega
    obtain rfl : j = rl := by omega
    have HE : Hid (askN o R = c) := by show askN o R = c; rw [← C.out, ← HR.out, askT_end]
    go_wp2_with fail
    go_ret
    exact ⟨R, by rw [HE.out]; rfl, HAS.out, HF.out⟩
theorem wpList_append_own_any {P : Program} {w : World} {ops : Array Oper} {rest : List Oper} {o : Oper} {a : Act} {Q : Exit → Act → World → Prop} (hgd : o.guard = none) (s x : Operand) (t : TypeId)
 (ho : o.op = .call { callee := .builtin .append, args := #[s, x], argTypes := #[t, t] })
 (base : Nat) (e : TypeId) (i : TypeInfo) (z : Value) (bytes : Nat) (ht : P.underlying t = some (.slice e)) (hi : P.info? e = some i) (hz : i.zero = some z)
 (hsize : i.size = 1) (hby : i.bytes = bytes) (hzs : z.cells.size = 1)
 (v : Value) (n : Nat) (xs : List Value) (hs : a.eval s = v) (hown : w.ownsRow base e 1 v n xs)
 (ao : Option Addr) (m c : Nat) (news : List Value) (hx : a.eval x = .slice ao m c) (hl : news.length = m) (hnone : ao = none → m = 0 ∧ c = 0) (hnews : ∀ ad, ao = some ad → ∀ j u, news[j]? = some u → w.cell? (ad.add j) = some u) (h1 : ∀ u ∈ news, u.oneCell' = true)
 (h63 : n + m ≤ maxLen) (hbytes : (n + m) * bytes ≤ 140737488355328) (hbase : base ≤ w.heap.size)
 (h : ∀ v' w', w'.ownsRow base e 1 v' (n + m) (xs ++ news) → w.grownBy w' v.ownBlock → wpList P ops Q rest (a.put o.dst v') w') : wpList P ops Q (o :: rest) a w := by
 have hl1 : news.length = m * 1 := by omega
 cases ao with
 | some ad => exact wpList_append_own w hgd s x t ho base e i z 1 bytes ht hi hz hsize hby hzs (by decide) v n xs hs hown ad m c news hx hl1 (hnews ad rfl) h1 h63 hbytes hbase fun v' w' h2 h3 _ => h v' w' h2 h3
 | none =>
   obtain ⟨rfl, rfl⟩ := hnone rfl
   have hnews : news = [] := List.eq_nil_of_length_eq_zero hl
   subst hnews
   refine wpList_append_own_none hgd s x t ho base e i 1 ht hi v n xs hs hown hx (h v w ?_ ⟨rfl, rfl, rfl, Nat.le_refl _, fun _ _ _ => rfl⟩)
   rw [List.append_nil]
   exact hown
theorem own_grown {w W w3 : World} {e : TypeId} {v : Value} {xs : List Value} {n : Nat} (hf : Fr (fun _ => True) w W) (hrow : W.ownsRow w.heap.size e 1 v n xs) (hg : W.grownBy w3 v.ownBlock) : Fr (fun _ => True) w w3 :=
 ⟨hg.os.trans hf.os, hg.tape.trans hf.tape, hg.output.trans hf.output, Nat.le_trans hf.size hg.size, fun b hb _ => (hg.block b (Nat.lt_of_lt_of_le hb hf.size) fun e => by have := (hrow.lt b e.symm).1; omega).trans (hf.block b hb trivial)⟩
theorem nodesI_at {l : List Nat} {i x : Nat} (h : l[i]? = some x) : (nodesI l)[i]? = some (x : Int) := by unfold nodesI; rw [List.getElem?_map, h]; rfl
theorem own_irN {w : World} {b n : Nat} {v : Value} {l : List Nat} (hn : l.length = n) (h : w.ownsRow b 3 1 v n (i64C l)) : IR w v (nodesI l) := by
 have e : (nodesI l).map (Value.int .i64) = i64C l := by unfold nodesI i64C; simp
 have e2 : (nodesI l).length = n := by unfold nodesI; rw [List.length_map, hn]
 refine own_ir (b := b) ?_
 rw [e, e2]
 exact h
def outL (o : List Nat) (v : Nat) : List Nat := o.filter (· ≠ v)
def wouL (o : List Nat) (v j : Nat) : List Nat := (o.take j).filter (· ≠ v)
theorem wouL_succ {o : List Nat} {v j x : Nat} (h : o[j]? = some x) : wouL o v (j + 1) = wouL o v j ++ (if x ≠ v then [x] else []) := by
 unfold wouL
 rw [List.take_add_one, h, List.filter_append]
 by_cases e : x = v <;> simp [e]
set_option maxHeartbeats 2000000 in
theorem rWithout_any (w : World) (vo : Value) (o : List Nat) (v : Nat) (ho : IR w vo (nodesI o)) (hol : o.length ≤ 65536) :
 Calls Tryz.prog 55 #[vo, .int .i64 (v : Int)] w fun e w' => ∃ r, e = .returned r ∧ w'.ownsRow w.heap.size 3 1 r (outL o v).length (i64C (outL o v)) ∧ Fr (fun _ => True) w w' := by
 obtain ⟨oa, oc, rfl, hoc⟩ := ho.old
 have hnl : (nodesI o).length = o.length := by unfold nodesI; simp
 rw [hnl]
 have HO : Hid (∀ W, Fr (fun _ => True) w W → ∀ (i v : Nat), o[i]? = some v → ∃ q, oa = some q ∧ W.cell? (q.add i) = some (.int .i64 (v : Int))) := fun W F i v hv => by
  obtain ⟨q, e, h⟩ := hoc i (v : Int) (nodesI_at hv)
  exact ⟨q, e, (World.cell?_of_block (w := w) (F.block _ (World.block_lt_of_cell? w _ h) trivial)).trans h⟩
 obtain ⟨i0, hi0, hz0, hz1, hz2⟩ := infoInt
 obtain ⟨ol, hoL⟩ : ∃ ol, o.length = ol := ⟨_, rfl⟩
 have HOL : Hid (o.length = ol) := hoL
 rw [hoL] at hol ⊢
 have mo := follows
 clear hoc hnl hoL
 go_enter Tryz.func55, Tryz.ntmps55
 go_wp2_with fail
 go_loopg [5, 6] (ol) (fun k s5 s6 wr => ∃ (j l : Nat) (la : Option Addr) (lc : Nat), s6 = .int .i64 (j : Int) ∧ s5 = .slice la l lc ∧ j + k = ol ∧ l ≤ j ∧ Hid ((wouL o v j).length = l) ∧ Hid (wr.ownsRow w.heap.size 3 1 (.slice la l lc) l (i64C (wouL o v j))) ∧ Hid (Fr (fun _ => True) w wr))
 case atStart => exact ⟨0, 0, none, 0, rfl, rfl, by omega, by omega, rfl, World.ownsRow_nil _ _ _ _, Fr.refl _ _⟩
 case round =>
  obtain ⟨j, l, la, lc, rfl, rfl, hjk, hlj, L, Q, F⟩ := hrel
  by_cases hj : j < ol
  · obtain ⟨k, rfl⟩ : ∃ k, gk = k + 1 := ⟨gk - 1, by omega⟩
    have hjl : (j : Int) < (ol : Int) := by omega
    have hj0 : (0 : Int) ≤ (j : Int) := by omega
    obtain ⟨x, hx⟩ : ∃ x, o[j]? = some x := ⟨_, List.getElem?_eq_getElem (by rw [HOL.out]; exact hj)⟩
    obtain ⟨q, rfl, cq⟩ := HO.out wr F.out j x hx
    by_cases hxv : x = v
    · have HS : Hid (wouL o v (j + 1) = wouL o v j) := by show wouL o v (j + 1) = _; rw [wouL_succ hx, if_neg (by omega), List.append_nil]
      subst hxv
      clear hx
      go_wp2_with fail
      go_roundg k
      case measure => omega
      case rel => exact ⟨j + 1, l, la, lc, by simp, rfl, by omega, by omega, by rw [HS.out]; exact L.out, by rw [HS.out]; exact Q.out, F.out⟩
    · have hxi : (x : Int) ≠ (v : Int) := by omega
      have HS : Hid (i64C (wouL o v (j + 1)) = i64C (wouL o v j) ++ [.int .i64 (x : Int)]) := by show i64C (wouL o v (j + 1)) = _; rw [wouL_succ hx, if_pos hxv]; unfold i64C; simp
      have HS2 : Hid ((wouL o v (j + 1)).length = l + 1) := by show (wouL o v (j + 1)).length = _; rw [wouL_succ hx, if_pos hxv, List.length_append, L.out]; rfl
      have HOX : Hid ((wr.alloc (.cells #[.int .i64 (x : Int)] 3)).ownsRow w.heap.size 3 1 (.slice la l lc) l (i64C (wouL o v j))) := Q.out.alloc _
      have hws : w.heap.size ≤ wr.heap.size := F.out.size
      clear hx hxv
      go_wp2_with (at_builtin; refine wpList_append_own _ rfl _ _ 27 rfl w.heap.size 3 i0 _ 1 8 Tryz.underlying27 hi0 hz0 hz1 hz2 rfl (by decide) (.slice la l lc) l _ rfl HOX.out ⟨wr.heap.size, 0, none⟩ 1 1 [.int .i64 (x : Int)] rfl rfl (World.news_of_block (heap_new rfl)) ?q2 ?q3 ?q4 ?q5 ?_)
      case q2 => first | rfl | (intro u hu; rw [List.mem_singleton.1 hu]; rfl)
      case q3 => unfold maxLen; omega
      case q4 => omega
      case q5 => first | omega | (simp; omega)
      intro v' w2 ho hg _
      obtain ⟨⟨g', cap', rfl⟩, h5, _⟩ := own_step F.out Q.out ho hg
      have F2 : Hid (Fr (fun _ => True) w w2) := h5
      have Q2 : Hid (w2.ownsRow w.heap.size 3 1 (.slice (some ⟨g', 0, none⟩) (l + 1) cap') (l + 1) (i64C (wouL o v (j + 1)))) := by rw [HS.out]; exact ho
      clear ho hg h5 HOX HS Q F L
      go_wp2_with fail
      go_roundg k
      case measure => omega
      case rel => exact ⟨j + 1, l + 1, _, _, by simp, rfl, by omega, by omega, HS2.out, Q2.out, F2.out⟩
  · have hjl : ¬ (j : Int) < (ol : Int) := by omega
    have HE : Hid (wouL o v j = outL o v) := by show wouL o v j = _; unfold wouL outL; rw [List.take_of_length_le (by rw [HOL.out]; omega)]
    go_wp2_with fail
    go_ret
    refine ⟨_, rfl, ?_, F.out⟩
    rw [← HE.out, L.out]
    exact Q.out
set_option maxHeartbeats 2000000 in
theorem rAt_any (w : World) (b : Nat) (vr : Value) (rest : List Nat) (v p : Nat) (hr : w.ownsRow b 3 1 vr rest.length (i64C rest)) (hl : rest.length ≤ 65536) (hp : p ≤ rest.length) :
 Calls Tryz.prog 56 #[vr, .int .i64 (v : Int), .int .i64 (p : Int)] w fun e w' => ∃ r, e = .returned r ∧ w'.ownsRow w.heap.size 3 1 r (rest.length + 1) (i64C (atL rest v p)) ∧ Fr (fun _ => True) w w' := by
 obtain ⟨i0, hi0, hz0, hz1, hz2⟩ := infoInt
 obtain ⟨ra, rc, hform, hcap, hcell⟩ : ∃ ra rc, vr = .slice ra rest.length rc ∧ (rest.length ≤ rc ∧ (ra = none → rest.length = 0 ∧ rc = 0)) ∧ ∀ q, ra = some q → ∃ g, q = ⟨g, 0, none⟩ ∧ ∀ (i x : Nat), rest[i]? = some x → w.cell? ⟨g, i, none⟩ = some (.int .i64 (x : Int)) := by
  rcases hr.2 with ⟨rfl, h0⟩ | ⟨g, cap, cur, rfl, hb, hg, hlc, _⟩
  · exact ⟨none, 0, by rw [h0], ⟨by omega, fun _ => ⟨h0, rfl⟩⟩, fun q e => by cases e⟩
  · refine ⟨_, _, rfl, ⟨hlc, fun e => by cases e⟩, fun q e => ⟨g, by cases e; rfl, fun i x hx => ?_⟩⟩
    have := hr.cells rfl i (.int .i64 (x : Int)) (by unfold i64C; rw [List.getElem?_map, hx]; rfl)
    rw [add0] at this
    exact this
 subst hform
 obtain ⟨rl, hRL⟩ : ∃ rl, rest.length = rl := ⟨_, rfl⟩
 have HRL : Hid (rest.length = rl) := hRL
 rw [hRL] at hl hp hcap ⊢
 obtain ⟨hcap, hnone⟩ := hcap
 have HN : Hid (ra = none → rl = 0 ∧ rc = 0) := hnone
 have HCE : Hid (∀ W, Fr (fun _ => True) w W → ∀ q, ra = some q → ∃ g, q = ⟨g, 0, none⟩ ∧ ∀ (i x : Nat), rest[i]? = some x → W.cell? ⟨g, i, none⟩ = some (.int .i64 (x : Int))) := fun W F q hq => by
  obtain ⟨g, e, h⟩ := hcell q hq
  refine ⟨g, e, fun i x hx => ?_⟩
  have h := h i x hx
  exact (World.cell?_of_block (w := w) (F.block _ (World.block_lt_of_cell? w _ h) trivial)).trans h
 have hps : (p : Int) ≤ (rc : Int) := by omega
 have hps2 : (p : Int) ≤ (rl : Int) := by omega
 have mo := follows
 clear hr hRL hnone hcell
 have HI1 : Hid (∀ l : List Nat, ∀ u ∈ i64C l, u.oneCell' = true) := fun l u hu => by
  unfold i64C at hu
  obtain ⟨x, _, rfl⟩ := List.mem_map.1 hu
  rfl
 have HIA : Hid (∀ (l : List Nat) (j : Nat) u, (i64C l)[j]? = some u → ∃ x : Nat, l[j]? = some x ∧ u = .int .i64 (x : Int)) := fun l j u hu => by
  unfold i64C at hu
  rw [List.getElem?_map] at hu
  cases hx : l[j]? with
  | none => rw [hx] at hu; cases hu
  | some x => rw [hx] at hu; exact ⟨x, rfl, (Option.some.inj hu).symm⟩
 have HIL : Hid (∀ l : List Nat, (i64C l).length = l.length) := fun l => by unfold i64C; simp
 go_enter Tryz.func56, Tryz.ntmps56
 go_wp2_with (at_builtin; refine wpList_append_own_any rfl _ _ 27 rfl w.heap.size 3 i0 _ 8 Tryz.underlying27 hi0 hz0 hz1 hz2 rfl (.slice none 0 0) 0 [] rfl (World.ownsRow_nil _ _ _ _) _ p _ (i64C (rest.take p)) rfl ?q1 ?q2 ?q3 ?q4 ?q5 ?q6 ?q7 ?_)
 case q1 => rw [HIL.out, List.length_take, HRL.out]; omega
 case q2 => exact fun e => by have := HN.out e; omega
 case q3 =>
  intro ad had j u hu
  obtain ⟨x, hx, rfl⟩ := HIA.out _ _ _ hu
  obtain ⟨g, rfl, hg⟩ := HCE.out w (Fr.refl _ w) ad had
  rw [add0]
  refine hg j x ?_
  have hj : j < p := by have := lt_of_at hx; rw [List.length_take] at this; omega
  rw [List.getElem?_take_of_lt hj] at hx
  exact hx
 case q4 => exact HI1.out _
 case q5 => unfold maxLen; omega
 case q6 => omega
 case q7 => exact Nat.le_refl _
 intro v1 w1 ho1 hg1
 have F1 : Hid (Fr (fun _ => True) w w1) := own_grown (Fr.refl _ w) (World.ownsRow_nil w w.heap.size 3 1) hg1
 obtain ⟨a1, c1, hv1⟩ : ∃ a1 c1, v1 = .slice a1 p c1 := by
  rcases ho1.2 with ⟨e, h0⟩ | ⟨g, cap, cur, e, _⟩
  · exact ⟨none, 0, by rw [e]; first | done | rfl | (congr 1; omega)⟩
  · exact ⟨_, _, by rw [e]; first | done | rfl | (congr 1; omega)⟩
 subst hv1
 have Q1 : Hid (w1.ownsRow w.heap.size 3 1 (.slice a1 p c1) p (i64C (rest.take p))) := by
  have e : (0 : Nat) + p = p := by omega
  first | exact ho1 | (rw [e] at ho1; exact ho1)
 have HOX : Hid ((w1.alloc (.cells #[.int .i64 (v : Int)] 3)).ownsRow w.heap.size 3 1 (.slice a1 p c1) p (i64C (rest.take p))) := Q1.out.alloc _
 have hws : w.heap.size ≤ w1.heap.size := F1.out.size
 clear ho1 hg1
 go_wp2_with (at_builtin; refine wpList_append_own _ rfl _ _ 27 rfl w.heap.size 3 i0 _ 1 8 Tryz.underlying27 hi0 hz0 hz1 hz2 rfl (by decide) (.slice a1 p c1) p _ rfl HOX.out ⟨w1.heap.size, 0, none⟩ 1 1 [.int .i64 (v : Int)] rfl rfl (World.news_of_block (heap_new rfl)) ?q2 ?q3 ?q4 ?q5 ?_)
 case q2 => first | rfl | (intro u hu; rw [List.mem_singleton.1 hu]; first | rfl | skip)
 case q3 => unfold maxLen; omega
 case q4 => omega
 case q5 => first | omega | (simp; omega)
 intro v' w2 ho hg _
 obtain ⟨⟨g', cap', rfl⟩, h5, _⟩ := own_step F1.out Q1.out ho hg
 have F2 : Hid (Fr (fun _ => True) w w2) := h5
 have Q2 : Hid (w2.ownsRow w.heap.size 3 1 (.slice (some ⟨g', 0, none⟩) (p + 1) cap') (p + 1) (i64C (rest.take p) ++ [.int .i64 (v : Int)])) := ho
 have hws2 : w.heap.size ≤ w2.heap.size := F2.out.size
 have HDR : Hid (∀ ad : Addr, (∃ g : Nat, ra = some ⟨g, 0, none⟩ ∧ ad = ⟨g, p, none⟩) → ∀ j u, (i64C (rest.drop p))[j]? = some u → w2.cell? (ad.add j) = some u) := by
  rintro ad ⟨g, hra, rfl⟩ j u hu
  obtain ⟨x, hx, rfl⟩ := HIA.out _ _ _ hu
  obtain ⟨g2, e, hg⟩ := HCE.out w2 F2.out _ hra
  cases e
  rw [List.getElem?_drop] at hx
  have h7 := hg _ x hx
  have e2 : (⟨g, p, none⟩ : Addr).add j = ⟨g, p + j, none⟩ := by unfold Addr.add; by_cases h : j = 0 <;> simp [h]
  rw [e2]; exact h7
 have HNM : Hid (w2.grownBy w2 none) := ⟨rfl, rfl, rfl, Nat.le_refl _, fun _ _ _ => rfl⟩
 have HFIN : Hid (∀ v3 w3, w3.ownsRow w.heap.size 3 1 v3 (p + 1 + (rl - p)) ((i64C (rest.take p) ++ [.int .i64 (v : Int)]) ++ i64C (rest.drop p)) → w2.grownBy w3 (Value.slice (some ⟨g', 0, none⟩) (p + 1) cap').ownBlock → w3.ownsRow w.heap.size 3 1 v3 (rl + 1) (i64C (atL rest v p)) ∧ Fr (fun _ => True) w w3) := fun v3 w3 h1 h2 => by
  refine ⟨?_, own_grown F2.out Q2.out h2⟩
  have e1 : i64C (atL rest v p) = (i64C (rest.take p) ++ [.int .i64 (v : Int)]) ++ i64C (rest.drop p) := by unfold atL i64C; simp
  have e2 : rl + 1 = p + 1 + (rl - p) := by omega
  rw [e1, e2]
  exact h1
 clear ho hg h5 HOX Q1 F1
 cases ra with
 | none =>
   obtain ⟨h0, h1⟩ := HN.out rfl
   subst h0 h1
   obtain rfl : p = 0 := by omega
   go_wp2_with (at_builtin; refine wpList_append_own_any rfl _ _ 27 rfl w.heap.size 3 i0 _ 8 Tryz.underlying27 hi0 hz0 hz1 hz2 rfl (.slice (some ⟨g', 0, none⟩) 1 cap') 1 _ rfl Q2.out none 0 0 [] rfl rfl ?q2 ?q3 ?q4 ?q5 ?q6 hws2 ?_)
   case q5 => unfold maxLen; omega
   intro v3 w3 h1 h2
   have HE : Hid (_ ∧ _) := HFIN.out v3 w3 (by
    have e : rest.drop 0 = [] := List.eq_nil_of_length_eq_zero (by rw [List.length_drop, HRL.out])
    rw [e]
    simpa [i64C] using h1) h2
   clear h1 h2
   go_wp2_with fail
   go_ret
   exact ⟨_, rfl, HE.out.1, HE.out.2⟩
 | some q =>
   obtain ⟨g, rfl, _⟩ := HCE.out w2 F2.out q rfl
   have q5 : p + 1 + (rl - p) ≤ maxLen := by unfold maxLen; omega
   have q6 : (p + 1 + (rl - p)) * 8 ≤ 140737488355328 := by omega
   by_cases hrp : rc = p
   · have hrl : rl = p := by omega
     subst hrp
     subst hrl
     rw [Nat.sub_self] at q5 q6
     go_wp2_with (at_builtin; refine wpList_append_own_any rfl _ _ 27 rfl w.heap.size 3 i0 _ 8 Tryz.underlying27 hi0 hz0 hz1 hz2 rfl (.slice (some ⟨g', 0, none⟩) (rl + 1) cap') (rl + 1) _ rfl Q2.out (some ⟨g, 0, none⟩) 0 0 [] rfl rfl (fun e => by cases e) (fun _ _ _ _ hu => by cases hu) (fun _ hu => by cases hu) q5 q6 hws2 ?_)
     intro v3 w3 h1 h2
     have HE : Hid (_ ∧ _) := HFIN.out v3 w3 (by
      have e : rest.drop rl = [] := List.eq_nil_of_length_eq_zero (by rw [List.length_drop, HRL.out]; omega)
      rw [e, Nat.sub_self]
      simpa [i64C] using h1) h2
     clear h1 h2
     go_wp2_with fail
     go_ret
     exact ⟨_, rfl, HE.out.1, HE.out.2⟩
   · go_wp2_with (at_builtin; refine wpList_append_own_any rfl _ _ 27 rfl w.heap.size 3 i0 _ 8 Tryz.underlying27 hi0 hz0 hz1 hz2 rfl (.slice (some ⟨g', 0, none⟩) (p + 1) cap') (p + 1) _ rfl Q2.out (some ⟨g, p, none⟩) (rl - p) _ (i64C (rest.drop p)) rfl (by rw [HIL.out, List.length_drop, HRL.out]) (fun e => by cases e) (fun ad e => HDR.out ad ⟨g, rfl, (Option.some.inj e).symm⟩) (HI1.out _) q5 q6 hws2 ?_)
     intro v3 w3 h1 h2
     have HE : Hid (_ ∧ _) := HFIN.out v3 w3 (by rw [List.append_assoc]; exact h1) h2
     clear h1 h2
     go_wp2_with fail
     go_ret
     exact ⟨_, rfl, HE.out.1, HE.out.2⟩
end Go.Proofs.YtaakjjefnjbabaaGreat.Sx
namespace Go.Proofs.YtaakjjefnjbabaaGreat.Sx
def askC (o : List Nat) (R : List (List Bool)) (v : Nat) : Nat := R.countP fun f => firstO o f == some v
def cntTo (n : Nat) (o : List Nat) (R : List (List Bool)) (j : Nat) : List Nat := (List.range n).map (askC o (R.take j))
theorem cntTo_at {n : Nat} {o : List Nat} {R : List (List Bool)} {j a : Nat} (h : a < n) : (cntTo n o R j)[a]? = some (askC o (R.take j) a) := by
 unfold cntTo
 rw [List.getElem?_map, List.getElem?_range h]
 rfl
theorem askC_succ {o : List Nat} {R : List (List Bool)} {j : Nat} {f : List Bool} (hf : R[j]? = some f) (v : Nat) : askC o (R.take (j + 1)) v = askC o (R.take j) v + (if firstO o f = some v then 1 else 0) := by
 unfold askC
 rw [List.take_add_one, hf, List.countP_append]
 show _ + [f].countP _ = _
 rw [List.countP_singleton]
 by_cases h : firstO o f = some v <;> simp [h]
theorem cntTo_none {n : Nat} {o : List Nat} {R : List (List Bool)} {j : Nat} {f : List Bool} (hf : R[j]? = some f) (h : firstO o f = none) : cntTo n o R (j + 1) = cntTo n o R j := by
 unfold cntTo
 refine List.map_congr_left fun v _ => ?_
 rw [askC_succ hf, h]
 rfl
theorem cntTo_some {n : Nat} {o : List Nat} {R : List (List Bool)} {j a : Nat} {f : List Bool} (hf : R[j]? = some f) (h : firstO o f = some a) : cntTo n o R (j + 1) = (cntTo n o R j).set a (askC o (R.take j) a + 1) := by
 refine List.ext_getElem? fun i => ?_
 by_cases hi : i < n
 · rw [cntTo_at hi, askC_succ hf, h, List.getElem?_set, cntTo_at hi]
   by_cases e : a = i
   · subst e
     have hl : a < (cntTo n o R j).length := by unfold cntTo; simpa using hi
     simp [hl]
   · rw [if_neg e, if_neg (fun q => e (Option.some.inj q))]; rfl
 · rw [List.getElem?_eq_none (by unfold cntTo; simp; omega), List.getElem?_eq_none (by rw [List.length_set]; unfold cntTo; simp; omega)]
theorem askC_le (o : List Nat) (R : List (List Bool)) (j v : Nat) : askC o (R.take j) v ≤ R.length := Nat.le_trans List.countP_le_length (by rw [List.length_take]; omega)
theorem cntTo_end (n : Nat) (o : List Nat) (R : List (List Bool)) {j : Nat} (h : j = R.length) : cntTo n o R j = (List.range n).map (askC o R) := by
 subst h
 unfold cntTo
 rw [List.take_of_length_le (Nat.le_refl _)]
theorem cntTo_zero (n : Nat) (o : List Nat) (R : List (List Bool)) : cntTo n o R 0 = List.replicate n 0 := by
 unfold cntTo
 refine List.ext_getElem (by simp) fun i h1 h2 => by simp [askC]
def pickV (A : Nat → Nat) (d : List Nat) : Nat → Option Nat
 | 0 => none
 | i + 1 => if i ∈ d then pickV A d i else match pickV A d i with
   | none => some i
   | some v => if A v < A i then some i else some v
theorem pickV_some {A : Nat → Nat} {d : List Nat} : ∀ {i v : Nat}, pickV A d i = some v → v < i ∧ v ∉ d ∧ ∀ y, y < i → y ∉ d → y ≠ v → Rk A v y
 | 0, v, h => by cases h
 | i + 1, v, h => by
   unfold pickV at h
   by_cases hd : i ∈ d
   · rw [if_pos hd] at h
     obtain ⟨h1, h2, h3⟩ := pickV_some h
     refine ⟨by omega, h2, fun y hy hyd hne => ?_⟩
     by_cases e : y = i
     · subst e; exact absurd hd hyd
     · exact h3 y (by omega) hyd hne
   · rw [if_neg hd] at h
     cases hp : pickV A d i with
     | none =>
       rw [hp] at h
       cases h
       refine ⟨by omega, hd, fun y hy hyd hne => ?_⟩
       have : ∀ (i : Nat), pickV A d i = none → ∀ y, y < i → y ∈ d := by
        intro i
        induction i with
        | zero => intro _ y hy; omega
        | succ i ih =>
          intro h y hy
          unfold pickV at h
          by_cases hd : i ∈ d
          · rw [if_pos hd] at h
            by_cases e : y = i
            · subst e; exact hd
            · exact ih h y (by omega)
          · rw [if_neg hd] at h
            cases hp : pickV A d i with
            | none => rw [hp] at h; cases h
            | some u =>
              rw [hp] at h
              simp only at h
              split at h <;> cases h
       exact absurd (this i hp y (by omega)) hyd
     | some u =>
       rw [hp] at h
       obtain ⟨h1, h2, h3⟩ := pickV_some hp
       simp only at h
       by_cases ha : A u < A i
       · rw [if_pos ha] at h
         cases h
         refine ⟨by omega, hd, fun y hy hyd hne => ?_⟩
         by_cases e : y = u
         · subst e; exact .inl ha
         · have := h3 y (by omega) hyd e
           unfold Rk at this ⊢
           omega
       · rw [if_neg ha] at h
         cases h
         refine ⟨by omega, h2, fun y hy hyd hne => ?_⟩
         by_cases e : y = i
         · subst e
           unfold Rk
           omega
         · exact h3 y (by omega) hyd hne
theorem pickV_none {A : Nat → Nat} {d : List Nat} : ∀ (i : Nat), pickV A d i = none → ∀ y, y < i → y ∈ d
 | 0, _, y, hy => by omega
 | i + 1, h, y, hy => by
   unfold pickV at h
   by_cases hd : i ∈ d
   · rw [if_pos hd] at h
     by_cases e : y = i
     · subst e; exact hd
     · exact pickV_none i h y (by omega)
   · rw [if_neg hd] at h
     cases hp : pickV A d i with
     | none => rw [hp] at h; cases h
     | some u =>
       rw [hp] at h
       simp only at h
       split at h <;> cases h
structure PickS (A : Nat → Nat) (n : Nat) (d : List Nat) : Prop where
 nd : d.Nodup
 lt : ∀ x ∈ d, x < n
 rk : d.Pairwise (Rk A)
 up : ∀ x ∈ d, ∀ y, y < n → y ∉ d → Rk A x y
theorem PickS.nil (A : Nat → Nat) (n : Nat) : PickS A n [] := ⟨List.nodup_nil, fun x h => (by cases h), List.Pairwise.nil, fun x h => (by cases h)⟩
theorem PickS.push {A : Nat → Nat} {n v : Nat} {d : List Nat} (h : PickS A n d) (hp : pickV A d n = some v) : PickS A n (d ++ [v]) := by
 obtain ⟨h1, h2, h3⟩ := pickV_some hp
 refine ⟨List.nodup_append.2 ⟨h.nd, by simp, fun a ha b hb e => h2 ?_⟩, fun x hx => ?_, List.pairwise_append.2 ⟨h.rk, by simp, fun a ha b hb => ?_⟩, fun x hx y hy hyd => ?_⟩
 · rw [List.mem_singleton.1 hb] at e; rw [← e]; exact ha
 · rcases List.mem_append.1 hx with q | q
   · exact h.lt x q
   · rw [List.mem_singleton.1 q]; exact h1
 · rw [List.mem_singleton.1 hb]; exact h.up a ha v h1 h2
 · have hyd1 : y ∉ d := fun q => hyd (List.mem_append.2 (.inl q))
   rcases List.mem_append.1 hx with q | q
   · exact h.up x q y hy hyd1
   · rw [List.mem_singleton.1 q]
     exact h3 y hy hyd1 fun e => hyd (List.mem_append.2 (.inr (by rw [e]; simp)))
theorem PickS.ex {A : Nat → Nat} {n : Nat} {d : List Nat} (_ : PickS A n d) (hl : d.length < n) : ∃ v, pickV A d n = some v := by
 cases hp : pickV A d n with
 | some v => exact ⟨v, rfl⟩
 | none =>
   have h2 : (List.range n).length ≤ d.length := nodup_sub List.nodup_range fun x hx => pickV_none n hp x (List.mem_range.1 hx)
   rw [List.length_range] at h2
   omega
theorem PickS.perm {A : Nat → Nat} {n : Nat} {d : List Nat} (h : PickS A n d) (hl : d.length = n) : d.Perm (List.range n) := perm_range h.nd h.lt hl
theorem pickV_step {A : Nat → Nat} {d : List Nat} {i : Nat} : (i ∈ d → pickV A d (i + 1) = pickV A d i) ∧ (i ∉ d → pickV A d i = none → pickV A d (i + 1) = some i) ∧ (∀ v, i ∉ d → pickV A d i = some v → A v < A i → pickV A d (i + 1) = some i) ∧ (∀ v, i ∉ d → pickV A d i = some v → ¬ A v < A i → pickV A d (i + 1) = some v) := by
 refine ⟨fun h => if_pos h, fun h e => ?_, fun v h e ha => ?_, fun v h e ha => ?_⟩
 · show (if i ∈ d then _ else _) = _
   rw [if_neg h, e]
 · show (if i ∈ d then _ else _) = _
   rw [if_neg h, e]
   exact if_pos ha
 · show (if i ∈ d then _ else _) = _
   rw [if_neg h, e]
   exact if_neg ha
end Go.Proofs.YtaakjjefnjbabaaGreat.Sx
