/- The reference: its reader: rows of pairs: the walk. -/
import Derived.Test.YtbogejmmkohbkaaGreatDoorGRV
namespace Go.Proofs.YtbogejmmkohbkaaGreatDoor.Sx
open Go.RowKit Go.Sort

theorem pair_agree {β : Type} {T : List UInt8} {item : St → Except (Nat × Nat) (β × St)} {s1 s3 s5 : RSt} {x y : β} (h1 : AgreeR T (item (pos T s1.at' s1.hv)) s1 x s3)
    (h2 : AgreeR T (item (pos T (wantS T [58] s3).at' (wantS T [58] s3).hv)) (wantS T [58] s3) y s5) : AgreeR T (pairP T item (pos T s1.at' s1.hv)) s1 (x, y) s5 := by
  obtain ⟨a1, a2, a3, a4, a5⟩ := h1
  obtain ⟨b1, b2, b3, b4, b5⟩ := h2
  have wa := want_at T [58] s3 a2
  refine ⟨b1.trans (wa.2.2.trans a1), b2, Nat.le_trans a3 (Nat.le_trans wa.1 b3), fun q => ?_, fun q => ?_⟩
  · have c := a4 q
    have we := want_err T [58] s3 (by rw [c.1]; exact q)
    have d := b4 (by rw [we.1, c.1]; exact q)
    exact ⟨d.1.trans (we.1.trans c.1), d.2.trans (we.2.trans c.2)⟩
  · unfold pairP
    rcases a5 q with ⟨c1, c2⟩ | ⟨c1, c2⟩
    · rw [c2]
      simp only
      rcases want_so T [58] s3 (by unfold Sgn; simp) c1 with ⟨w1, w2, w3, w4⟩ | ⟨w1, w2, w3⟩
      · rw [w1, if_pos rfl, w3]
        rw [w4] at b5
        rcases b5 w2 with ⟨d1, d2⟩ | ⟨d1, d2⟩
        · exact .inl ⟨d1, by rw [d2]⟩
        · exact .inr ⟨d1, by rw [d2]⟩
      · rw [w1, if_neg (by simp)]
        have d := b4 (by rw [w2]; decide)
        exact .inr ⟨by rw [d.1, w2]; decide, by rw [d.1, d.2, w2, w3]; rfl⟩
    · rw [c2]
      have we := want_err T [58] s3 c1
      have d := b4 (by rw [we.1]; exact c1)
      exact .inr ⟨by rw [d.1, we.1]; exact c1, by rw [d.1, d.2, we.1, we.2]⟩
theorem zip_pairs {α : Type} : ∀ ps : List (α × α), (ps.map Prod.fst).zip (ps.map Prod.snd) = ps
  | [] => rfl
  | p :: ps => by simp [zip_pairs ps]

theorem ones5 (u : H5) : ∀ q ∈ [u.c0, u.c1, u.c2, u.c3, u.c4], Value.oneCell' q = true := by
  intro q hq
  simp only [List.mem_cons, List.not_mem_nil, or_false] at hq
  rcases hq with rfl | rfl | rfl | rfl | rfl
  · exact u.o0
  · exact u.o1
  · exact u.o2
  · exact u.o3
  · exact u.o4
/-- what is told of a row of pairs -/
def VPair (w : World) (br : Nat) (t : ByteArray) (s : RSt) (k : Nat) (R : Except (Nat × Nat) (List (AV (k + 1) × AV (k + 1)) × St)) (e : Ending) (w' : World) : Prop :=
  ∃ (a a' : Option Addr) (len cap cap' : Nat) (ps : List (AV (k + 1) × AV (k + 1))) (s' : RSt), e = .returned (.tuple #[.slice a len cap, .slice a' len cap']) ∧ Fr (· ≠ br) w w' ∧ Row5 (fun j => w.heap.size ≤ j) w' (Ref (fun j => w.heap.size ≤ j) w' (k + 1)) a len (ps.map Prod.fst) ∧ Row5 (fun j => w.heap.size ≤ j) w' (Ref (fun j => w.heap.size ≤ j) w' (k + 1)) a' len (ps.map Prod.snd) ∧ len ≤ 4001 ∧ (∀ x, x ∈ ps.map Prod.fst ∨ x ∈ ps.map Prod.snd → wtR (k + 1) x = wt (k + 1) x ∧ wt (k + 1) x ≤ 1024) ∧ RR w' br t s' ∧ AgreeR t.data.toList R s ps s'

set_option maxRecDepth 100000 in
set_option maxHeartbeats 4000000 in
theorem rvalues_pairs (k : Nat) (hV : RVal k) (hk : k ≤ 23) (w : World) (br : Nat) (t m : ByteArray) (s : RSt) (h : RR w br t s) (he : s.e = 0) (hd : s.deep = 23 - k) (ha : s.at' ≤ t.size) (ht : t.size ≤ 4000) (hm : Sgn m.data.toList) (h44 : [44] ≠ m.data.toList) (hms : m.size ≤ 2) :
    Calls Tryz.prog 65 #[.pointer (some ⟨br, 0, none⟩), .string m, .int .i64 1, .bool true] w (VPair w br t s k (listP t.data.toList m.data.toList (pairP t.data.toList (valueP t.data.toList k)) (t.data.toList.length + 1) (pos t.data.toList s.at' s.hv))) := by
  have hlt : t.data.toList.length = t.size := by simp
  obtain ⟨R, hR⟩ : ∃ R, listP t.data.toList m.data.toList (pairP t.data.toList (valueP t.data.toList k)) (t.data.toList.length + 1) (pos t.data.toList s.at' s.hv) = R := ⟨_, rfl⟩
  rw [hR]
  have HR : Hid (_ = R) := hR
  clear hR
  have HV : Hid (RVal k) := hV
  have HM : Hid (Sgn m.data.toList ∧ [44] ≠ m.data.toList) := ⟨hm, h44⟩
  clear hV hm h44
  obtain ⟨at', deep, e, bad, hv⟩ := s
  simp only at he hd ha HR
  subst he
  have c2 := block_cell h 2
  have f2 := frozen_block h 2
  have hl := block_lt h
  have hdb : deep ≤ 23 := by omega
  have HD : Hid (deep = 23 - k) := hd
  clear hd
  obtain ⟨z, hz⟩ : ∃ z, z = deep + 1 := ⟨_, rfl⟩
  have hw1 : (deep : Int) + 1 = (z : Int) := by omega
  have hw2 : wrap64 (z : Int) = (z : Int) := by unfold wrap64; omega
  have hn : ¬ (24 : Int) < (z : Int) := by omega
  have HZ : Hid (z = deep + 1) := hz
  clear hz
  have HX : Hid (RR (w.setCell ⟨br, 2, none⟩ (.int .i64 (z : Int))) br t ⟨at', z, 0, bad, hv⟩) := by
    have := set_block h 2 (.int .i64 (z : Int))
    exact this
  have HF : Hid (Fr (· ≠ br) w (w.setCell ⟨br, 2, none⟩ (.int .i64 (z : Int)))) := (Fr.refl _ w).set (by simp) _
  clear h
  have HSG : Hid (∀ (W : World) (s : RSt) (mm : ByteArray), RR W br t s → s.at' ≤ t.size → mm.size ≤ 100 → _) := fun W s mm q1 q2 q3 => rsign_any W br t mm s q1 q2 ht q3
  have HWA : Hid (∀ (W : World) (s : RSt) (mm : ByteArray), RR W br t s → s.at' ≤ t.size → mm.size ≤ 100 → _) := fun W s mm q1 q2 q3 => rwant_any W br t mm s q1 q2 ht q3
  generalize hP : VPair w br t ⟨at', deep, 0, bad, hv⟩ k R = PP
  have HP : Hid (_ = PP) := hP
  clear hP
  go_enter Tryz.func65, Tryz.ntmps65
  go_wp2_with fail
  generalize w.setCell ⟨br, 2, none⟩ (.int .i64 (z : Int)) = w0 at HX HF ⊢
  have HL : Hid (LoopA t.data.toList m.data.toList (pairP t.data.toList (valueP t.data.toList k)) R (t.size + 1) [] false ⟨at', z, 0, bad, hv⟩ ∧ z = z ∧ at' ≤ at') := by
    refine ⟨⟨by rw [hlt]; exact ha, by simp, .inr (.inr ⟨rfl, rfl, ?_, by rw [hlt]; omega, by simp⟩)⟩, rfl, Nat.le_refl _⟩
    rw [← HR.out, hlt]
    unfold pend
    cases listP t.data.toList m.data.toList (pairP t.data.toList (valueP t.data.toList k)) (t.size + 1) (pos t.data.toList at' hv) <;> rfl
  have HR1 : Hid (RR w0 br t ⟨at', z, 0, bad, hv⟩) := HX.out
  have HF1 : Hid (Fr (· ≠ br) w w0) := HF.out
  clear HF HX HR c2 f2
  go_loopg [10, 11, 12] (t.size + 1) (fun f sk sl en wr => ∃ (s2 : RSt) (ks : List (AV (k + 1) × AV (k + 1))) (hs us : List H5) (b2 : Bool), en = .bool b2 ∧ Hid (LoopA t.data.toList m.data.toList (pairP t.data.toList (valueP t.data.toList k)) R f ks b2 s2 ∧ s2.deep = z ∧ at' ≤ s2.at') ∧ Hid (Rows2 w.heap.size wr (k + 1) sk sl hs us (ks.map Prod.fst) (ks.map Prod.snd)) ∧ Hid (RR wr br t s2) ∧ Hid (Fr (· ≠ br) w wr))
  case atStart => exact ⟨_, [], [], [], false, rfl, HL, Rows2.nil _ _ _, HR1, HF1⟩
  case round =>
    clear HL HR1 HF1
    obtain ⟨s2, ks, hs, us, b2, rfl, HL, HW, HR1, HF1⟩ := hrel
    have hs2 := HL.out.1.1
    obtain ⟨at2, deep2, e2, bad2, hv2⟩ := s2
    have hdz : deep2 = z := HL.out.2.1
    subst deep2
    have c3 := block_cell HR1.out 3
    have c2 := block_cell HR1.out 2
    have f2 := frozen_block HR1.out 2
    have hbl := block_lt HR1.out
    have hw3 : wrap64 ((z : Int) - 1) = (z : Int) - 1 := by have := HZ.out; unfold wrap64; omega
    have HW4 : Hid ((z : Int) - 1 = (deep : Int)) := by show _ = _; have := HZ.out; omega
    have HEND : Hid ((e2 ≠ 0 ∨ b2 = true) → PP (.returned (.tuple #[u10, u11])) (wr.setCell ⟨br, 2, none⟩ (.int .i64 (deep : Int)))) := by
      intro hd
      have hA := HL.out.1.agree (s := ⟨at', deep, 0, bad, hv⟩) (dp := deep) hd rfl rfl HL.out.2.2
      have hlk : hs.length = (ks.map Prod.fst).length := HW.out.a1.1
      have hlu : us.length = (ks.map Prod.snd).length := HW.out.a2.1
      rw [List.length_map] at hlk hlu
      have hkl := HL.out.1.2.1
      have hfw : Fr (fun k => w.heap.size ≤ k) wr (wr.setCell ⟨br, 2, none⟩ (.int .i64 (deep : Int))) := (Fr.refl _ wr).set (by simp; omega) _
      have HW2 := HW.out.keep hfw
      obtain ⟨sa, sn, sc, rfl, hrow⟩ := row_of_owns2 (Q := fun k => w.heap.size ≤ k) HW2.o1 HW2.a1 (by simp only at hkl hs2; omega) (Fr.refl _ _) (fun g hg => hg) (fun k hk hp => hp.1)
      obtain ⟨ta, tn, tc, rfl, hrow2⟩ := row_of_owns2 (Q := fun k => w.heap.size ≤ k) HW2.o2 HW2.a2 (by simp only at hkl hs2; omega) (Fr.refl _ _) (fun g hg => hg) (fun k hk hp => hp.1)
      have hsn : sn = ks.length := by have := hrow.1; rw [List.length_map] at this; exact this
      have htn : tn = ks.length := by have := hrow2.1; rw [List.length_map] at this; exact this
      subst hsn htn
      rw [← HP.out]
      refine ⟨sa, ta, _, sc, tc, ks, _, rfl, HF1.out.set (by simp) _, hrow, hrow2, by simp only at hkl hs2; omega, fun x hx => hx.elim (HW2.m1 x) (HW2.m2 x), ?_, hA⟩
      exact set_block HR1.out 2 _
    by_cases he2 : e2 = 0
    · subst he2
      cases b2 with
      | true =>
        have HE := HEND.out (.inr rfl)
        clear HEND
        go_wp2_with fail
        rw [HW4.out]; exact HE
      | false =>
        clear HEND
        have hgk0 : 1 ≤ gk := by
          rcases HL.out.1.2.2 with q | q | q
          · exact absurd rfl q.1
          · exact absurd q.2.1 (by simp)
          · have := q.2.2.2.1; simp only at hs2 this; omega
        go_wp2_with fail
        refine (HV.out wr br t _ HR1.out (by have := HZ.out; have := HD.out; show z = 24 - k; omega) (by rw [← hlt]; exact hs2) ht).mono ?_
        rintro e' w2 ⟨v, x, s3, rfl, hf2, hx, hmx, hr3, hag⟩
        have HX : Hid (Ref _ w2 (k + 1) x v) := HW.out.apart HF1.out.size hx
        have HW2 : Hid (Rows2 w.heap.size w2 (k + 1) u10 u11 hs us (ks.map Prod.fst) (ks.map Prod.snd)) := HW.out.keep (hf2.mono (fun j hj => by omega))
        have HAG : Hid (AgreeR _ _ _ x s3) := hag
        have hs3 : s3.at' ≤ t.size := by rw [← hlt]; exact hag.2.1
        have HR3 : Hid (RR w2 br t s3) := hr3
        have HF3 : Hid (Fr (· ≠ br) w w2) := HF1.out.trans hf2
        have HMX : Hid (_ ∧ _) := hmx
        have hlk : hs.length ≤ 4001 ∧ us.length ≤ 4001 := by
          have q1 : hs.length = (ks.map Prod.fst).length := HW.out.a1.1
          have q3 : us.length = (ks.map Prod.snd).length := HW.out.a2.1
          have q2 := HL.out.1.2.1
          rw [List.length_map] at q1 q3
          simp only at q2 hs2
          omega
        obtain ⟨u, rfl⟩ := hx.ones
        obtain ⟨i0, hi0, hz0, hz1, hz2⟩ := info_parts info5
        have hbw : w.heap.size ≤ w2.heap.size := HF3.out.size
        clear hag hmx hx hf2 hr3 HW HR1 HF1 c3 c2 f2 hbl
        have mo := follows
        unfold H5.v
        have st0 := store_one u.o0
        have st1 := store_one u.o1
        have st2 := store_one u.o2
        have st3 := store_one u.o3
        have st4 := store_one u.o4
        have G2 : Grew w2 ((w2.alloc (.cells #[u.c0, u.c1, u.c2, u.c3, u.c4] 30)).alloc (.cells #[u.c0, u.c1, u.c2, u.c3, u.c4] 30)) := ((Grew.refl w2).alloc _).alloc _
        have HXN : Hid (((w2.alloc (.cells #[u.c0, u.c1, u.c2, u.c3, u.c4] 30)).alloc (.cells #[u.c0, u.c1, u.c2, u.c3, u.c4] 30)).heap[w2.heap.size + 1]? = some (.cells #[u.c0, u.c1, u.c2, u.c3, u.c4] 30 (0, 0))) := heap_new (by simp)
        have HW4' : Hid (Rows2 w.heap.size ((w2.alloc (.cells #[u.c0, u.c1, u.c2, u.c3, u.c4] 30)).alloc (.cells #[u.c0, u.c1, u.c2, u.c3, u.c4] 30)) (k + 1) u10 u11 hs us (ks.map Prod.fst) (ks.map Prod.snd)) := HW2.out.keep (Fr.grew G2)
        have HX4 : Hid (Ref (fun j => w.heap.size ≤ j ∧ u10.ownBlock ≠ some j ∧ u11.ownBlock ≠ some j) ((w2.alloc (.cells #[u.c0, u.c1, u.c2, u.c3, u.c4] 30)).alloc (.cells #[u.c0, u.c1, u.c2, u.c3, u.c4] 30)) (k + 1) x u.v) := HX.out.grew G2
        have HF4 : Hid (Fr (· ≠ br) w ((w2.alloc (.cells #[u.c0, u.c1, u.c2, u.c3, u.c4] 30)).alloc (.cells #[u.c0, u.c1, u.c2, u.c3, u.c4] 30))) := HF3.out.trans (Fr.grew G2)
        have HR4 : Hid (RR ((w2.alloc (.cells #[u.c0, u.c1, u.c2, u.c3, u.c4] 30)).alloc (.cells #[u.c0, u.c1, u.c2, u.c3, u.c4] 30)) br t s3) := HR3.out.fr (G2.below.block br (block_lt HR3.out))
        clear G2 HW2 HX HF3 HR3
        have HON : Hid (∀ q ∈ [u.c0, u.c1, u.c2, u.c3, u.c4], Value.oneCell' q = true) := ones5 u
        go_wp2_with (at_builtin; refine wpList_append_lies _ rfl (.tmp 54) (.tmp 56) 28 rfl w.heap.size 30 i0 nilV5 5 80 Tryz.underlying28 hi0 hz0 hz1 hz2 rfl (by decide) u10 hs.length (flat5 hs) rfl HW4'.out.o1 ⟨w2.heap.size + 1, 0, none⟩ 1 1 [u.c0, u.c1, u.c2, u.c3, u.c4] rfl rfl (World.news_of_block HXN.out) HON.out (by decide) ?q3 ?q4 ?q5 (w2.heap.size + 2) ?q6 ?_)
        case q3 => unfold maxLen; omega
        case q4 => omega
        case q5 => simp; omega
        case q6 => simp
        intro g cap2 w4 ho hg hat hlt4
        have hfw : Fr (fun j => j < ((w2.alloc (.cells #[u.c0, u.c1, u.c2, u.c3, u.c4] 30)).alloc (.cells #[u.c0, u.c1, u.c2, u.c3, u.c4] 30)).heap.size ∧ u10.ownBlock ≠ some j) ((w2.alloc (.cells #[u.c0, u.c1, u.c2, u.c3, u.c4] 30)).alloc (.cells #[u.c0, u.c1, u.c2, u.c3, u.c4] 30)) w4 := (Fr.refl _ _).grownBy hg (fun k' _ e hp => hp.2 e)
        have HW5 : Hid (Rows2 w.heap.size w4 (k + 1) (.slice (some ⟨g, 0, none⟩) (hs.length + 1) cap2) u11 (hs ++ [u]) us (ks.map Prod.fst ++ [x]) (ks.map Prod.snd)) := HW4'.out.put1 (Own5.of (by rw [← flat5_one]; exact ho)).1 (by simp) hfw (hat.imp id (fun e => by simp; omega)) HX4.out HMX.out
        have hzr := block_lt HR4.out
        have HR5 : Hid (RR w4 br t s3) := HR4.out.fr (hfw.block br hzr ⟨hzr, fun e => by have := (own5_low HW4'.out.o1 e).1; omega⟩)
        have HF5 : Hid (Fr (· ≠ br) w w4) := ⟨hfw.os.trans HF4.out.os, hfw.tape.trans HF4.out.tape, hfw.output.trans HF4.out.output, Nat.le_trans HF4.out.size hfw.size, fun i hi hp => (hfw.block i (Nat.lt_of_lt_of_le hi HF4.out.size) ⟨Nat.lt_of_lt_of_le hi HF4.out.size, fun e => by have := (own5_low HW4'.out.o1 e).1; omega⟩).trans (HF4.out.block i hi hp)⟩
        clear ho hg hat hlt4 hfw hzr HW4' HX4 HF4 HR4 HXN HON st0 st1 st2 st3 st4 HMX
        go_wp2_with fail
        refine (HWA.out w4 s3 ⟨#[58]⟩ HR5.out hs3 (by decide)).mono ?_
        rintro e' w5 ⟨rfl, hr6, hf6⟩
        have e58 : (⟨#[58]⟩ : ByteArray).data.toList = [58] := rfl
        rw [e58] at hr6
        clear e58
        have sw := want_at t.data.toList [58] s3 (by rw [hlt]; exact hs3)
        have HW6 : Hid (Rows2 w.heap.size w5 (k + 1) (.slice (some ⟨g, 0, none⟩) (hs.length + 1) cap2) u11 (hs ++ [u]) us (ks.map Prod.fst ++ [x]) (ks.map Prod.snd)) := HW5.out.keep (hf6.mono (fun j hj => by omega))
        have HF6 : Hid (Fr (· ≠ br) w w5) := HF5.out.trans hf6
        have HR6 : Hid (RR w5 br t (wantS t.data.toList [58] s3)) := hr6
        have hsd : (wantS t.data.toList [58] s3).deep = z := sw.2.2.trans HAG.out.1
        have hsa : (wantS t.data.toList [58] s3).at' ≤ t.size := by rw [← hlt]; exact sw.2.1
        clear hr6 hf6 sw HW5 HF5 HR5
        go_wp2_with fail
        refine (HV.out w5 br t _ HR6.out (by have := HZ.out; have := HD.out; rw [hsd]; omega) hsa ht).mono ?_
        rintro e' w6 ⟨v, y, s5, rfl, hf7, hy, hmy, hr7, hag⟩
        have HAP : Hid (AgreeR t.data.toList (pairP t.data.toList (valueP t.data.toList k) (pos t.data.toList at2 hv2)) ⟨at2, z, 0, bad2, hv2⟩ (x, y) s5) := pair_agree HAG.out hag
        have HX : Hid (Ref _ w6 (k + 1) y v) := HW6.out.apart HF6.out.size hy
        have HW7 : Hid (Rows2 w.heap.size w6 (k + 1) (.slice (some ⟨g, 0, none⟩) (hs.length + 1) cap2) u11 (hs ++ [u]) us (ks.map Prod.fst ++ [x]) (ks.map Prod.snd)) := HW6.out.keep (hf7.mono (fun j hj => by omega))
        have hs5 : s5.at' ≤ t.size := by rw [← hlt]; exact hag.2.1
        have HR7 : Hid (RR w6 br t s5) := hr7
        have HF7 : Hid (Fr (· ≠ br) w w6) := HF6.out.trans hf7
        have HMX : Hid (_ ∧ _) := hmy
        obtain ⟨u', rfl⟩ := hy.ones
        have hbw6 : w.heap.size ≤ w6.heap.size := HF7.out.size
        have hrd := HL.out.1.round HM.out.1 HM.out.2 rfl HAP.out
        have HRD : Hid (_ ∧ _) := hrd
        have HSD : Hid (s5.deep = z ∧ at' ≤ s5.at') := ⟨HAP.out.1, Nat.le_trans HL.out.2.2 HAP.out.2.2.1⟩
        clear hag hmy hy hf7 hr7 HW6 HR6 HF6 hsa hsd hrd HAP HAG HL
        unfold H5.v
        have st0 := store_one u'.o0
        have st1 := store_one u'.o1
        have st2 := store_one u'.o2
        have st3 := store_one u'.o3
        have st4 := store_one u'.o4
        have G2 : Grew w6 ((w6.alloc (.cells #[u'.c0, u'.c1, u'.c2, u'.c3, u'.c4] 30)).alloc (.cells #[u'.c0, u'.c1, u'.c2, u'.c3, u'.c4] 30)) := ((Grew.refl w6).alloc _).alloc _
        have HXN : Hid (((w6.alloc (.cells #[u'.c0, u'.c1, u'.c2, u'.c3, u'.c4] 30)).alloc (.cells #[u'.c0, u'.c1, u'.c2, u'.c3, u'.c4] 30)).heap[w6.heap.size + 1]? = some (.cells #[u'.c0, u'.c1, u'.c2, u'.c3, u'.c4] 30 (0, 0))) := heap_new (by simp)
        have HW4' : Hid (Rows2 w.heap.size ((w6.alloc (.cells #[u'.c0, u'.c1, u'.c2, u'.c3, u'.c4] 30)).alloc (.cells #[u'.c0, u'.c1, u'.c2, u'.c3, u'.c4] 30)) (k + 1) (.slice (some ⟨g, 0, none⟩) (hs.length + 1) cap2) u11 (hs ++ [u]) us (ks.map Prod.fst ++ [x]) (ks.map Prod.snd)) := HW7.out.keep (Fr.grew G2)
        have HX4 : Hid (Ref (fun j => w.heap.size ≤ j ∧ (Value.slice (some ⟨g, 0, none⟩) (hs.length + 1) cap2).ownBlock ≠ some j ∧ u11.ownBlock ≠ some j) ((w6.alloc (.cells #[u'.c0, u'.c1, u'.c2, u'.c3, u'.c4] 30)).alloc (.cells #[u'.c0, u'.c1, u'.c2, u'.c3, u'.c4] 30)) (k + 1) y u'.v) := HX.out.grew G2
        have HF4 : Hid (Fr (· ≠ br) w ((w6.alloc (.cells #[u'.c0, u'.c1, u'.c2, u'.c3, u'.c4] 30)).alloc (.cells #[u'.c0, u'.c1, u'.c2, u'.c3, u'.c4] 30))) := HF7.out.trans (Fr.grew G2)
        have HR4 : Hid (RR ((w6.alloc (.cells #[u'.c0, u'.c1, u'.c2, u'.c3, u'.c4] 30)).alloc (.cells #[u'.c0, u'.c1, u'.c2, u'.c3, u'.c4] 30)) br t s5) := HR7.out.fr (G2.below.block br (block_lt HR7.out))
        clear G2 HW7 HX HF7 HR7
        have HON : Hid (∀ q ∈ [u'.c0, u'.c1, u'.c2, u'.c3, u'.c4], Value.oneCell' q = true) := ones5 u'
        go_wp2_with (at_builtin; refine wpList_append_lies _ rfl (.tmp 63) (.tmp 65) 28 rfl w.heap.size 30 i0 nilV5 5 80 Tryz.underlying28 hi0 hz0 hz1 hz2 rfl (by decide) u11 us.length (flat5 us) rfl HW4'.out.o2 ⟨w6.heap.size + 1, 0, none⟩ 1 1 [u'.c0, u'.c1, u'.c2, u'.c3, u'.c4] rfl rfl (World.news_of_block HXN.out) HON.out (by decide) ?q3 ?q4 ?q5 (w6.heap.size + 2) ?q6 ?_)
        case q3 => unfold maxLen; omega
        case q4 => omega
        case q5 => simp; omega
        case q6 => simp
        intro g' cap3 w8 ho hg hat hlt4
        have hfw : Fr (fun j => j < ((w6.alloc (.cells #[u'.c0, u'.c1, u'.c2, u'.c3, u'.c4] 30)).alloc (.cells #[u'.c0, u'.c1, u'.c2, u'.c3, u'.c4] 30)).heap.size ∧ u11.ownBlock ≠ some j) ((w6.alloc (.cells #[u'.c0, u'.c1, u'.c2, u'.c3, u'.c4] 30)).alloc (.cells #[u'.c0, u'.c1, u'.c2, u'.c3, u'.c4] 30)) w8 := (Fr.refl _ _).grownBy hg (fun k' _ e hp => hp.2 e)
        have HW5 : Hid (Rows2 w.heap.size w8 (k + 1) (.slice (some ⟨g, 0, none⟩) (hs.length + 1) cap2) (.slice (some ⟨g', 0, none⟩) (us.length + 1) cap3) (hs ++ [u]) (us ++ [u']) (ks.map Prod.fst ++ [x]) (ks.map Prod.snd ++ [y])) := HW4'.out.put2 (Own5.of (by rw [← flat5_one]; exact ho)).1 (by simp) hfw (hat.imp id (fun e => by simp; omega)) HX4.out HMX.out
        have hzr := block_lt HR4.out
        have HR5 : Hid (RR w8 br t s5) := HR4.out.fr (hfw.block br hzr ⟨hzr, fun e => by have := (own5_low HW4'.out.o2 e).1; omega⟩)
        have HF5 : Hid (Fr (· ≠ br) w w8) := ⟨hfw.os.trans HF4.out.os, hfw.tape.trans HF4.out.tape, hfw.output.trans HF4.out.output, Nat.le_trans HF4.out.size hfw.size, fun i hi hp => (hfw.block i (Nat.lt_of_lt_of_le hi HF4.out.size) ⟨Nat.lt_of_lt_of_le hi HF4.out.size, fun e => by have := (own5_low HW4'.out.o2 e).1; omega⟩).trans (HF4.out.block i hi hp)⟩
        have HW5 : Hid (Rows2 w.heap.size w8 (k + 1) (.slice (some ⟨g, 0, none⟩) (hs.length + 1) cap2) (.slice (some ⟨g', 0, none⟩) (us.length + 1) cap3) (hs ++ [u]) (us ++ [u']) ((ks ++ [(x, y)]).map Prod.fst) ((ks ++ [(x, y)]).map Prod.snd)) := by
          have := HW5.out
          rw [List.map_append, List.map_append]
          exact this
        clear ho hg hat hlt4 hfw hzr HW4' HX4 HF4 HR4 HXN HON st0 st1 st2 st3 st4 HMX
        go_wp2_with fail
        refine (HSG.out w8 s5 ⟨#[44]⟩ HR5.out hs5 (by decide)).mono ?_
        rintro e' w5' ⟨rfl, hr6, hf6⟩
        have e44 : (⟨#[44]⟩ : ByteArray).data.toList = [44] := rfl
        rw [e44] at hr6 ⊢
        clear e44
        have sa := sign_at t.data.toList [44] s5 (by rw [hlt]; exact hs5)
        have sd : (signS t.data.toList [44] s5).deep = z := HSD.out.1
        have sw := want_at t.data.toList m.data.toList _ sa.2
        have HW6 : Hid (Rows2 w.heap.size w5' (k + 1) (.slice (some ⟨g, 0, none⟩) (hs.length + 1) cap2) (.slice (some ⟨g', 0, none⟩) (us.length + 1) cap3) (hs ++ [u]) (us ++ [u']) ((ks ++ [(x, y)]).map Prod.fst) ((ks ++ [(x, y)]).map Prod.snd)) := HW5.out.keep (hf6.mono (fun j hj => by omega))
        have HF6 : Hid (Fr (· ≠ br) w w5') := HF5.out.trans hf6
        have hsa : (signS t.data.toList [44] s5).at' ≤ t.size := by rw [← hlt]; exact sa.2
        have HSA : Hid (at' ≤ (signS t.data.toList [44] s5).at' ∧ (signS t.data.toList [44] s5).deep = z ∧ (signS t.data.toList [44] s5).at' ≤ (wantS t.data.toList m.data.toList (signS t.data.toList [44] s5)).at' ∧ (wantS t.data.toList m.data.toList (signS t.data.toList [44] s5)).deep = (signS t.data.toList [44] s5).deep) := ⟨Nat.le_trans HSD.out.2 sa.1, sd, sw.1, sw.2.2⟩
        clear sa sd sw HW5 HF5 hf6 HR5 HSD
        generalize signS t.data.toList [44] s5 = s6 at hr6 HRD HSA hsa
        generalize signB t.data.toList [44] s5 = b4 at HRD ⊢
        have HR6 : Hid (RR w5' br t s6) := hr6
        clear hr6
        cases b4 with
        | true =>
          have HL7 := HRD.out.1 rfl
          have HL : Hid (LoopA t.data.toList m.data.toList (pairP t.data.toList (valueP t.data.toList k)) R (gk - 1) (ks ++ [(x, y)]) false s6 ∧ s6.deep = z ∧ at' ≤ s6.at') := ⟨HL7.1, HSA.out.2.1, HSA.out.1⟩
          clear HL7 HRD
          go_wp2_with fail
          go_roundg (gk - 1)
          case measure => omega
          case rel => exact ⟨s6, ks ++ [(x, y)], hs ++ [u], us ++ [u'], false, rfl, HL, HW6, HR6, HF6⟩
        | false =>
          have HL7 := HRD.out.2 rfl
          have HL8 : Hid (∀ f', _) := HL7
          clear HL7 HRD
          go_wp2_with fail
          refine (HWA.out w5' s6 m HR6.out hsa (by omega)).mono ?_
          rintro e' w7 ⟨rfl, hr7, hf7⟩
          have HR7 : Hid (RR w7 br t (wantS t.data.toList m.data.toList s6)) := hr7
          have HF7 : Hid (Fr (· ≠ br) w w7) := HF6.out.trans hf7
          have HW7 : Hid (Rows2 w.heap.size w7 (k + 1) (.slice (some ⟨g, 0, none⟩) (hs.length + 1) cap2) (.slice (some ⟨g', 0, none⟩) (us.length + 1) cap3) (hs ++ [u]) (us ++ [u']) ((ks ++ [(x, y)]).map Prod.fst) ((ks ++ [(x, y)]).map Prod.snd)) := HW6.out.keep (hf7.mono (fun j hj => by omega))
          clear hr7 hf7 HR6 HF6 HW6
          go_wp2_with fail
          go_roundg (gk - 1)
          case measure => omega
          case rel => exact ⟨_, ks ++ [(x, y)], hs ++ [u], us ++ [u'], true, rfl, ⟨HL8.out _, HSA.out.2.2.2.trans HSA.out.2.1, Nat.le_trans HSA.out.1 HSA.out.2.2.1⟩, HW7, HR7, HF7⟩
    · have HE := HEND.out (.inl he2)
      have hne : ((e2 : Int) == 0) = false := by simp; omega
      clear HEND
      go_wp2_with fail
      rw [HW4.out]; exact HE
end Go.Proofs.YtbogejmmkohbkaaGreatDoor.Sx
