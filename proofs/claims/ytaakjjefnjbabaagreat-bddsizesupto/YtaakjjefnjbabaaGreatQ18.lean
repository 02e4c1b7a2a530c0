/- Nodes of diagrams: a visit. -/
import Derived.Test.YtaakjjefnjbabaaGreatQ17
import Derived.Shelf.SlicesE.Clone
import Derived.Ground.SlgnProg
import Derived.Shelf.SortM.Plain
import Derived.Shelf.SortM.SortNone
import Derived.Ground.SlgmProg
set_option maxRecDepth 100000
namespace Go.Proofs.YtaakjjefnjbabaaGreat.Sx
open Go.RowKit Go.Sort Go.Maps Go.WideMaps
theorem nodup_snoc {l : List Nat} {a : Nat} (h : l.Nodup) (ha : a ∉ l) : (l ++ [a]).Nodup := by
 rw [List.nodup_append]
 refine ⟨h, by simp, fun x hx b hb e => ?_⟩
 rw [List.mem_singleton.1 hb] at e
 subst e; exact ha hx
structure VSt (T : Tb) (sn ls : List Nat) : Prop where
 nd : sn.Nodup
 lnd : ls.Nodup
 sub : ∀ x ∈ ls, x ∈ sn
 lt : ∀ x ∈ sn, x < T.rows.length
 z : 0 ∈ sn
 o : 1 ∈ sn
theorem VSt.len {T : Tb} {sn ls : List Nat} (h : VSt T sn ls) : ls.length ≤ T.rows.length := nodup_len _ _ h.lnd fun x hx => h.lt x (h.sub x hx)
theorem VSt.see {T : Tb} {sn ls : List Nat} {f : Nat} (h : VSt T sn ls) (hf : f ∉ sn) (hl : f < T.rows.length) : VSt T (sn ++ [f]) ls :=
 ⟨nodup_snoc h.nd hf, h.lnd, fun x hx => List.mem_append.2 (.inl (h.sub x hx)), fun x hx => by
   rcases List.mem_append.1 hx with hx | hx
   · exact h.lt x hx
   · rw [List.mem_singleton.1 hx]; exact hl, List.mem_append.2 (.inl h.z), List.mem_append.2 (.inl h.o)⟩
theorem VSt.vis {lv : Nat → Nat} {T : Tb} {f : Nat} {sn ls sn' ls' d : List Nat} (h : VSt T sn ls) (v : VisP lv T f sn ls sn' ls' d) : VSt T sn' ls' := by
 refine ⟨v.nd, ?_, fun x hx => ?_, fun x hx => ?_, (v.mem 0).2 (.inl h.z), (v.mem 1).2 (.inl h.o)⟩
 · rw [v.eq, List.nodup_append]
   refine ⟨h.lnd, v.dnd, fun a ha b hb e => ?_⟩
   subst e; exact (v.new a hb).1 (h.sub a ha)
 · rw [v.eq] at hx
   rcases List.mem_append.1 hx with q | q
   · exact (v.mem x).2 (.inl (h.sub x q))
   · exact (v.mem x).2 (.inr q)
 · rcases (v.mem x).1 hx with q | q
   · exact h.lt x q
   · exact (v.new x q).2.2.1.lt
def VisPost (w0 : World) (tb : Nat) (L : Ly) (T : Tb) (lv : Nat → Nat) (lo3 bs bv bt bl mm : Nat) (f : Nat) (sn ls : List Nat) (e : Ending) (w' : World) : Prop := ∃ (sl' : Value) (sn' ls' d : List Nat), e = .returned (.tuple #[]) ∧ VE w0 tb L T lo3 bs bv bt bl mm w' sn' ls' sl' ∧ VisP lv T f sn ls sn' ls' d
def VisOK (w0 : World) (tb : Nat) (L : Ly) (T : Tb) (n : Nat) (lv : Nat → Nat) (lo3 bs bv bt bl mm m : Nat) : Prop := ∀ (W : World) (sl : Value) (sn ls : List Nat) (f : Nat), VE w0 tb L T lo3 bs bv bt bl mm W sn ls sl → VSt T sn ls → Live T f → n ≤ rk lv T f + m → Seen lv T f sn ls →
 Calls Tryz.prog 86 #[.int .i64 (f : Int), .pointer (some ⟨bs, 0, none⟩), .pointer (some ⟨bv, 0, none⟩), .pointer (some ⟨bt, 0, none⟩), .pointer (some ⟨bl, 0, none⟩)] W (VisPost w0 tb L T lv lo3 bs bv bt bl mm f sn ls)
section
variable {w0 : World} {tb : Nat} {L : Ly} {T : Tb} {n : Nat} {lv : Nat → Nat} {lo3 bs bv bt bl mm m : Nat}
set_option maxHeartbeats 1000000 in
theorem vis_hit {w : World} {sl : Value} {sn ls : List Nat} {f : Nat} (h : VE w0 tb L T lo3 bs bv bt bl mm w sn ls sl) (hs : VSt T sn ls) (hsm : Sm f) (hv : Seen lv T f sn ls) (hf : f ∈ sn) :
 Calls Tryz.prog 86 #[.int .i64 (f : Int), .pointer (some ⟨bs, 0, none⟩), .pointer (some ⟨bv, 0, none⟩), .pointer (some ⟨bt, 0, none⟩), .pointer (some ⟨bl, 0, none⟩)] w (VisPost w0 tb L T lv lo3 bs bv bt bl mm f sn ls) := by
 have mo := follows
 have HE : Hid (VE w0 tb L T lo3 bs bv bt bl mm w sn ls sl) := h
 have HV : Hid (VisP lv T f sn ls sn ls []) := VisP.hit hs.nd hv hf
 have m0 := block_cell h.s 0
 obtain ⟨k1, k2⟩ := seenL_hit hf
 have l1 := h.map.hit lawN Tryz.underlying111 (keyN hsm.fits) k1 k2 true
 rw [if_pos rfl] at l1
 clear h hs hv hf k1 k2
 go_enter Tryz.func86, Tryz.ntmps86
 go_wp2_with fail
 exact bodyPost_ret (v := .tuple #[]) (by simp [results, Tryz.results86]) rfl ⟨sl, sn, ls, [], rfl, HE.out.grew ((Fr.refl _ w).alloc _), HV.out⟩
set_option maxHeartbeats 4000000 in
theorem vis_miss (h0 : Tbl n lv z0 T) (hrl : T.rows.length ≤ 274877906944) (hI : VisOK w0 tb L T n lv lo3 bs bv bt bl mm m) {w : World} {sl : Value} {sn ls : List Nat} {f : Nat} (h : VE w0 tb L T lo3 bs bv bt bl mm w sn ls sl) (hs : VSt T sn ls) (hf : Live T f) (hk : n ≤ rk lv T f + (m + 1)) (hv : Seen lv T f sn ls) (hx : f ∉ sn) :
 Calls Tryz.prog 86 #[.int .i64 (f : Int), .pointer (some ⟨bs, 0, none⟩), .pointer (some ⟨bv, 0, none⟩), .pointer (some ⟨bt, 0, none⟩), .pointer (some ⟨bl, 0, none⟩)] w (VisPost w0 tb L T lv lo3 bs bv bt bl mm f sn ls) := by
 have mo := follows
 have h2 : 2 ≤ f := by
  by_cases e0 : f = 0
  · subst e0; exact absurd hs.z hx
  by_cases e1 : f = 1
  · subst e1; exact absurd hs.o hx
  omega
 have hlt := hf.lt
 have hsm : Sm f := by unfold Sm; omega
 obtain ⟨r, hr, hd⟩ := hf
 obtain ⟨_, _, _, a4, a5, a6, a7⟩ := h0.inv.nd f r h2 hr hd
 have ha := h.grew ((Fr.refl _ w).alloc (.cells #[] 110))
 have fA : Fr (fun _ => True) w (w.alloc (.cells #[] 110)) := (Fr.refl _ w).alloc _
 obtain ⟨W1, p1, M1, f1, -⟩ := ha.map.put lawN Tryz.underlying111 (keyN hsm.fits) (seenL_ne hx) (.agg #[])
 have h1 := ha.put (sn' := sn ++ [f]) f1 (by rw [seenL_push]; exact M1)
 have HE : Hid (VE w0 tb L T lo3 bs bv bt bl mm W1 (sn ++ [f]) ls sl) := h1
 have m0 := block_cell h.s 0
 have m0a := block_cell ha.s 0
 have l1 := h.map.miss lawN Tryz.underlying111 (zeroS w) (keyN hsm.fits) (seenL_ne hx) true
 rw [if_pos rfl] at l1
 obtain ⟨g, cap, G⟩ := h1.at'.rowsG hr
 obtain ⟨RL, hRL⟩ : ∃ RL, T.rows.length = RL := ⟨_, rfl⟩
 have HST := hs.see hx hlt
 have HSL := hv.low h0 h2 hr hd
 have HR1 : Hid (∀ W, VE w0 tb L T lo3 bs bv bt bl mm W (sn ++ [f]) ls sl → Calls _ _ _ _ _) := fun W hW => hI W sl (sn ++ [f]) ls r.low hW HST a4 (by omega) HSL
 have HR2 : Hid (∀ (W : World) (sl2 : Value) (s1 l1 d1 : List Nat), VE w0 tb L T lo3 bs bv bt bl mm W s1 l1 sl2 → VisP lv T r.low (sn ++ [f]) ls s1 l1 d1 → Calls _ _ _ _ _) := fun W sl2 s1 l1 d1 hW hV => hI W sl2 s1 l1 r.high hW (HST.vis hV) a5 (by omega) (hv.high h0 h2 hr hd hV)
 have HEND : Hid (∀ (s1 l1 d1 s2 l2 d2 : List Nat), VisP lv T r.low (sn ++ [f]) ls s1 l1 d1 → VisP lv T r.high s1 l1 s2 l2 d2 → VisP lv T f sn ls s2 (l2 ++ [f]) (d1 ++ d2 ++ [f]) ∧ l2.length ≤ 274877906944) := fun s1 l1 d1 s2 l2 d2 hV hU => ⟨VisP.main h0 h2 hr hd hx hV hU, Nat.le_trans ((HST.vis hV).vis hU).len hrl⟩
 have HC : Hid (∀ W LL kk sl, VE w0 tb L T lo3 bs bv bt bl mm W LL kk sl → W.cell? ⟨bv, 0, none⟩ = some (.func (.func 86) #[] #[.pointer (some ⟨bs, 0, none⟩), .pointer (some ⟨bv, 0, none⟩), .pointer (some ⟨bt, 0, none⟩), .pointer (some ⟨bl, 0, none⟩)]) ∧ W.cell? ⟨bt, 0, none⟩ = some (.pointer (some ⟨tb, 0, none⟩)) ∧ W.cell? ⟨tb, 2, none⟩ = some (.slice (some ⟨g, 0, none⟩) RL cap) ∧ W.cell? ⟨g, f * 5 + 1, none⟩ = some (.int .i64 (r.low : Int)) ∧ W.cell? ⟨g, f * 5 + 2, none⟩ = some (.int .i64 (r.high : Int))) := fun W LL kk sl q => by
  have hX := q.at'
  have hG := G.next hX hr
  exact ⟨block_cell q.v 0, block_cell q.t 0, by rw [← hRL]; exact hX.b2 hG, hG.c1 hr, hG.c2 hr⟩
 obtain ⟨rl, hrlo⟩ : ∃ rl, r.low = rl := ⟨_, rfl⟩
 obtain ⟨rh, hrhi⟩ : ∃ rh, r.high = rh := ⟨_, rfl⟩
 rw [hrlo, hrhi] at HC HEND
 rw [hrlo] at HR1 HR2
 rw [hrhi] at HR2
 obtain ⟨t0, v0, b2, c1, -⟩ := HC.out _ _ _ _ h1
 have hfl : (f : Int) < (RL : Int) := by omega
 have hf0 : (0 : Int) ≤ (f : Int) := by omega
 clear h h1 ha M1 f1 fA hs hk hv hx hr hd a4 a5 a6 a7 G HST HSL hI h0 hrl hlt hRL hrlo hrhi h2 hsm
 go_enter Tryz.func86, Tryz.ntmps86
 go_wp2_with fail
 clear m0 m0a l1 p1 t0 v0 b2 c1
 have ED := HE.out.grew (Fr.refl _ _).drew
 obtain ⟨x0, x1, x2, x3, -⟩ := HC.out _ _ _ _ HE.out
 obtain ⟨y0, y1, y2, y3, -⟩ := HC.out _ _ _ _ ED
 have HR : Hid (Calls _ _ _ _ _) := HR1.out _ ED
 clear ED
 go_region_held3 (fun w' => w'.cell? ⟨bv, 0, none⟩ = some (.func (.func 86) #[] #[.pointer (some ⟨bs, 0, none⟩), .pointer (some ⟨bv, 0, none⟩), .pointer (some ⟨bt, 0, none⟩), .pointer (some ⟨bl, 0, none⟩)]) ∧ w'.cell? ⟨bt, 0, none⟩ = some (.pointer (some ⟨tb, 0, none⟩)) ∧ w'.cell? ⟨tb, 2, none⟩ = some (.slice (some ⟨g, 0, none⟩) RL cap) ∧ w'.cell? ⟨g, f * 5 + 1, none⟩ = some (.int .i64 (rl : Int))) (first | (refine ⟨?_, ?_, ?_, ?_⟩ <;> assumption) | go_keep)
  ((go_at_call 86; refine HR.out.mono ?_; rintro e W2 ⟨sl2, s1, l1, d1, rfl, hE2, hV1⟩; have E2 : Hid (VE w0 tb L T lo3 bs bv bt bl mm W2 s1 l1 sl2) := hE2; have V1 : Hid (VisP lv T rl (sn ++ [f]) ls s1 l1 d1) := hV1; obtain ⟨z0, z1, z2, z3, -⟩ := HC.out _ _ _ _ hE2; clear hE2 hV1))
 clear x0 x1 x2 x3 y0 y1 y2 y3 z0 z1 z2 z3 HR HR1 HE
 go_wp2_with fail
 have ED := E2.out.grew (Fr.refl _ _).drew
 obtain ⟨x0, x1, x2, -, x3⟩ := HC.out _ _ _ _ E2.out
 obtain ⟨y0, y1, y2, -, y3⟩ := HC.out _ _ _ _ ED
 have HR : Hid (Calls _ _ _ _ _) := HR2.out _ _ _ _ _ ED V1.out
 clear ED
 go_region_held3 (fun w' => w'.cell? ⟨bv, 0, none⟩ = some (.func (.func 86) #[] #[.pointer (some ⟨bs, 0, none⟩), .pointer (some ⟨bv, 0, none⟩), .pointer (some ⟨bt, 0, none⟩), .pointer (some ⟨bl, 0, none⟩)]) ∧ w'.cell? ⟨bt, 0, none⟩ = some (.pointer (some ⟨tb, 0, none⟩)) ∧ w'.cell? ⟨tb, 2, none⟩ = some (.slice (some ⟨g, 0, none⟩) RL cap) ∧ w'.cell? ⟨g, f * 5 + 2, none⟩ = some (.int .i64 (rh : Int))) (first | (refine ⟨?_, ?_, ?_, ?_⟩ <;> assumption) | go_keep)
  ((go_at_call 86; refine HR.out.mono ?_; rintro e W3 ⟨sl3, s2, l2, d2, rfl, hE3, hV2⟩; have E3 : Hid (VE w0 tb L T lo3 bs bv bt bl mm W3 s2 l2 sl3) := hE3; have V2 : Hid (VisP lv T rh s1 l1 s2 l2 d2) := hV2; obtain ⟨z0, z1, z2, -, z3⟩ := HC.out _ _ _ _ hE3; clear hE3 hV2))
 clear x0 x1 x2 x3 y0 y1 y2 y3 z0 z1 z2 z3 HC HR HR2 E2
 obtain ⟨hend, hlen⟩ := HEND.out _ _ _ _ _ _ V1.out V2.out
 have HD : Hid (VisP lv T f sn ls s2 (l2 ++ [f]) (d1 ++ d2 ++ [f])) := hend
 clear hend HEND V1 V2
 have hxs := E3.out.own
 obtain ⟨kl, hkl⟩ : ∃ kl, l2.length = kl := ⟨_, rfl⟩
 obtain ⟨la, lc, hls⟩ : ∃ la lc, sl3 = .slice la kl lc := by
  rcases hxs.2 with ⟨e, hn⟩ | ⟨g', cap', cur, e, _⟩
  · exact ⟨none, 0, by rw [e, ← hkl, hn]⟩
  · exact ⟨_, _, by rw [e, hkl]⟩
 subst hls
 obtain ⟨i0, hi0, hz0, hz1, hz2⟩ := infoNode
 have hbs := E3.out.h9
 rw [hkl] at hxs hlen
 have HOA : Hid ((W3.alloc (.cells #[.int .i64 (f : Int)] 32)).ownsRow lo3 32 1 (.slice la kl lc) kl (i64C l2)) := hxs.alloc _
 have c0 := block_cell E3.out.l 0
 have HKL : Hid (l2.length = kl) := hkl
 clear hxs hkl
 go_wp2_with (at_builtin; refine wpList_append_lies _ rfl _ _ 35 rfl lo3 32 i0 _ 1 8 Tryz.underlying35 hi0 hz0 hz1 hz2 rfl (by decide) (.slice la kl lc) _ _ rfl HOA.out ⟨W3.heap.size, 0, none⟩ 1 1 [.int .i64 (f : Int)] rfl rfl ?q1 ?q2 (by decide) ?q3 ?q4 ?q5 (W3.heap.size + 1) ?q6 ?_)
 case q1 => exact World.news_of_block (heap_new rfl)
 case q2 =>
  intro u hu
  simp only [List.mem_cons, List.not_mem_nil, or_false] at hu
  rcases hu with rfl; rfl
 case q3 => unfold maxLen; omega
 case q4 => omega
 case q5 => simp; omega
 case q6 => simp
 intro g' cap' w1 ho hg hat hlt
 have e3 := E3.out
 obtain ⟨n1, n2⟩ := e3.push ((Fr.refl _ W3).alloc _) (by rw [HKL.out]; exact ho) hg
 rw [HKL.out] at n2
 have X4 : Hid (VE w0 tb L T lo3 bs bv bt bl mm _ s2 (l2 ++ [f]) _) := n2
 have q0 := block_cell n1 0
 have q1 := frozen_block n1 0
 clear n1 n2 ho hg hat hlt HOA c0 E3 e3 HKL
 go_wp2_with fail
 exact bodyPost_ret (v := .tuple #[]) (by simp [results, Tryz.results86]) rfl ⟨_, _, _, _, rfl, X4.out, HD.out⟩
theorem vis_ok (h0 : Tbl n lv z0 T) (hrl : T.rows.length ≤ 274877906944) : ∀ m, VisOK w0 tb L T n lv lo3 bs bv bt bl mm m := by
 intro m
 induction m with
 | zero =>
   intro W sl sn ls f h hs hf hk hv
   have hfe : rk lv T f = n := by have := h0.rle f hf; omega
   have hfs : Sm f := by have := hf.lt; unfold Sm; omega
   have hm : f ∈ sn := by
    rcases h0.last hf hfe with rfl | rfl
    · exact hs.z
    · exact hs.o
   exact vis_hit h hs hfs hv hm
 | succ m ih =>
   intro W sl sn ls f h hs hf hk hv
   have hfs : Sm f := by have := hf.lt; unfold Sm; omega
   by_cases hx : f ∈ sn
   · exact vis_hit h hs hfs hv hx
   · exact vis_miss h0 hrl ih h hs hf hk hv hx
end
end Go.Proofs.YtaakjjefnjbabaaGreat.Sx
namespace Go.Proofs.YtaakjjefnjbabaaGreat.Sx
open Go.RowKit Go.Sort Go.Maps Go.WideMaps
structure DiaP (T : Tb) (fs ls : List Nat) : Prop where
 nd : ls.Nodup
 new : ∀ x ∈ ls, 2 ≤ x ∧ Live T x ∧ ∃ f ∈ fs, Rch T f x
 clo : ∀ (pre post : List Nat) (x : Nat) (r : Rw), ls = pre ++ x :: post → T.rows[x]? = some r → (r.low < 2 ∨ r.low ∈ pre) ∧ (r.high < 2 ∨ r.high ∈ pre)
 has : ∀ f ∈ fs, f < 2 ∨ f ∈ ls
theorem DiaP.nil (T : Tb) : DiaP T [] [] := ⟨List.nodup_nil, by simp, fun pre post x r h => by simp at h, by simp⟩
theorem DiaP.step {lv : Nat → Nat} {T : Tb} {fs ls sn sn' ls' d : List Nat} {f : Nat} (h : DiaP T fs ls) (hs : VSt T sn ls) (hv : VisP lv T f sn ls sn' ls' d) : DiaP T (fs ++ [f]) ls' := by
 refine ⟨(hs.vis hv).lnd, fun x hx => ?_, fun pre post x r e hr => ?_, fun g hg => ?_⟩
 · rw [hv.eq] at hx
   rcases List.mem_append.1 hx with hx | hx
   · obtain ⟨a, b, g, hg, hc⟩ := h.new x hx
     exact ⟨a, b, g, List.mem_append.2 (.inl hg), hc⟩
   · obtain ⟨_, a, b, _, hc⟩ := hv.new x hx
     exact ⟨a, b, f, by simp, hc⟩
 · rw [hv.eq] at e
   rcases List.append_eq_append_iff.1 e with ⟨t, e1, e2⟩ | ⟨t, e1, e2⟩
   · obtain ⟨c1, c2⟩ := hv.clo t post x r e2 hr
     have key : ∀ y, Thr ls t y → y < 2 ∨ y ∈ pre := fun y hy => by
      rw [e1]
      rcases hy with q | q | q
      · exact .inl q
      · exact .inr (List.mem_append.2 (.inl q))
      · exact .inr (List.mem_append.2 (.inr q))
     exact ⟨key _ c1, key _ c2⟩
   · cases t with
     | nil =>
       simp at e2 e1
       obtain ⟨c1, c2⟩ := hv.clo [] post x r (by simp [e2]) hr
       have key : ∀ y, Thr ls [] y → y < 2 ∨ y ∈ pre := fun y hy => by
        rw [← e1]
        rcases hy with q | q | q
        · exact .inl q
        · exact .inr q
        · simp at q
       exact ⟨key _ c1, key _ c2⟩
     | cons a t =>
       simp only [List.cons_append, List.cons.injEq] at e2
       obtain ⟨rfl, e2⟩ := e2
       exact h.clo pre t x r e1 hr
 · rw [hv.eq]
   rcases List.mem_append.1 hg with hg | hg
   · exact (h.has g hg).imp id fun q => List.mem_append.2 (.inl q)
   · rw [List.mem_singleton.1 hg]
     rcases hv.has with q | q | q
     · exact .inl q
     · exact .inr (List.mem_append.2 (.inl q))
     · exact .inr (List.mem_append.2 (.inr q))
def Top (sn ls : List Nat) : Prop := ∀ x ∈ sn, x < 2 ∨ x ∈ ls
theorem Top.seen {lv : Nat → Nat} {T : Tb} {f : Nat} {sn ls : List Nat} (h : Top sn ls) : Seen lv T f sn ls := fun x hx => (h x hx).imp id .inl
theorem Top.step {lv : Nat → Nat} {T : Tb} {f : Nat} {sn ls sn' ls' d : List Nat} (h : Top sn ls) (hv : VisP lv T f sn ls sn' ls' d) : Top sn' ls' := fun x hx => by
 rw [hv.eq]
 rcases (hv.mem x).1 hx with q | q
 · exact (h x q).imp id fun q => List.mem_append.2 (.inl q)
 · exact .inr (List.mem_append.2 (.inr q))
def nodesI (fs : List Nat) : List Int := fs.map fun x : Nat => (x : Int)
section
variable {tb : Nat} {L : Ly} {T : Tb} {n : Nat} {lv : Nat → Nat} {M A : Nat}
set_option maxHeartbeats 4000000 in
theorem diagram_any {w : World} (h : TAt w tb L T) (hm : Mid n lv M A T) (fs : List Nat) (hfs : ∀ f ∈ fs, Live T f) (hfl : fs.length ≤ 1099511627776) (p : Option Addr) (c : Nat) (hv : IntsV w p (nodesI fs)) :
 Calls Tryz.prog 57 #[.pointer (some ⟨tb, 0, none⟩), .slice p fs.length c] w fun e w' => ∃ (sl : Value) (ls : List Nat), e = .returned sl ∧ (w'.ownsRow w.heap.size 32 1 sl ls.length (i64C ls)) ∧ DiaP T fs ls ∧ Fr (fun _ => True) w w' := by
 have mo := follows
 have hrl : T.rows.length ≤ 274877906944 := Nat.le_trans hm.rl hm.rm
 obtain ⟨W0, hW0⟩ : ∃ W0, ((w.alloc (.cells #[.pointer (some ⟨tb, 0, none⟩)] 36)).alloc (.cells #[.slice none 0 0] 35)) = W0 := ⟨_, rfl⟩
 have fW : Fr (fun _ => True) w W0 := by rw [← hW0]; exact ((Fr.refl _ w).alloc _).alloc _
 have t0 : W0.heap[w.heap.size]? = some (.cells #[.pointer (some ⟨tb, 0, none⟩)] 36 (0, 0)) := by
  rw [← hW0]; exact (((Fr.refl (fun _ => True) _).alloc _).block _ (by simp) trivial).trans (heap_new rfl)
 have j0 : W0.heap[w.heap.size + 1]? = some (.cells #[.slice none 0 0] 35 (0, 0)) := by
  rw [← hW0]; exact heap_new (by simp)
 have m1 : (Instr.makeMap 111 none).run Tryz.prog W0 = .ok (.map (some W0.heap.size)) (W0.alloc (.map #[] 0)) := run_makeMap _ _
 have hz : W0.heap.size = w.heap.size + 2 := by rw [← hW0]; simp
 rw [hz] at m1
 have M1 : MapIs 32 (W0.alloc (.map #[] 0)) (w.heap.size + 2) [] := hz ▸ MapIs.new 32 W0
 have s1 : Sm 0 := by unfold Sm; omega
 have s2 : Sm 1 := by unfold Sm; omega
 obtain ⟨W1, p1, M2, f1, z1⟩ := M1.put lawN Tryz.underlying111 (x := .int .i64 0) (keyN s1.fits) (by simp) (.agg #[])
 obtain ⟨W2, p2, M3, f2, z2⟩ := M2.put lawN Tryz.underlying111 (x := .int .i64 1) (keyN s2.fits) (by simp) (.agg #[])
 have f02 : Fr (· ≠ w.heap.size + 2) W0 W2 := ((Fr.refl _ W0).alloc _).trans (f1.trans f2)
 have hz2 : W2.heap.size = w.heap.size + 3 := by rw [z2, z1]; simp [hz]
 have t2 : W2.heap[w.heap.size]? = some (.cells #[.pointer (some ⟨tb, 0, none⟩)] 36 (0, 0)) := (f02.block _ (block_lt t0) (by omega)).trans t0
 have j2 : W2.heap[w.heap.size + 1]? = some (.cells #[.slice none 0 0] 35 (0, 0)) := (f02.block _ (block_lt j0) (by omega)).trans j0
 have F02 : Fr (· < w.heap.size) w W2 := by
  refine ⟨f02.os.trans fW.os, f02.tape.trans fW.tape, f02.output.trans fW.output, Nat.le_trans fW.size f02.size, fun x hk _ => ?_⟩
  exact (f02.block x (by omega) (by omega)).trans (fW.block x hk trivial)
 have HM3 : Hid (MapIs 32 W2 (w.heap.size + 2) (seenL [0, 1])) := M3
 have HT2 : Hid (_ = _) := t2
 have HJ2 : Hid (_ = _) := j2
 have HF02 : Hid (Fr (· < w.heap.size) w W2) := F02
 have HX : Hid (TAt w tb L T) := h
 have HST : Hid (VSt T [0, 1] [] ∧ Top [0, 1] []) := ⟨⟨by simp, List.nodup_nil, by simp, fun x hx => by
  rcases List.mem_cons.1 hx with rfl | hx
  · exact hm.t.inv.live0.lt
  · rw [List.mem_singleton.1 hx]; exact hm.t.inv.live1.lt, by simp, by simp⟩, fun x hx => by
  left
  rcases List.mem_cons.1 hx with rfl | hx
  · omega
  · rw [List.mem_singleton.1 hx]; omega⟩
 have HVIS : Hid (∀ (lo3 bs bv bt bl mm : Nat) (W : World) (sl : Value) (sn ls : List Nat) (f : Nat), VE w tb L T lo3 bs bv bt bl mm W sn ls sl → VSt T sn ls → Top sn ls → f ∈ fs → Calls _ _ _ _ _) := fun lo3 bs bv bt bl mm W sl sn ls f hE hS hT hf => vis_ok hm.t hrl n W sl sn ls f hE hS (hfs f hf) (by omega) (hT.seen (lv := lv) (T := T) (f := f))
 have HKN : Hid (∀ (W : World) (f : Nat), TAt W tb L T → f ∈ fs → Calls Tryz.prog 58 #[.pointer (some ⟨tb, 0, none⟩), .int .i64 (f : Int)] W fun e w' => e = .returned (.int .i64 (f : Int)) ∧ w' = W) := fun W f hW hf => by
  obtain ⟨r, hr, hd⟩ := hfs f hf
  exact known_any hW f r hr hd
 have HA : Hid (IntsV w p (nodesI fs)) := hv
 obtain ⟨an, han⟩ : ∃ an, fs.length = an := ⟨_, rfl⟩
 have HAN : Hid (fs.length = an) := han
 have hanl : an ≤ 1099511627776 := by rw [← han]; exact hfl
 rw [han]
 have st := fun (W : World) (m : Mode) => (show Sem.run Tryz.prog (store ⟨W2.heap.size + 1, 0, none⟩ (visV W2.heap.size (W2.heap.size + 1) w.heap.size (w.heap.size + 1)) m) W = stored Tryz.prog W ⟨W2.heap.size + 1, 0, none⟩ (visV W2.heap.size (W2.heap.size + 1) w.heap.size (w.heap.size + 1)) m from run_store _ W _ _ m rfl)
 unfold visV at st
 have HZ2 : Hid (W2.heap.size = w.heap.size + 3) := hz2
 have HHI : Hid (∀ b, w.heap.size ≤ b → L.own b = 0) := h.hi
 clear M1 M2 M3 f1 f2 t2 j2 fW f02 F02 t0 j0 h hm hfs hfl hv han s1 s2 z1 z2 hz2
 go_enter Tryz.func57, Tryz.ntmps57
 go_wp2_with fail
 clear m1 p1 p2 st
 obtain ⟨W4, hW4⟩ : ∃ W4, ((W2.alloc (.cells #[.map (some (w.heap.size + 2))] 111)).alloc (.cells #[.func (.func 86) #[] #[.pointer (some ⟨W2.heap.size, 0, none⟩), .pointer (some ⟨W2.heap.size + 1, 0, none⟩), .pointer (some ⟨w.heap.size, 0, none⟩), .pointer (some ⟨w.heap.size + 1, 0, none⟩)]] 92)) = W4 := ⟨_, rfl⟩
 have f24 : Fr (fun _ => True) W2 W4 := by rw [← hW4]; exact ((Fr.refl _ _).alloc _).alloc _
 have hz4 : W4.heap.size = W2.heap.size + 2 := by rw [← hW4]; simp
 have m4 : W4.heap[W2.heap.size]? = some (.cells #[.map (some (w.heap.size + 2))] 111 (0, 0)) := by
  rw [← hW4]; exact (((Fr.refl (fun _ => True) _).alloc _).block _ (by simp) trivial).trans (heap_new rfl)
 have o4 : W4.heap[W2.heap.size + 1]? = some (.cells #[visV W2.heap.size (W2.heap.size + 1) w.heap.size (w.heap.size + 1)] 92 (0, 0)) := by
  rw [← hW4]; exact heap_new (by simp)
 have hz2 := HZ2.out
 have hE : VE w tb L T W4.heap.size W2.heap.size (W2.heap.size + 1) w.heap.size (w.heap.size + 1) (w.heap.size + 2) W4 [0, 1] [] (.slice none 0 0) :=
  { t0 := HX.out, fr := HF02.out.trans (f24.mono fun _ _ => trivial), s := m4, v := o4, t := (f24.block _ (block_lt HT2.out) trivial).trans HT2.out, l := (f24.block _ (block_lt HJ2.out) trivial).trans HJ2.out, map := HM3.out.of (f24.block _ HM3.out.lt trivial), own := World.ownsRow_nil _ _ _ _,
    h1 := by omega, h2 := by omega, h3 := by omega, h4 := by omega, h5 := by omega, h9 := Nat.le_refl _, g4 := by omega, g5 := by omega, g6 := by omega }
 have HE : Hid (VE w tb L T W4.heap.size W2.heap.size (W2.heap.size + 1) w.heap.size (w.heap.size + 1) (w.heap.size + 2) W4 [0, 1] [] (.slice none 0 0)) := hE
 try rw [hW4]
 have hg6 : w.heap.size ≤ W4.heap.size := by omega
 clear hE m4 o4 f24 hW4 hW0 hz HF02 HJ2 HT2 HM3 hz2 hz4 HZ2
 generalize W4.heap.size = lo3 at HE hg6
 generalize W2.heap.size + 1 = bv at HE ⊢
 generalize W2.heap.size = bs at HE ⊢
 generalize w.heap.size + 2 = mm at HE ⊢
 generalize w.heap.size + 1 = bl at HE ⊢
 obtain ⟨bt, hbt⟩ : ∃ bt, w.heap.size = bt := ⟨_, rfl⟩
 rw [hbt] at HE hg6 ⊢
 go_loopg [17] an (fun k s17 wr => ∃ (j : Nat) (sl : Value) (sn ls : List Nat), s17 = .int .i64 (j : Int) ∧ j + k = an ∧ Hid (VE w tb L T lo3 bs bv bt bl mm wr sn ls sl) ∧ Hid (VSt T sn ls ∧ Top sn ls) ∧ Hid (DiaP T (fs.take j) ls))
 case atStart => exact ⟨0, _, _, _, rfl, by omega, HE, HST, by rw [List.take_zero]; exact DiaP.nil T⟩
 case round =>
  clear HE HST
  obtain ⟨j, sl, sn, ls, rfl, hjk, E, S, D⟩ := hrel
  by_cases hj : j < an
  · obtain ⟨k, rfl⟩ : ∃ k, gk = k + 1 := ⟨gk - 1, by omega⟩
    have hjl : (j : Int) < (an : Int) := by omega
    have hj0 : (0 : Int) ≤ (j : Int) := by omega
    have hjf : j < fs.length := by rw [HAN.out]; exact hj
    obtain ⟨f, hf⟩ : ∃ f, fs[j]? = some f := ⟨_, List.getElem?_eq_getElem hjf⟩
    have hmem : f ∈ fs := List.mem_of_getElem? hf
    have htake : fs.take (j + 1) = fs.take j ++ [f] := by
     rw [List.take_add_one, hf]; rfl
    have hV : IntsV wr p (nodesI fs) := ⟨fun i x hx => by
     obtain ⟨q, e, hc⟩ := HA.out.cell i x hx
     exact ⟨q, e, (World.cell?_of_block (w := w) (E.out.fr.block _ (World.block_lt_of_cell? w _ hc) (World.block_lt_of_cell? w _ hc))).trans hc⟩⟩
    obtain ⟨q, rfl, cj⟩ := hV.cell j (f : Int) (by unfold nodesI; rw [List.getElem?_map, hf]; rfl)
    have ED := E.out.grew (Fr.refl _ _).drew
    have x0 : wr.cell? ⟨bv, 0, none⟩ = some (.func (.func 86) #[] #[.pointer (some ⟨bs, 0, none⟩), .pointer (some ⟨bv, 0, none⟩), .pointer (some ⟨bt, 0, none⟩), .pointer (some ⟨bl, 0, none⟩)]) := block_cell E.out.v 0
    have x1 : wr.cell? ⟨bt, 0, none⟩ = some (.pointer (some ⟨tb, 0, none⟩)) := block_cell E.out.t 0
    have y0 : wr.drew.cell? ⟨bv, 0, none⟩ = some (.func (.func 86) #[] #[.pointer (some ⟨bs, 0, none⟩), .pointer (some ⟨bv, 0, none⟩), .pointer (some ⟨bt, 0, none⟩), .pointer (some ⟨bl, 0, none⟩)]) := block_cell ED.v 0
    have y1 : wr.drew.cell? ⟨bt, 0, none⟩ = some (.pointer (some ⟨tb, 0, none⟩)) := block_cell ED.t 0
    have HK : Hid (Calls _ _ _ _ _) := HKN.out wr.drew f ED.at' hmem
    have HR : Hid (Calls _ _ _ _ _) := HVIS.out _ _ _ _ _ _ _ _ _ _ f ED S.out.1 S.out.2 hmem
    have HNX : Hid (∀ sn' ls' d, VisP lv T f sn ls sn' ls' d → (VSt T sn' ls' ∧ Top sn' ls') ∧ DiaP T (fs.take (j + 1)) ls') := fun sn' ls' d hP => ⟨⟨S.out.1.vis hP, S.out.2.step hP⟩, by rw [htake]; exact D.out.step S.out.1 hP⟩
    clear ED hV hmem htake hf hjf E S D HVIS HKN
    go_wp2_with fail
    go_region_held3 (fun w' => w'.cell? ⟨bv, 0, none⟩ = some (.func (.func 86) #[] #[.pointer (some ⟨bs, 0, none⟩), .pointer (some ⟨bv, 0, none⟩), .pointer (some ⟨bt, 0, none⟩), .pointer (some ⟨bl, 0, none⟩)]) ∧ w'.cell? ⟨bt, 0, none⟩ = some (.pointer (some ⟨tb, 0, none⟩))) (first | (refine ⟨?_, ?_⟩ <;> assumption) | go_keep)
     ((first | (go_at_call 58; refine HK.out.mono ?_; rintro e w' ⟨rfl, hw⟩; replace hw := hw.symm; subst hw) | (go_at_call 86; refine HR.out.mono ?_; rintro e W5 ⟨sl5, sn5, ls5, d5, rfl, hE5, hV5⟩; have E5 : Hid (VE w tb L T lo3 bs bv bt bl mm W5 sn5 ls5 sl5) := hE5; have V5 : Hid (VisP lv T f sn ls sn5 ls5 d5) := hV5; have z0 : W5.cell? ⟨bv, 0, none⟩ = some (.func (.func 86) #[] #[.pointer (some ⟨bs, 0, none⟩), .pointer (some ⟨bv, 0, none⟩), .pointer (some ⟨bt, 0, none⟩), .pointer (some ⟨bl, 0, none⟩)]) := block_cell hE5.v 0; have z1 : W5.cell? ⟨bt, 0, none⟩ = some (.pointer (some ⟨tb, 0, none⟩)) := block_cell hE5.t 0; clear hE5 hV5)))
    obtain ⟨S6, D6⟩ := HNX.out _ _ _ V5.out
    have S7 : Hid (VSt T sn5 ls5 ∧ Top sn5 ls5) := S6
    have D7 : Hid (DiaP T (fs.take (j + 1)) ls5) := D6
    clear x0 x1 y0 y1 z0 z1 cj HK HR HNX S6 D6 V5
    go_wp2_with fail
    go_roundg k
    case measure => omega
    case rel => exact ⟨j + 1, _, _, _, by simp, by omega, E5, S7, D7⟩
  · have hjl : ¬ (j : Int) < (an : Int) := by omega
    have htake : fs.take j = fs := List.take_of_length_le (by rw [HAN.out]; omega)
    have D6 : Hid (DiaP T fs ls) := by have := D.out; rw [htake] at this; exact this
    have hxs := E.out.own
    obtain ⟨la, lc, hls⟩ : ∃ la lc, sl = .slice la ls.length lc := by
     rcases hxs.2 with ⟨e, hn⟩ | ⟨g', cap', cur, e, _⟩
     · exact ⟨none, 0, by rw [e, hn]⟩
     · exact ⟨_, _, e⟩
    obtain ⟨kl, hkl⟩ : ∃ kl, ls.length = kl := ⟨_, rfl⟩
    rw [hkl] at hls
    subst hls
    have c0 := block_cell E.out.l 0
    have O6 : Hid (wr.ownsRow bt 32 1 (.slice la kl lc) ls.length (i64C ls)) := by
     refine ⟨E.out.own.1, ?_⟩
     rcases E.out.own.2 with h' | ⟨g, cap, cur, e', hg, r⟩
     · exact .inl h'
     · exact .inr ⟨g, cap, cur, e', Nat.le_trans hg6 hg, r⟩
    have F6 : Hid (Fr (fun _ => True) w wr) := ⟨E.out.fr.os, E.out.fr.tape, E.out.fr.output, E.out.fr.size, fun q hq _ => E.out.fr.block q hq hq⟩
    clear hxs htake E S D HVIS HKN hkl
    go_wp2_with fail
    go_ret
    exact ⟨_, rfl, ls, O6.out, D6.out, F6.out⟩
end
end Go.Proofs.YtaakjjefnjbabaaGreat.Sx
namespace Go.Proofs.YtaakjjefnjbabaaGreat.Sx
open Go.RowKit Go.Sort Go.Maps Go.WideMaps
section
variable {w : World} {tb : Nat} {L : Ly} {T : Tb} {n : Nat} {lv : Nat → Nat} {M A : Nat}
set_option maxHeartbeats 1000000 in
theorem Size_any (h : TAt w tb L T) (hm : Mid n lv M A T) (fs : List Nat) (hfs : ∀ f ∈ fs, Live T f) (hfl : fs.length ≤ 1099511627776) (p : Option Addr) (c : Nat) (hv : IntsV w p (nodesI fs)) :
 Calls Tryz.prog 47 #[.pointer (some ⟨tb, 0, none⟩), .slice p fs.length c] w fun e w' => ∃ ls : List Nat, e = .returned (.int .i64 (ls.length : Int)) ∧ DiaP T fs ls ∧ Fr (fun _ => True) w w' := by
 have HD : Hid (Calls _ _ _ _ _) := diagram_any h hm fs hfs hfl p c hv
 obtain ⟨an, han⟩ : ∃ an, fs.length = an := ⟨_, rfl⟩
 rw [han] at HD ⊢
 have mo := follows
 clear h hm hfs hfl hv han
 go_enter Tryz.func47, Tryz.ntmps47
 go_wp2_with fail
 refine HD.out.mono ?_
 rintro e W1 ⟨sl, ls, rfl, hO, hD, hF⟩
 obtain ⟨kl, hkl⟩ : ∃ kl, ls.length = kl := ⟨_, rfl⟩
 obtain ⟨la, lc, hls⟩ : ∃ la lc, sl = .slice la kl lc := by
  rcases hO.2 with ⟨e, hn⟩ | ⟨g', cap', cur, e, _⟩
  · exact ⟨none, 0, by rw [e, ← hkl, hn]⟩
  · exact ⟨_, _, by rw [e, hkl]⟩
 subst hls
 have D1 : Hid (DiaP T fs ls) := hD
 have F1 : Hid (Fr (fun _ => True) w W1) := hF
 have K1 : Hid (ls.length = kl) := hkl
 clear hO hD hF hkl HD
 go_wp2_with fail
 go_ret
 exact ⟨ls, by rw [K1.out]; rfl, D1.out, F1.out⟩
set_option maxHeartbeats 1000000 in
theorem Nodes_any (h : TAt w tb L T) :
 Calls Tryz.prog 22 #[.pointer (some ⟨tb, 0, none⟩)] w fun e w' => e = .returned (.int .i64 (T.made.length : Int)) ∧ w' = w := by
 have b4 := h.b4
 have l1 := (h.md trivial).1.len Tryz.underlying77 3
 rw [show (madeL T.made).length = T.made.length from by simp [madeL]] at l1
 have mo := follows
 clear h
 go_enter Tryz.func22, Tryz.ntmps22
 go_wp2_with fail
 go_ret
 exact ⟨rfl, rfl⟩
end
end Go.Proofs.YtaakjjefnjbabaaGreat.Sx
namespace Go.Proofs
open Go.Shelf
def Tryz.cloneV_ren : Go.Shelf.Ren := ⟨fun | 41 => 61 | n => n, fun | 22 => 27 | 23 => 3 | 4 => 4 | n => n, fun | n => n⟩
theorem Tryz.cloneV : Go.Proofs.SlLaysE0.n41 Tryz.prog Tryz.cloneV_ren := {
 mixed := by kernel_rfl
 f41 := ⟨Tryz.f61.name, by decide, Tryz.func61.trans (congrArg some (by kernel_rfl))⟩
 t4 := Tryz.underlying4
 a4 := Tryz.isAgg4
 z4 := Tryz.sizeOf4
 v4 := Tryz.zeroValue4
 t22 := Tryz.underlying27
 a22 := Tryz.isAgg27
 z22 := Tryz.sizeOf27
 v22 := Tryz.zeroValue27 }
def Tryz.sortIV_ren : Go.Shelf.Ren := ⟨fun | 5 => 100 | 8 => 108 | 7 => 107 | 19 => 120 | 20 => 121 | 10 => 111 | 11 => 112 | 12 => 113 | 13 => 114 | 14 => 115 | 15 => 116 | 16 => 117 | 17 => 118 | 18 => 119 | 30 => 123 | 31 => 124 | 32 => 125 | 33 => 126 | 34 => 127 | 35 => 103 | 40 => 129 | n => n, fun | 23 => 27 | 25 => 3 | 3 => 3 | 32 => 131 | 22 => 27 | 0 => 0 | 44 => 143 | 46 => 120 | 4 => 4 | 36 => 136 | 35 => 135 | 41 => 125 | 5 => 5 | 9 => 9 | 53 => 145 | 57 => 149 | 63 => 151 | 64 => 152 | n => n, fun | n => n⟩
theorem Tryz.sortIV : Go.Proofs.SlLaysM.n5 Tryz.prog Tryz.sortIV_ren := {
 mixed := by kernel_rfl
 f5 := ⟨Tryz.f100.name, by decide, Tryz.func100.trans (congrArg some (by kernel_rfl))⟩
 f7 := ⟨Tryz.f107.name, by decide, Tryz.func107.trans (congrArg some (by kernel_rfl))⟩
 f8 := Tryz.func108.trans (congrArg some (by kernel_rfl))
 f10 := ⟨Tryz.f111.name, by decide, Tryz.func111.trans (congrArg some (by kernel_rfl))⟩
 f11 := ⟨Tryz.f112.name, by decide, Tryz.func112.trans (congrArg some (by kernel_rfl))⟩
 f12 := ⟨Tryz.f113.name, by decide, Tryz.func113.trans (congrArg some (by kernel_rfl))⟩
 f13 := ⟨Tryz.f114.name, by decide, Tryz.func114.trans (congrArg some (by kernel_rfl))⟩
 f14 := ⟨Tryz.f115.name, by decide, Tryz.func115.trans (congrArg some (by kernel_rfl))⟩
 f15 := ⟨Tryz.f116.name, by decide, Tryz.func116.trans (congrArg some (by kernel_rfl))⟩
 f16 := ⟨Tryz.f117.name, by decide, Tryz.func117.trans (congrArg some (by kernel_rfl))⟩
 f17 := ⟨Tryz.f118.name, by decide, Tryz.func118.trans (congrArg some (by kernel_rfl))⟩
 f18 := ⟨Tryz.f119.name, by decide, Tryz.func119.trans (congrArg some (by kernel_rfl))⟩
 f19 := Tryz.func120.trans (congrArg some (by kernel_rfl))
 f20 := Tryz.func121.trans (congrArg some (by kernel_rfl))
 f30 := ⟨Tryz.f123.name, by decide, Tryz.func123.trans (congrArg some (by kernel_rfl))⟩
 f31 := Tryz.func124.trans (congrArg some (by kernel_rfl))
 f32 := Tryz.func125.trans (congrArg some (by kernel_rfl))
 f33 := ⟨Tryz.f126.name, by decide, Tryz.func126.trans (congrArg some (by kernel_rfl))⟩
 f34 := ⟨Tryz.f127.name, by decide, Tryz.func127.trans (congrArg some (by kernel_rfl))⟩
 f35 := ⟨Tryz.f103.name, by decide, Tryz.func103.trans (congrArg some (by kernel_rfl))⟩
 f40 := ⟨Tryz.f129.name, by decide, Tryz.func129.trans (congrArg some (by kernel_rfl))⟩
 t0 := Tryz.underlying0
 a0 := Tryz.isAgg0
 z0 := Tryz.sizeOf0
 v0 := Tryz.zeroValue0
 t3 := Tryz.underlying3
 a3 := Tryz.isAgg3
 z3 := Tryz.sizeOf3
 v3 := Tryz.zeroValue3
 t4 := Tryz.underlying4
 a4 := Tryz.isAgg4
 z4 := Tryz.sizeOf4
 v4 := Tryz.zeroValue4
 t5 := Tryz.underlying5
 a5 := Tryz.isAgg5
 z5 := Tryz.sizeOf5
 v5 := Tryz.zeroValue5
 t9 := Tryz.underlying9
 a9 := Tryz.isAgg9
 z9 := Tryz.sizeOf9
 v9 := Tryz.zeroValue9
 t22 := Tryz.underlying27
 a22 := Tryz.isAgg27
 z22 := Tryz.sizeOf27
 v22 := Tryz.zeroValue27
 t23 := Tryz.underlying27
 a23 := Tryz.isAgg27
 z23 := Tryz.sizeOf27
 v23 := Tryz.zeroValue27
 t25 := Tryz.underlying3
 a25 := Tryz.isAgg3
 z25 := Tryz.sizeOf3
 v25 := Tryz.zeroValue3
 t32 := Tryz.underlying131
 a32 := Tryz.isAgg131
 z32 := Tryz.sizeOf131
 v32 := Tryz.zeroValue131
 t35 := Tryz.underlying135
 a35 := Tryz.isAgg135
 z35 := Tryz.sizeOf135
 v35 := Tryz.zeroValue135
 t36 := Tryz.underlying136
 a36 := Tryz.isAgg136
 z36 := Tryz.sizeOf136
 v36 := Tryz.zeroValue136
 t41 := Tryz.underlying125
 a41 := Tryz.isAgg125
 z41 := Tryz.sizeOf125
 v41 := Tryz.zeroValue125
 t44 := Tryz.underlying143
 a44 := Tryz.isAgg143
 z44 := Tryz.sizeOf143
 v44 := Tryz.zeroValue143
 t46 := Tryz.underlying120
 a46 := Tryz.isAgg120
 z46 := Tryz.sizeOf120
 v46 := Tryz.zeroValue120
 t53 := Tryz.underlying145
 a53 := Tryz.isAgg145
 z53 := Tryz.sizeOf145
 v53 := Tryz.zeroValue145
 t57 := Tryz.underlying149
 a57 := Tryz.isAgg149
 z57 := Tryz.sizeOf149
 v57 := Tryz.zeroValue149
 t63 := Tryz.underlying151
 a63 := Tryz.isAgg151
 z63 := Tryz.sizeOf151
 v63 := Tryz.zeroValue151
 t64 := Tryz.underlying152
 a64 := Tryz.isAgg152
 z64 := Tryz.sizeOf152
 v64 := Tryz.zeroValue152 }
end Go.Proofs
namespace Go.Proofs.YtaakjjefnjbabaaGreat.Sx
open Go.RowKit Go.Sort Go.Maps Go.WideMaps
theorem clone_any (w : World) (v : Value) (n : Nat) (l : List Nat) (b0 : Nat) (hl : l.length = n) (hn : n ≤ 4294967296) (h : w.ownsRow b0 3 1 v n (i64C l)) :
 Calls Tryz.prog 61 #[v] w fun e w' => ∃ sl, e = .returned sl ∧ w'.ownsRow w.heap.size 3 1 sl n (i64C l) ∧ Below w.heap.size w w' := by
 rcases h.2 with ⟨hv, h0⟩ | ⟨g, cap, cur, hv, hg, hq, hr⟩
 · have hv : v = .slice none 0 0 := hv
   have hl0 : l = [] := List.length_eq_zero_iff.1 (by omega)
   subst hl0
   rw [hv]
   refine (AnyE.slices_Clone_nil Tryz.cloneV 0 0 w).mono ?_
   rintro e w' ⟨rfl, rfl⟩
   exact ⟨_, rfl, by rw [← hl]; exact World.ownsRow_nil _ _ _ _, Below.refl _ _⟩
 · rw [hv]
   obtain ⟨i0, hi0, hz0, hz1, hz2⟩ := infoInt
   have hcon := AnyE.slices_Clone Tryz.cloneV i0 _ 1 8 hi0 hz0 hz1 hz2 rfl (by decide) (fun w => by kernel_rfl) g 0 n cap (i64C l) w (by simp [i64C, hl]) (by unfold maxLen; omega) (by omega) (fun j u hj => by
    have hjn : j < n := by
     have := (List.getElem?_eq_some_iff.1 hj).1
     simpa [i64C, hl] using this
    rw [hv] at h
    have := h.cellAt j (by omega)
    rw [Nat.zero_add, this]
    exact hj) (fun u hu => by
    obtain ⟨x, _, rfl⟩ := List.mem_map.1 hu; rfl)
   change Calls Tryz.prog 61 _ _ _ at hcon
   refine hcon.mono ?_
   rintro e w' ⟨v', rfl, ho, _, hb⟩
   exact ⟨v', rfl, ho, hb⟩
section
variable {w : World} {tb : Nat} {L : Ly} {T : Tb}
set_option maxHeartbeats 1000000 in
theorem Order_any (h : TAt w tb L T) (hl : T.ord.length ≤ 4294967296) :
 Calls Tryz.prog 24 #[.pointer (some ⟨tb, 0, none⟩)] w fun e w' => ∃ sl, e = .returned sl ∧ w'.ownsRow w.heap.size 3 1 sl T.ord.length (i64C T.ord) ∧ Fr (fun _ => True) w w' := by
 have ho : OwnR w L.own 2 3 1 (L.val 2) T.ord.length (i64C T.ord) := h.sl 2 (by omega) (by omega) trivial
 have HC : Hid (Calls _ _ _ _ _) := clone_any w (L.val 2) T.ord.length T.ord 0 rfl hl ho.1
 obtain ⟨a, cap, e⟩ := h.len 2 (by omega) (by omega)
 have e : L.val 2 = .slice a T.ord.length cap := e
 have b0 : w.cell? ⟨tb, 0, none⟩ = some (L.val 2) := h.cell 0
 rw [e] at b0 HC
 have mo := follows
 clear h ho e
 go_enter Tryz.func24, Tryz.ntmps24
 go_wp2_with fail
 refine HC.out.mono ?_
 rintro e W1 ⟨sl, rfl, hO, hB⟩
 have O1 : Hid (W1.ownsRow w.heap.size 3 1 sl T.ord.length (i64C T.ord)) := hO
 have F1 : Hid (Fr (fun _ => True) w W1) := Fr.below hB
 obtain ⟨xa, xc, hsl⟩ : ∃ xa xc, sl = .slice xa T.ord.length xc := by
  rcases hO.2 with ⟨e, hn⟩ | ⟨g', cap', cur, e, _⟩
  · exact ⟨none, 0, by rw [e, hn]⟩
  · exact ⟨_, _, e⟩
 subst hsl
 clear hO hB HC
 go_wp2_with fail
 go_ret
 exact ⟨_, rfl, O1.out, F1.out⟩
end
end Go.Proofs.YtaakjjefnjbabaaGreat.Sx
