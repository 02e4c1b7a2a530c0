/- The law (plain): where a play stands. -/
import Derived.Test.YtaakjjefnjbabaaGreatQ40
set_option maxRecDepth 100000
namespace Go.Proofs.YtaakjjefnjbabaaGreat.Sx
def MM : Nat := 274877906944
structure LP (k n : Nat) (lv : Nat → Nat) (T : Tb) (nodes : List Nat) (fs given : List (List Bool)) : Prop where
 n9 : n ≤ 9
 k20 : k ≤ 2097152
 base : Base n lv MM T
 ords : Ords n lv T
 len : nodes.length = fs.length
 two : 2 ≤ nodes.length
 h0 : fs[0]? = some (tab n fun _ => false)
 h1 : fs[1]? = some (tab n fun _ => true)
 nod : ∀ (i x : Nat) f, nodes[i]? = some x → fs[i]? = some f → Giv T x ∧ f = tab n (vl n T x)
 gvn : ∀ f ∈ given, ∃ x, Giv T x ∧ f = tab n (vl n T x)
 gs : ∃ gs : List Nat, gs.length ≤ k ∧ ∀ y, Giv T y → y ∈ gs
 nk : nodes.length ≤ k + 2
 gk : given.length ≤ k
section
variable {k n : Nat} {lv lv' : Nat → Nat} {T T' : Tb} {nodes : List Nat} {fs given : List (List Bool)}
theorem pow39 (h : n ≤ 9) : 3 ^ n ≤ 19683 := Nat.le_trans (Nat.pow_le_pow_right (by omega) h) (by decide)
theorem LP.ng (h : LP k n lv T nodes fs given) : NG (fun _ => False) T := h.base.mid.ng.mono fun x hx => by rw [h.base.fresh] at hx; cases hx
theorem LP.room (h : LP k n lv T nodes fs given) : T.rows.length - T.free.length + (2 ^ n - 1) * 2 ^ n + (2 ^ n - 1) * 2 ^ n + 2 ^ n + 2 ^ (n + 1) ≤ MM := by
 obtain ⟨gs, hg, hgs⟩ := h.gs
 have h1 := h.base.mid.t.cnt_le h.ng hgs
 unfold cnt at h1
 have h2 : gs.length * 3 ^ n ≤ 2097152 * 19683 := Nat.mul_le_mul (Nat.le_trans hg h.k20) (pow39 h.n9)
 have h3 := pow9 h.n9
 have h4 : (2 ^ n - 1) * 2 ^ n ≤ 512 * 512 := Nat.mul_le_mul (by omega) h3
 rw [Nat.pow_succ]
 unfold MM
 omega
theorem LP.rooms (h : LP k n lv T nodes fs given) : T.rows.length - T.free.length + 2 ^ n ≤ MM ∧ T.rows.length - T.free.length + 2 ^ (n + 1) ≤ MM ∧ T.rows.length - T.free.length + (2 ^ n - 1) * 2 ^ n ≤ MM ∧ T.rows.length - T.free.length + (2 ^ n - 1) * 2 ^ n + (2 ^ n - 1) * 2 ^ n + 2 ^ n ≤ MM := by
 have := h.room
 generalize (2 ^ n - 1) * 2 ^ n = q at *
 generalize 2 ^ (n + 1) = q2 at *
 generalize 2 ^ n = q3 at *
 omega
theorem LP.live (h : LP k n lv T nodes fs given) {i x : Nat} (hx : nodes[i]? = some x) : ∃ f, fs[i]? = some f ∧ Giv T x ∧ f = tab n (vl n T x) := by
 have hl := lt_of_at hx
 obtain ⟨f, hf⟩ : ∃ f, fs[i]? = some f := ⟨_, List.getElem?_eq_getElem (by rw [← h.len]; exact hl)⟩
 exact ⟨f, hf, h.nod i x f hx hf⟩
theorem LP.fl (h : LP k n lv T nodes fs given) : ∀ f ∈ fs, f.length = 2 ^ n := fun f hf => by
 obtain ⟨i, hi⟩ := List.getElem?_of_mem hf
 obtain ⟨x, hx⟩ : ∃ x, nodes[i]? = some x := ⟨_, List.getElem?_eq_getElem (by rw [h.len]; exact lt_of_at hi)⟩
 rw [(h.nod i x f hx hi).2, tab_len]
theorem LP.gl (h : LP k n lv T nodes fs given) : ∀ f ∈ given, f.length = 2 ^ n := fun f hf => by
 obtain ⟨x, _, e⟩ := h.gvn f hf
 rw [e, tab_len]
theorem LP.made {M x : Nat} {F : (Nat → Bool) → Bool} (h : LP k n lv T nodes fs given) (hM : M = MM) (hk : k + 1 ≤ 2097152) (ho : Out n lv M T x F T') : LP (k + 1) n lv T' (nodes ++ [x]) (fs ++ [tab n (vl n T' x)]) (given ++ [tab n (vl n T' x)]) := by
 subst hM
 obtain ⟨gs, hg, hgs⟩ := h.gs
 have hl := h.len
 have h2 := h.two
 have keep : ∀ y f, Giv T y ∧ f = tab n (vl n T y) → Giv T' y ∧ f = tab n (vl n T' y) := fun y f ⟨a, e⟩ => by
  obtain ⟨b, c⟩ := ho.keep y a
  exact ⟨b, by rw [e, c]⟩
 refine ⟨h.n9, hk, ho.base, fun i hi => by rw [ho.ord]; exact h.ords i hi, by simp [hl], by simp; omega, ?_, ?_, fun i y f hy hf => ?_, fun f hf => ?_, ⟨gs ++ [x], by simp; omega, fun y hy => ?_⟩, ?_, ?_⟩
 · rw [List.getElem?_append_left (by omega)]; exact h.h0
 · rw [List.getElem?_append_left (by omega)]; exact h.h1
 · by_cases hi : i < nodes.length
   · rw [List.getElem?_append_left hi] at hy
     rw [List.getElem?_append_left (by omega)] at hf
     exact keep y f (h.nod i y f hy hf)
   · have : i = nodes.length := by have := lt_of_at hy; simp at this; omega
     subst this
     rw [List.getElem?_append_right (Nat.le_refl _)] at hy
     rw [List.getElem?_append_right (by omega), ← hl] at hf
     simp at hy hf
     subst hy
     exact ⟨ho.giv, hf.symm⟩
 · rcases List.mem_append.1 hf with q | q
   · obtain ⟨y, hy⟩ := h.gvn f q
     exact ⟨y, keep y f hy⟩
   · exact ⟨x, ho.giv, List.mem_singleton.1 q⟩
 · rcases ho.only y hy with q | q
   · exact List.mem_append.2 (.inl (hgs y q))
   · exact List.mem_append.2 (.inr (by rw [q]; simp))
 · have := h.nk; simp; omega
 · have := h.gk; simp; omega
theorem LP.moved {M : Nat} (h : LP k n lv T nodes fs given) (hM : M = MM) (hb : Base n lv' M T') (hO : Ords n lv' T') (hg : ∀ y, Giv T y → Giv T' y ∧ vl n T' y = vl n T y) (ho : ∀ y, Giv T' y → Giv T y) : LP k n lv' T' nodes fs given := by
 subst hM
 obtain ⟨gs, hgl, hgs⟩ := h.gs
 have keep : ∀ y f, Giv T y ∧ f = tab n (vl n T y) → Giv T' y ∧ f = tab n (vl n T' y) := fun y f ⟨a, e⟩ => by
  obtain ⟨b, c⟩ := hg y a
  exact ⟨b, by rw [e, c]⟩
 exact ⟨h.n9, h.k20, hb, hO, h.len, h.two, h.h0, h.h1, fun i x f hx hf => keep x f (h.nod i x f hx hf), fun f hf => by
  obtain ⟨y, hy⟩ := h.gvn f hf
  exact ⟨y, keep y f hy⟩, ⟨gs, hgl, fun y hy => hgs y (ho y hy)⟩, h.nk, h.gk⟩
theorem LP.kept {M x y : Nat} {ls : List Nat} (h : LP k n lv T nodes fs given) (hM : M = MM) (hk2 : 2 ≤ k) (hK : KeepP n lv M T [x, y] ls T') : LP k n lv T' [0, 1, x, y] [tab n fun _ => false, tab n fun _ => true, tab n (vl n T x), tab n (vl n T y)] [tab n (vl n T x), tab n (vl n T y)] := by
 subst hM
 obtain ⟨gs, hgl, hgs⟩ := h.gs
 have t := hK.base.mid.t
 have g0 : Giv T' 0 := by obtain ⟨u, e⟩ := t.inv.e0; exact ⟨_, e, by show (n : Int) ≠ -1; omega, rfl⟩
 have g1 : Giv T' 1 := by obtain ⟨u, e⟩ := t.inv.e1; exact ⟨_, e, by show (n : Int) ≠ -1; omega, rfl⟩
 have v0 : tab n (fun _ => false) = tab n (vl n T' 0) := congrArg (tab n) (funext fun σ => (vl_zero σ).symm)
 have v1 : tab n (fun _ => true) = tab n (vl n T' 1) := congrArg (tab n) (funext fun σ => (vl_one σ).symm)
 obtain ⟨gx, vx⟩ := hK.keep x (by simp)
 obtain ⟨gy, vy⟩ := hK.keep y (by simp)
 refine ⟨h.n9, h.k20, hK.base, fun i hi => by rw [hK.ord]; exact h.ords i hi, rfl, by simp, rfl, rfl, fun i z f hz hf => ?_, fun f hf => ?_, ⟨gs, hgl, fun z hz => hgs z (hK.only z hz)⟩, by simp; omega, by simp; omega⟩
 · match i with
   | 0 => cases hz; cases hf; exact ⟨g0, v0⟩
   | 1 => cases hz; cases hf; exact ⟨g1, v1⟩
   | 2 => cases hz; cases hf; exact ⟨gx, by rw [vx]⟩
   | 3 => cases hz; cases hf; exact ⟨gy, by rw [vy]⟩
   | i + 4 => cases hz
 · simp only [List.mem_cons, List.not_mem_nil, or_false] at hf
   rcases hf with rfl | rfl
   · exact ⟨x, gx, by rw [vx]⟩
   · exact ⟨y, gy, by rw [vy]⟩
theorem LP.size (h : LP k n lv T nodes fs given) {R : List (List Bool)} (hA : AskSt T.ord given R.length R) : askN T.ord R ≤ T.made.length := by
 have t := h.base.mid.t
 have hR : ∀ f ∈ R, ∃ x, Live T x ∧ f = tab n (vl n T x) := hA.gen _ (fun f hf => by
  obtain ⟨x, hx, e⟩ := h.gvn f hf
  exact ⟨x, hx.live, e⟩) fun f a v ⟨x, hx, e⟩ ha => by
  subst e
  by_cases hx2 : 2 ≤ x
  · obtain ⟨u, hun, hu, _⟩ := t.rk_at hx2 hx
    rw [t.first_node h.ords hx2 hx hu] at ha
    have hua : u = a := Option.some.inj ha
    subst hua
    obtain ⟨_, _, _, l4, l5, _⟩ := t.inv.nk hx2 hx
    rw [withL_tab hun]
    cases v with
    | false => exact ⟨_, l4, congrArg (tab n) (funext fun σ => ((t.cof hx2 hx hu σ).1).symm)⟩
    | true => exact ⟨_, l5, congrArg (tab n) (funext fun σ => ((t.cof hx2 hx hu σ).2).symm)⟩
  · rw [t.first_leaf h.ords (by omega)] at ha
    cases ha
 have := nodup_subL (m := (T.made.map Prod.snd).map fun x => tab n (vl n T x)) (hA.nd.filter fun f => (firstO T.ord f).isSome) fun f hf => by
  obtain ⟨h1, h2⟩ := List.mem_filter.1 hf
  obtain ⟨x, hx, rfl⟩ := hR f h1
  by_cases hx2 : 2 ≤ x
  · exact List.mem_map.2 ⟨x, t.inv.made_mem.2 ⟨hx2, hx⟩, rfl⟩
  · rw [t.first_leaf h.ords (by omega)] at h2
    cases h2
 rw [List.length_map, List.length_map] at this
 unfold askN
 rw [List.countP_eq_length_filter]
 exact this
theorem LP.size2 (h : LP k n lv T nodes fs given) {x y : Nat} {ls : List Nat} {R : List (List Bool)} (hx : Live T x) (hy : Live T y) (hD : DiaP T [x, y] ls) (hA : AskSt T.ord [tab n (vl n T x), tab n (vl n T y)] R.length R) : askN T.ord R = ls.length := by
 have t := h.base.mid.t
 refine (hD.nodes t (fun f hf => ?_)).count t h.ords hA (fun F hF => ?_) fun z hz => ?_
 · simp only [List.mem_cons, List.not_mem_nil, or_false] at hf
   rcases hf with rfl | rfl <;> assumption
 · simp only [List.mem_cons, List.not_mem_nil, or_false] at hF
   rcases hF with rfl | rfl
   · exact ⟨x, by simp, rfl⟩
   · exact ⟨y, by simp, rfl⟩
 · simp only [List.mem_cons, List.not_mem_nil, or_false] at hz
   rcases hz with rfl | rfl
   · exact ⟨hx, fun _ => by simp⟩
   · exact ⟨hy, fun _ => by simp⟩
theorem LP.same (h : LP k n lv T nodes fs given) {x y : Nat} (hx : Giv T x) (hy : Giv T y) : (tab n (vl n T x) = tab n (vl n T y)) ↔ x = y := h.base.mid.t.tab_same hx.live hy.live
end
theorem LP.start {n : Nat} (hn : n ≤ 9) : LP 2 n (fun v => v) (Tb0 n) [0, 1] [tab n fun _ => false, tab n fun _ => true] [] := by
 have hb := Tb0.base (n := n) (M := MM) (by omega) (by unfold MM; omega) (by unfold MM; omega)
 have t := hb.mid.t
 have g0 : Giv (Tb0 n) 0 := by obtain ⟨u, e⟩ := t.inv.e0; exact ⟨_, e, by show (n : Int) ≠ -1; omega, rfl⟩
 have g1 : Giv (Tb0 n) 1 := by obtain ⟨u, e⟩ := t.inv.e1; exact ⟨_, e, by show (n : Int) ≠ -1; omega, rfl⟩
 refine ⟨hn, by omega, hb, Tb0.ords n, rfl, by simp, rfl, rfl, fun i z f hz hf => ?_, fun f hf => (by cases hf), ⟨[0, 1], by simp, fun y hy => ?_⟩, by simp, by simp⟩
 · match i with
   | 0 => cases hz; cases hf; exact ⟨g0, congrArg (tab n) (funext fun σ => (vl_zero σ).symm)⟩
   | 1 => cases hz; cases hf; exact ⟨g1, congrArg (tab n) (funext fun σ => (vl_one σ).symm)⟩
   | i + 2 => cases hz
 · obtain ⟨r, hr, _, _⟩ := hy
   have : y < 2 := by have := lt_of_at hr; simpa [Tb0, bareR] using this
   match y with
   | 0 => simp
   | 1 => simp
   | y + 2 => omega
end Go.Proofs.YtaakjjefnjbabaaGreat.Sx
namespace Go.Proofs.YtaakjjefnjbabaaGreat.Sx
open Go.RowKit Go.Sort Go.Maps Go.WideMaps
section
variable {lo wb tb n : Nat} {W W3 W4 : World} {L : Ly} {T : Tb} {nodes : List Nat} {fs given : List (List Bool)} {ord : List Nat} {nv fv ov gv : Value}
theorem own_type {b m : Nat} {e : TypeId} {v : Value} {xs : List Value} (h : W.ownsRow b e 1 v m xs) : ∀ k, v.ownBlock = some k → ∃ cs fz, W.heap[k]? = some (.cells cs e fz) := fun k hk => by
 rcases h.2 with ⟨rfl, _⟩ | ⟨g, cap, cur, rfl, _, hg, _⟩
 · cases hk
 · have hk : some g = some k := hk
   cases hk
   exact ⟨_, _, hg⟩
theorem ty_ne {k b : Nat} {e1 e2 : TypeId} (h1 : ∃ cs fz, W.heap[k]? = some (.cells cs e1 fz)) (h2 : ∃ cs fz, W.heap[b]? = some (.cells cs e2 fz)) (he : e1 ≠ e2) : k ≠ b := by
 rintro rfl
 obtain ⟨_, _, h1⟩ := h1
 obtain ⟨_, _, h2⟩ := h2
 rw [h1] at h2
 injection h2 with q
 injection q with _ q _
 exact he q
theorem LM.parts (h : LM lo wb tb W L n T nodes fs given ord nv fv ov gv) {ob : Option Nat} {ety : TypeId} (f : Fr (fun b => some b ≠ ob ∧ b ≠ wb) W W4) (hz : ∀ k, ob = some k → L.own k = 0) (hty : ∀ k, ob = some k → ∃ cs fz, W.heap[k]? = some (.cells cs ety fz)) (hnb : ety ≠ 4) :
 TAt W4 tb L T ∧ ((∀ k, nv.ownBlock = some k → ob ≠ some k) → IntZ lo L W4 32 nv nodes.length (i64C nodes)) ∧ ((∀ k, fv.ownBlock = some k → ob ≠ some k) → RowZ lo L W4 fv fs) ∧ ((∀ k, ov.ownBlock = some k → ob ≠ some k) → IntZ lo L W4 3 ov ord.length (i64C ord)) ∧ ((∀ k, gv.ownBlock = some k → ob ≠ some k) → RowZ lo L W4 gv given) := by
 have hw : ∃ cs fz, W.heap[wb]? = some (.cells cs 39 fz) := ⟨_, _, h.blk⟩
 have hel : ∀ b, b < W.heap.size → (∃ cs fz, W.heap[b]? = some (.cells cs 4 fz)) → some b ≠ ob ∧ b ≠ wb := fun b _ hb =>
  ⟨fun e => ty_ne (hty b e.symm) hb hnb rfl, ty_ne hb hw (by decide)⟩
 refine ⟨h.tat.fr f fun b _ h0 => ⟨fun e => h0 (hz b e.symm), fun e => h0 (by rw [e]; exact h.wown)⟩, fun hn => ?_, fun hn => ?_, fun hn => ?_, fun hn => ?_⟩
 · exact ⟨own_fr h.nod.1 f fun k hk => ⟨fun e => hn k hk e.symm, ty_ne (own_type h.nod.1 k hk) hw (by decide)⟩, h.nod.2⟩
 · obtain ⟨vs, _, hv, _⟩ := id h.fun_
   exact h.fun_.frg f (fun k hk => ⟨fun e => hn k hk e.symm, ty_ne (own_type hv k hk) hw (by decide)⟩) hel
 · exact ⟨own_fr h.ordr.1 f fun k hk => ⟨fun e => hn k hk e.symm, ty_ne (own_type h.ordr.1 k hk) hw (by decide)⟩, h.ordr.2⟩
 · obtain ⟨vs, _, hv, _⟩ := id h.giv
   exact h.giv.frg f (fun k hk => ⟨fun e => hn k hk e.symm, ty_ne (own_type hv k hk) hw (by decide)⟩) hel
theorem grow_store {o : Obj} {ob : Option Nat} {i : Nat} {v' : Value} (hg : (W.alloc o).grownBy W3 ob) : Fr (fun b => some b ≠ ob ∧ b ≠ wb) W (W3.setCell ⟨wb, i, none⟩ v') := by
 have hsz := hg.size
 simp at hsz
 refine ⟨hg.os, hg.tape, hg.output, by simp; omega, fun b hb hne => ?_⟩
 rw [Below.heap_setCell W3 ⟨wb, i, none⟩ v' b hne.2]
 exact (hg.block b (by simp; omega) hne.1).trans (heap_old hb)
theorem grow_blk {o : Obj} {ob : Option Nat} (hg : (W.alloc o).grownBy W3 ob) (hb : wb < W.heap.size) (hne : some wb ≠ ob) : W3.heap[wb]? = W.heap[wb]? :=
 (hg.block wb (by simp; omega) hne).trans (heap_old hb)
theorem LM.pushO (h : LM lo wb tb W L n T nodes fs given ord nv fv ov gv) {o : Obj} {g' cap' x H : Nat} (ho : W3.ownsRow lo 3 1 (.slice (some ⟨g', 0, none⟩) (ord.length + 1) cap') (ord.length + 1) (i64C ord ++ [.int .i64 (x : Int)])) (hg : (W.alloc o).grownBy W3 ov.ownBlock) (hat : ov.ownBlock = some g' ∨ g' = H) (hH : W.heap.size ≤ H) :
 LM lo wb tb (W3.setCell ⟨wb, 4, none⟩ (.slice (some ⟨g', 0, none⟩) (ord.length + 1) cap')) L n T nodes fs given (ord ++ [x]) nv fv (.slice (some ⟨g', 0, none⟩) (ord.length + 1) cap') gv ∧ W3.cell? ⟨wb, 4, none⟩ = some ov ∧ W3.frozen? ⟨wb, 4, none⟩ = false := by
 have hw : ∃ cs fz, W.heap[wb]? = some (.cells cs 39 fz) := ⟨_, _, h.blk⟩
 have hwb := block_lt h.blk
 have hno : some wb ≠ ov.ownBlock := fun e => ty_ne (own_type h.ordr.1 wb e.symm) hw (by decide) rfl
 obtain ⟨p1, p2, p3, _, p5⟩ := h.parts (ety := 3) (grow_store (i := 4) (v' := .slice (some ⟨g', 0, none⟩) (ord.length + 1) cap') hg) h.ordr.2 (own_type h.ordr.1) (by decide)
 have hb3 := (grow_blk hg hwb hno).trans h.blk
 have hgw : g' ≠ wb := by
  rcases hat with e | e
  · exact fun q => hno (by rw [← q]; exact e.symm)
  · omega
 obtain ⟨vs, _, hv, _⟩ := id h.fun_
 obtain ⟨vg, _, hv2, _⟩ := id h.giv
 refine ⟨⟨h.low, p1, h.wlo, h.wown, set_block hb3 4 _, p2 fun k hk e => ?_, p3 fun k hk e => ?_, ⟨?_, fun k hk => ?_⟩, p5 fun k hk e => ?_, h.dis⟩, block_cell hb3 4, frozen_block hb3 4⟩
 · exact ty_ne (own_type h.nod.1 k hk) (own_type h.ordr.1 k e) (by decide) rfl
 · exact ty_ne (own_type hv k hk) (own_type h.ordr.1 k e) (by decide) rfl
 · have e : (ord ++ [x]).length = ord.length + 1 := by simp
   have e2 : i64C (ord ++ [x]) = i64C ord ++ [.int .i64 (x : Int)] := by unfold i64C; simp
   rw [e, e2]
   exact own_fr (P := fun b => b ≠ wb) ho ((Fr.refl _ W3).set (by simp) _) fun k hk => by
    have hk : some g' = some k := hk
    cases hk
    exact hgw
 · have hk : some g' = some k := hk
   cases hk
   rcases hat with e | e
   · exact h.ordr.2 _ e
   · exact h.tat.hi _ (by omega)
 · exact ty_ne (own_type hv2 k hk) (own_type h.ordr.1 k e) (by decide) rfl
theorem LM.pushN (h : LM lo wb tb W L n T nodes fs given ord nv fv ov gv) {o : Obj} {g' cap' x H : Nat} (ho : W3.ownsRow lo 32 1 (.slice (some ⟨g', 0, none⟩) (nodes.length + 1) cap') (nodes.length + 1) (i64C nodes ++ [.int .i64 (x : Int)])) (hg : (W.alloc o).grownBy W3 nv.ownBlock) (hat : nv.ownBlock = some g' ∨ g' = H) (hH : W.heap.size ≤ H) :
 LM lo wb tb (W3.setCell ⟨wb, 2, none⟩ (.slice (some ⟨g', 0, none⟩) (nodes.length + 1) cap')) L n T (nodes ++ [x]) fs given ord (.slice (some ⟨g', 0, none⟩) (nodes.length + 1) cap') fv ov gv ∧ W3.cell? ⟨wb, 2, none⟩ = some nv ∧ W3.frozen? ⟨wb, 2, none⟩ = false ∧ Fr (fun b => some b ≠ nv.ownBlock ∧ b ≠ wb) W (W3.setCell ⟨wb, 2, none⟩ (.slice (some ⟨g', 0, none⟩) (nodes.length + 1) cap')) := by
 have hw : ∃ cs fz, W.heap[wb]? = some (.cells cs 39 fz) := ⟨_, _, h.blk⟩
 have hwb := block_lt h.blk
 have hno : some wb ≠ nv.ownBlock := fun e => ty_ne (own_type h.nod.1 wb e.symm) hw (by decide) rfl
 have hfr := grow_store (wb := wb) (i := 2) (v' := .slice (some ⟨g', 0, none⟩) (nodes.length + 1) cap') hg
 obtain ⟨p1, _, p3, p4, p5⟩ := h.parts (ety := 32) hfr h.nod.2 (own_type h.nod.1) (by decide)
 have hb3 := (grow_blk hg hwb hno).trans h.blk
 have hgw : g' ≠ wb := by
  rcases hat with e | e
  · exact fun q => hno (by rw [← q]; exact e.symm)
  · omega
 obtain ⟨vs, _, hv, _⟩ := id h.fun_
 obtain ⟨vg, _, hv2, _⟩ := id h.giv
 refine ⟨⟨h.low, p1, h.wlo, h.wown, set_block hb3 2 _, ⟨?_, fun k hk => ?_⟩, p3 fun k hk e => ?_, p4 fun k hk e => ?_, p5 fun k hk e => ?_, h.dis⟩, block_cell hb3 2, frozen_block hb3 2, hfr⟩
 · have e : (nodes ++ [x]).length = nodes.length + 1 := by simp
   have e2 : i64C (nodes ++ [x]) = i64C nodes ++ [.int .i64 (x : Int)] := by unfold i64C; simp
   rw [e, e2]
   exact own_fr (P := fun b => b ≠ wb) ho ((Fr.refl _ W3).set (by simp) _) fun k hk => by
    have hk : some g' = some k := hk
    cases hk
    exact hgw
 · have hk : some g' = some k := hk
   cases hk
   rcases hat with e | e
   · exact h.nod.2 _ e
   · exact h.tat.hi _ (by omega)
 · exact ty_ne (own_type hv k hk) (own_type h.nod.1 k e) (by decide) rfl
 · exact ty_ne (own_type h.ordr.1 k hk) (own_type h.nod.1 k e) (by decide) rfl
 · exact ty_ne (own_type hv2 k hk) (own_type h.nod.1 k e) (by decide) rfl
theorem LM.pushF (h : LM lo wb tb W L n T nodes fs given ord nv fv ov gv) {o : Obj} {g' cap' H : Nat} {vs : List Value} {vx : Value} {x : List Bool} (hvs : vs.length = fs.length) (hrow : W.ownsRow lo 28 1 fv fs.length vs) (hel : ∀ (i : Nat) vx x, vs[i]? = some vx → fs[i]? = some x → BVz L W vx x) (hx : BVz L W vx x) (ho : W3.ownsRow lo 28 1 (.slice (some ⟨g', 0, none⟩) (fs.length + 1) cap') (fs.length + 1) (vs ++ [vx])) (hg : (W.alloc o).grownBy W3 fv.ownBlock) (hat : fv.ownBlock = some g' ∨ g' = H) (hH : W.heap.size ≤ H) :
 LM lo wb tb (W3.setCell ⟨wb, 3, none⟩ (.slice (some ⟨g', 0, none⟩) (fs.length + 1) cap')) L n T nodes (fs ++ [x]) given ord nv (.slice (some ⟨g', 0, none⟩) (fs.length + 1) cap') ov gv ∧ W3.cell? ⟨wb, 3, none⟩ = some fv ∧ W3.frozen? ⟨wb, 3, none⟩ = false ∧ Fr (fun b => some b ≠ fv.ownBlock ∧ b ≠ wb) W (W3.setCell ⟨wb, 3, none⟩ (.slice (some ⟨g', 0, none⟩) (fs.length + 1) cap')) ∧ BVz L (W3.setCell ⟨wb, 3, none⟩ (.slice (some ⟨g', 0, none⟩) (fs.length + 1) cap')) vx x := by
 have hw : ∃ cs fz, W.heap[wb]? = some (.cells cs 39 fz) := ⟨_, _, h.blk⟩
 have hwb := block_lt h.blk
 have hz : ∀ k, fv.ownBlock = some k → L.own k = 0 := by obtain ⟨_, _, _, _, q⟩ := h.fun_; exact q
 have hno : some wb ≠ fv.ownBlock := fun e => ty_ne (own_type hrow wb e.symm) hw (by decide) rfl
 have hfr := grow_store (wb := wb) (i := 3) (v' := .slice (some ⟨g', 0, none⟩) (fs.length + 1) cap') hg
 obtain ⟨p1, p2, p3, p4, p5⟩ := h.parts (ety := 28) hfr hz (own_type hrow) (by decide)
 have hb3 := (grow_blk hg hwb hno).trans h.blk
 have hgw : g' ≠ wb := by
  rcases hat with e | e
  · exact fun q => hno (by rw [← q]; exact e.symm)
  · omega
 have hdis : ∀ k, gv.ownBlock = some k → fv.ownBlock ≠ some k := fun k hk e => by
  rcases h.dis with q | q
  · rw [q] at e; cases e
  · exact q (e.trans hk.symm)
 have helb : ∀ b, b < W.heap.size → (∃ cs fz, W.heap[b]? = some (.cells cs 4 fz)) → some b ≠ fv.ownBlock ∧ b ≠ wb := fun b _ hb =>
  ⟨fun e => ty_ne (own_type hrow b e.symm) hb (by decide) rfl, ty_ne hb hw (by decide)⟩
 have hol : ∀ k, gv.ownBlock = some k → k < W.heap.size := fun k hk => by
  obtain ⟨_, _, q, _⟩ := h.giv
  exact (q.lt k hk).2
 have hnew : RowZ lo L (W3.setCell ⟨wb, 3, none⟩ (.slice (some ⟨g', 0, none⟩) (fs.length + 1) cap')) (.slice (some ⟨g', 0, none⟩) (fs.length + 1) cap') (fs ++ [x]) := by
  refine ⟨vs ++ [vx], by simp [hvs], ?_, fun i vy y q1 q2 => ?_, fun k hk => ?_⟩
  · have e : (fs ++ [x]).length = fs.length + 1 := by simp
    rw [e]
    exact own_fr (P := fun b => b ≠ wb) ho ((Fr.refl _ W3).set (by simp) _) fun k hk => by
     have hk : some g' = some k := hk
     cases hk
     exact hgw
  · by_cases hi : i < fs.length
    · rw [List.getElem?_append_left (by omega)] at q1
      rw [List.getElem?_append_left hi] at q2
      exact (hel i vy y q1 q2).frg hfr helb
    · have : i = fs.length := by have := lt_of_at q2; simp at this; omega
      subst this
      rw [List.getElem?_append_right (by omega), hvs] at q1
      rw [List.getElem?_append_right (by omega)] at q2
      simp at q1 q2
      rw [← q1, ← q2]
      exact hx.frg hfr helb
  · have hk : some g' = some k := hk
    cases hk
    rcases hat with e | e
    · exact hz _ e
    · exact h.tat.hi _ (by omega)
 refine ⟨⟨h.low, p1, h.wlo, h.wown, set_block hb3 3 _, p2 fun k hk e => ?_, hnew, p4 fun k hk e => ?_, p5 hdis, ?_⟩, block_cell hb3 3, frozen_block hb3 3, hfr, hx.frg hfr helb⟩
 · exact ty_ne (own_type h.nod.1 k hk) (own_type hrow k e) (by decide) rfl
 · exact ty_ne (own_type h.ordr.1 k hk) (own_type hrow k e) (by decide) rfl
 · refine .inr fun e => ?_
   have e : some g' = gv.ownBlock := e
   rcases hat with q | q
   · exact hdis g' e.symm q
   · have := hol g' e.symm
     omega
theorem LM.pushG (h : LM lo wb tb W L n T nodes fs given ord nv fv ov gv) {o : Obj} {g' cap' H : Nat} {vs : List Value} {vx : Value} {x : List Bool} (hvs : vs.length = given.length) (hrow : W.ownsRow lo 28 1 gv given.length vs) (hel : ∀ (i : Nat) vx x, vs[i]? = some vx → given[i]? = some x → BVz L W vx x) (hx : BVz L W vx x) (ho : W3.ownsRow lo 28 1 (.slice (some ⟨g', 0, none⟩) (given.length + 1) cap') (given.length + 1) (vs ++ [vx])) (hg : (W.alloc o).grownBy W3 gv.ownBlock) (hat : gv.ownBlock = some g' ∨ g' = H) (hH : W.heap.size ≤ H) :
 LM lo wb tb (W3.setCell ⟨wb, 5, none⟩ (.slice (some ⟨g', 0, none⟩) (given.length + 1) cap')) L n T nodes fs (given ++ [x]) ord nv fv ov (.slice (some ⟨g', 0, none⟩) (given.length + 1) cap') ∧ W3.cell? ⟨wb, 5, none⟩ = some gv ∧ W3.frozen? ⟨wb, 5, none⟩ = false ∧ Fr (fun b => some b ≠ gv.ownBlock ∧ b ≠ wb) W (W3.setCell ⟨wb, 5, none⟩ (.slice (some ⟨g', 0, none⟩) (given.length + 1) cap')) ∧ BVz L (W3.setCell ⟨wb, 5, none⟩ (.slice (some ⟨g', 0, none⟩) (given.length + 1) cap')) vx x := by
 have hw : ∃ cs fz, W.heap[wb]? = some (.cells cs 39 fz) := ⟨_, _, h.blk⟩
 have hwb := block_lt h.blk
 have hz : ∀ k, gv.ownBlock = some k → L.own k = 0 := by obtain ⟨_, _, _, _, q⟩ := h.giv; exact q
 have hno : some wb ≠ gv.ownBlock := fun e => ty_ne (own_type hrow wb e.symm) hw (by decide) rfl
 have hfr := grow_store (wb := wb) (i := 5) (v' := .slice (some ⟨g', 0, none⟩) (given.length + 1) cap') hg
 obtain ⟨p1, p2, p3, p4, p5⟩ := h.parts (ety := 28) hfr hz (own_type hrow) (by decide)
 have hb3 := (grow_blk hg hwb hno).trans h.blk
 have hgw : g' ≠ wb := by
  rcases hat with e | e
  · exact fun q => hno (by rw [← q]; exact e.symm)
  · omega
 have hdis : ∀ k, fv.ownBlock = some k → gv.ownBlock ≠ some k := fun k hk e => by
  rcases h.dis with q | q
  · rw [q] at hk; cases hk
  · exact q (hk.trans e.symm)
 have helb : ∀ b, b < W.heap.size → (∃ cs fz, W.heap[b]? = some (.cells cs 4 fz)) → some b ≠ gv.ownBlock ∧ b ≠ wb := fun b _ hb =>
  ⟨fun e => ty_ne (own_type hrow b e.symm) hb (by decide) rfl, ty_ne hb hw (by decide)⟩
 have hol : ∀ k, fv.ownBlock = some k → k < W.heap.size := fun k hk => by
  obtain ⟨_, _, q, _⟩ := h.fun_
  exact (q.lt k hk).2
 have hnew : RowZ lo L (W3.setCell ⟨wb, 5, none⟩ (.slice (some ⟨g', 0, none⟩) (given.length + 1) cap')) (.slice (some ⟨g', 0, none⟩) (given.length + 1) cap') (given ++ [x]) := by
  refine ⟨vs ++ [vx], by simp [hvs], ?_, fun i vy y q1 q2 => ?_, fun k hk => ?_⟩
  · have e : (given ++ [x]).length = given.length + 1 := by simp
    rw [e]
    exact own_fr (P := fun b => b ≠ wb) ho ((Fr.refl _ W3).set (by simp) _) fun k hk => by
     have hk : some g' = some k := hk
     cases hk
     exact hgw
  · by_cases hi : i < given.length
    · rw [List.getElem?_append_left (by omega)] at q1
      rw [List.getElem?_append_left hi] at q2
      exact (hel i vy y q1 q2).frg hfr helb
    · have : i = given.length := by have := lt_of_at q2; simp at this; omega
      subst this
      rw [List.getElem?_append_right (by omega), hvs] at q1
      rw [List.getElem?_append_right (by omega)] at q2
      simp at q1 q2
      rw [← q1, ← q2]
      exact hx.frg hfr helb
  · have hk : some g' = some k := hk
    cases hk
    rcases hat with e | e
    · exact hz _ e
    · exact h.tat.hi _ (by omega)
 refine ⟨⟨h.low, p1, h.wlo, h.wown, set_block hb3 5 _, p2 fun k hk e => ?_, p3 hdis, p4 fun k hk e => ?_, hnew, ?_⟩, block_cell hb3 5, frozen_block hb3 5, hfr, hx.frg hfr helb⟩
 · exact ty_ne (own_type h.nod.1 k hk) (own_type hrow k e) (by decide) rfl
 · exact ty_ne (own_type h.ordr.1 k hk) (own_type hrow k e) (by decide) rfl
 · cases hfo : fv.ownBlock with
   | none => exact .inl rfl
   | some k =>
     refine .inr fun e => ?_
     have e : some k = some g' := e
     cases e
     rcases hat with q | q
     · exact hdis g' hfo q
     · have := hol g' hfo
       omega
end
end Go.Proofs.YtaakjjefnjbabaaGreat.Sx
