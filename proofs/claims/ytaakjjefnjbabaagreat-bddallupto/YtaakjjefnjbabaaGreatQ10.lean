/- Going through a diagram from its ends up: what is so of it, whatever is made of a node. -/
import Derived.Test.YtaakjjefnjbabaaGreatQ09
set_option maxRecDepth 100000
namespace Go.Proofs.YtaakjjefnjbabaaGreat.Sx
open Go.RowKit Go.Sort Go.Maps Go.WideMaps
structure FrM (mm : Nat) (L L' : Ly) (w w' : World) : Prop where
 os : w'.os = w.os
 tape : w'.tape = w.tape
 output : w'.output = w.output
 size : w.heap.size ≤ w'.heap.size
 block : ∀ b, b < w.heap.size → L.own b = 0 → b ≠ mm → w'.heap[b]? = w.heap[b]?
 own : ∀ b, b < w.heap.size → L'.own b = L.own b
theorem FrM.trans {mm : Nat} {L L' L'' : Ly} {a b c : World} (h : FrM mm L L' a b) (k : FrM mm L' L'' b c) : FrM mm L L'' a c :=
 ⟨k.os.trans h.os, k.tape.trans h.tape, k.output.trans h.output, Nat.le_trans h.size k.size, fun i hi ho hn => (k.block i (Nat.lt_of_lt_of_le hi h.size) ((h.own i hi).trans ho) hn).trans (h.block i hi ho hn), fun i hi => (k.own i (Nat.lt_of_lt_of_le hi h.size)).trans (h.own i hi)⟩
theorem FrT.m {mm : Nat} {L L' : Ly} {w w' : World} (h : FrT L L' w w') : FrM mm L L' w w' := ⟨h.os, h.tape, h.output, h.size, fun b hb ho _ => h.block b hb ho, h.own⟩
theorem FrM.map {mm : Nat} {L : Ly} {w w' : World} (h : Fr (· ≠ mm) w w') : FrM mm L L w w' := ⟨h.os, h.tape, h.output, h.size, fun b hb _ hn => h.block b hb hn, fun _ _ => rfl⟩
theorem FrM.grew {mm : Nat} {L : Ly} {w w' : World} (h : Fr (fun _ => True) w w') : FrM mm L L w w' := ⟨h.os, h.tape, h.output, h.size, fun b hb _ _ => h.block b hb trivial, fun _ _ => rfl⟩
structure Env (xs : List (Nat × Obj)) (mm : Nat) (w : World) (L : Ly) : Prop where
 at' : ∀ p ∈ xs, w.heap[p.1]? = some p.2
 own : ∀ p ∈ xs, L.own p.1 = 0
 ne : ∀ p ∈ xs, p.1 ≠ mm
 om : L.own mm = 0
 lt : mm < w.heap.size
theorem Env.fr {xs : List (Nat × Obj)} {mm : Nat} {w w' : World} {L L' : Ly} (h : Env xs mm w L) (f : FrM mm L L' w w') : Env xs mm w' L' :=
 ⟨fun p hp => (f.block _ (block_lt (h.at' p hp)) (h.own p hp) (h.ne p hp)).trans (h.at' p hp), fun p hp => (f.own _ (block_lt (h.at' p hp))).trans (h.own p hp), h.ne, (f.own _ h.lt).trans h.om, Nat.lt_of_lt_of_le h.lt f.size⟩
theorem TAt.besideM {w w' : World} {tb : Nat} {L : Ly} {T : Tb} {mm : Nat} (h : TAt w tb L T) (f : Fr (· ≠ mm) w w') (ho : L.own mm = 0) : TAt w' tb L T := h.fr f fun b _ hb e => hb (by rw [e]; exact ho)
theorem zeroI (w : World) : (zeroValue 3).run Tryz.prog w = .ok (.int .i64 0) w := by kernel_rfl
def mlV (ml : List (Nat × Nat)) : List (Value × Value) := ml.map fun p => (.int .i64 (p.1 : Int), .int .i64 (p.2 : Int))
structure MS (Val : Tb → Nat → Nat → Prop) (T : Tb) (ml : List (Nat × Nat)) : Prop where
 val : ∀ p ∈ ml, Val T p.1 p.2 ∧ Sm p.1
 nd : (ml.map Prod.fst).Nodup
 k0 : ∃ a, (0, a) ∈ ml
 k1 : ∃ a, (1, a) ∈ ml
structure OfP (n : Nat) (lv : Nat → Nat) (M A K m : Nat) (T0 : Tb) (Val : Tb → Nat → Nat → Prop) (T : Tb) (ml : List (Nat × Nat)) (f : Nat) (T' : Tb) (ml' : List (Nat × Nat)) (v : Nat) : Prop where
 mid : Mid n lv M A T'
 more : More T T'
 gv : ∀ y, Giv T' y → Giv T y
 cost : T'.fresh.length ≤ T.fresh.length + (2 ^ m - 1) * K
 ms : MS Val T' ml'
 val : Val T' f v
 new : ∀ p ∈ ml', p ∈ ml ∨ rk lv T0 f ≤ rk lv T0 p.1
structure JoinP (n : Nat) (lv : Nat → Nat) (M A K : Nat) (Val : Tb → Nat → Nat → Prop) (T : Tb) (f : Nat) (T' : Tb) (v : Nat) : Prop where
 mid : Mid n lv M A T'
 more : More T T'
 gv : ∀ y, Giv T' y → Giv T y
 cost : T'.fresh.length ≤ T.fresh.length + K
 val : Val T' f v
def Mono (n : Nat) (lv : Nat → Nat) (M A : Nat) (Val : Tb → Nat → Nat → Prop) : Prop := ∀ (T T' : Tb) (f v : Nat), Mid n lv M A T → More T T' → Val T f v → Val T' f v
theorem cost_step (m K : Nat) : (2 ^ (m + 1) - 1) * K = (2 ^ m - 1) * K + (2 ^ m - 1) * K + K := by
 obtain ⟨p, hp⟩ : ∃ p, 2 ^ m = p + 1 := ⟨2 ^ m - 1, by have := Nat.two_pow_pos m; omega⟩
 rw [Nat.pow_succ, hp, show (p + 1) * 2 - 1 = p + p + 1 from by omega, show p + 1 - 1 = p from rfl, Nat.add_mul, Nat.add_mul, Nat.one_mul]
section
variable {n : Nat} {lv : Nat → Nat} {M A K m : Nat} {T0 T T1 T2 T3 : Tb} {Val : Tb → Nat → Nat → Prop} {ml ml1 ml2 : List (Nat × Nat)} {f v v1 v2 : Nat} {r : Rw}
theorem OfP.hit (hm : Mid n lv M A T) (hs : MS Val T ml) (hx : (f, v) ∈ ml) : OfP n lv M A K m T0 Val T ml f T ml v := ⟨hm, More.refl T, fun _ h => h, by omega, hs, (hs.val _ hx).1, fun _ h => .inl h⟩
theorem OfP.absent (h0 : Tbl n lv z0 T0) (hr : T0.rows[f]? = some r) (hd : r.about ≠ -1) (h2 : 2 ≤ f) (hx : ∀ p ∈ ml, p.1 ≠ f) (H1 : OfP n lv M A K m T0 Val T ml r.low T1 ml1 v1) (H2 : OfP n lv M A K m T0 Val T1 ml1 r.high T2 ml2 v2) : ∀ p ∈ ml2, p.1 ≠ f := by
 obtain ⟨_, _, _, _, _, a6, a7⟩ := h0.inv.nd f r h2 hr hd
 intro p hp e
 rcases H2.new p hp with hp | hq
 · rcases H1.new p hp with hp | hq
   · exact hx p hp e
   · rw [e] at hq; omega
 · rw [e] at hq; omega
theorem OfP.main (hV : Mono n lv M A Val) (h0 : Tbl n lv z0 T0) (hr : T0.rows[f]? = some r) (hd : r.about ≠ -1) (h2 : 2 ≤ f) (hsm : Sm f) (hx : ∀ p ∈ ml, p.1 ≠ f) (H1 : OfP n lv M A K m T0 Val T ml r.low T1 ml1 v1) (H2 : OfP n lv M A K m T0 Val T1 ml1 r.high T2 ml2 v2) (H3 : JoinP n lv M A K Val T2 f T3 v) : OfP n lv M A K (m + 1) T0 Val T ml f T3 (ml2 ++ [(f, v)]) v := by
 obtain ⟨_, _, _, _, _, a6, a7⟩ := h0.inv.nd f r h2 hr hd
 have hab := OfP.absent h0 hr hd h2 hx H1 H2
 refine ⟨H3.mid, (H1.more.trans H2.more).trans H3.more, fun y hy => H1.gv y (H2.gv y (H3.gv y hy)), ?_, ⟨fun p hp => ?_, nodup_push H2.ms.nd hab, ?_, ?_⟩, H3.val, fun p hp => ?_⟩
 · rw [cost_step]
   have := H1.cost
   have := H2.cost
   have := H3.cost
   omega
 · rcases List.mem_append.1 hp with hp | hp
   · exact ⟨hV T2 T3 _ _ H2.mid H3.more (H2.ms.val p hp).1, (H2.ms.val p hp).2⟩
   · have hp := List.mem_singleton.1 hp
     cases hp
     exact ⟨H3.val, hsm⟩
 · obtain ⟨a, ha⟩ := H2.ms.k0; exact ⟨a, List.mem_append.2 (.inl ha)⟩
 · obtain ⟨a, ha⟩ := H2.ms.k1; exact ⟨a, List.mem_append.2 (.inl ha)⟩
 · rcases List.mem_append.1 hp with hp | hp
   · rcases H2.new p hp with hp | hq
     · rcases H1.new p hp with hp | hq
       · exact .inl hp
       · exact .inr (by omega)
     · exact .inr (by omega)
   · have hp := List.mem_singleton.1 hp
     cases hp
     exact .inr (Nat.le_refl _)
end
theorem mlV_ne {ml : List (Nat × Nat)} {f : Nat} (h : ∀ p ∈ ml, p.1 ≠ f) : ∀ p ∈ mlV ml, p.1 ≠ .int .i64 (f : Int) := by
 intro p hp q
 obtain ⟨x, hx, rfl⟩ := List.mem_map.1 hp
 refine h x hx ?_
 have q : Value.int .i64 (x.1 : Int) = .int .i64 (f : Int) := q
 injection q with _ q
 exact Int.ofNat_inj.1 q
theorem mlV_hit {ml : List (Nat × Nat)} (hn : (ml.map Prod.fst).Nodup) {f v : Nat} (h : (f, v) ∈ ml) : (Value.int .i64 (f : Int), Value.int .i64 (v : Int)) ∈ mlV ml ∧ ∀ p ∈ mlV ml, p.1 = .int .i64 (f : Int) → p.2 = .int .i64 (v : Int) := by
 refine ⟨List.mem_map.2 ⟨_, h, rfl⟩, fun p hp q => ?_⟩
 obtain ⟨⟨a, b⟩, hx, rfl⟩ := List.mem_map.1 hp
 have q : Value.int .i64 (a : Int) = .int .i64 (f : Int) := q
 injection q with _ q
 have : a = f := Int.ofNat_inj.1 q
 subst this
 show Value.int .i64 (b : Int) = _
 rw [nodup_fst hn hx h]
theorem mlV_push (ml : List (Nat × Nat)) (f v : Nat) : mlV (ml ++ [(f, v)]) = mlV ml ++ [(.int .i64 (f : Int), .int .i64 (v : Int))] := by simp [mlV]
end Go.Proofs.YtaakjjefnjbabaaGreat.Sx
namespace Go.Proofs.YtaakjjefnjbabaaGreat.Sx
open Go.RowKit Go.Sort Go.Maps Go.WideMaps
def EBN (tb bm bt bj bo mm ca cb cc : Nat) : List (Nat × Obj) := [(bm, .cells #[.map (some mm)] 102 (0, 0)), (bt, .cells #[.pointer (some ⟨tb, 0, none⟩)] 36 (0, 0)), (bj, .cells #[.func (.func 95) #[] #[.pointer (some ⟨ca, 0, none⟩), .pointer (some ⟨cb, 0, none⟩), .pointer (some ⟨cc, 0, none⟩)]] 95 (0, 0)), (bo, .cells #[.func (.func 104) #[] #[.pointer (some ⟨bm, 0, none⟩), .pointer (some ⟨bt, 0, none⟩), .pointer (some ⟨bj, 0, none⟩), .pointer (some ⟨bo, 0, none⟩)]] 60 (0, 0))]
def JoinOKN (n : Nat) (lv : Nat → Nat) (M A K : Nat) (T0 : Tb) (Val : Tb → Nat → Nat → Prop) (xs : List (Nat × Obj)) (mm tb ca cb cc : Nat) : Prop := ∀ (W : World) (L : Ly) (T : Tb) (f : Nat) (r : Rw) (x y : Nat), 2 ≤ f → T0.rows[f]? = some r → r.about ≠ -1 → TAt W tb L T → Mid n lv M A T → More T0 T → Env xs mm W L → Val T r.low x → Val T r.high y → A + T.fresh.length + K ≤ M →
 Calls Tryz.prog 95 #[.int .i64 r.about, .int .i64 (x : Int), .int .i64 (y : Int), .pointer (some ⟨ca, 0, none⟩), .pointer (some ⟨cb, 0, none⟩), .pointer (some ⟨cc, 0, none⟩)] W fun e w' => ∃ (v : Nat) (T' : Tb) (L' : Ly), e = .returned (.int .i64 (v : Int)) ∧ TAt w' tb L' T' ∧ FrT L L' W w' ∧ JoinP n lv M A K Val T f T' v
def OfOKN (n : Nat) (lv : Nat → Nat) (M A K m : Nat) (T0 : Tb) (Val : Tb → Nat → Nat → Prop) (xs : List (Nat × Obj)) (mm tb bm bt bj bo : Nat) : Prop := ∀ (w : World) (L : Ly) (T : Tb) (ml : List (Nat × Nat)) (f : Nat), TAt w tb L T → Mid n lv M A T → More T0 T → Env xs mm w L → MapIs 32 w mm (mlV ml) → MS Val T ml → Live T0 f → n ≤ rk lv T0 f + m → A + T.fresh.length + (2 ^ m - 1) * K ≤ M →
 Calls Tryz.prog 104 #[.int .i64 (f : Int), .pointer (some ⟨bm, 0, none⟩), .pointer (some ⟨bt, 0, none⟩), .pointer (some ⟨bj, 0, none⟩), .pointer (some ⟨bo, 0, none⟩)] w fun e w' => ∃ (v : Nat) (T' : Tb) (L' : Ly) (ml' : List (Nat × Nat)), e = .returned (.int .i64 (v : Int)) ∧ TAt w' tb L' T' ∧ FrM mm L L' w w' ∧ MapIs 32 w' mm (mlV ml') ∧ OfP n lv M A K m T0 Val T ml f T' ml' v
section
variable {n : Nat} {lv : Nat → Nat} {M A K : Nat} {T0 : Tb} {Val : Tb → Nat → Nat → Prop} {xs : List (Nat × Obj)} {mm tb bm bt bj bo ca cb cc : Nat}
set_option maxHeartbeats 1000000 in
theorem of_hitN (hxs : ∀ p ∈ EBN tb bm bt bj bo mm ca cb cc, p ∈ xs) {w : World} {L : Ly} {ml : List (Nat × Nat)} (hE : Env xs mm w L) (hM : MapIs 32 w mm (mlV ml)) (hn : (ml.map Prod.fst).Nodup) {f v : Nat} (hf : Sm f) (hx : (f, v) ∈ ml) :
 Calls Tryz.prog 104 #[.int .i64 (f : Int), .pointer (some ⟨bm, 0, none⟩), .pointer (some ⟨bt, 0, none⟩), .pointer (some ⟨bj, 0, none⟩), .pointer (some ⟨bo, 0, none⟩)] w fun e w' => e = .returned (.int .i64 (v : Int)) ∧ w' = w := by
 have mo := follows
 have m0 := block_cell (hE.at' _ (hxs (bm, .cells #[.map (some mm)] 102 (0, 0)) (by simp [EBN]))) 0
 obtain ⟨k1, k2⟩ := mlV_hit hn hx
 have l1 := hM.hit lawN Tryz.underlying102 (keyN hf.fits) k1 k2 true
 rw [if_pos rfl] at l1
 clear hE hM hn hx k1 k2 hxs
 go_enter Tryz.func104, Tryz.ntmps104
 go_wp2_with fail
 go_ret
 exact ⟨rfl, rfl⟩
set_option maxHeartbeats 4000000 in
theorem of_missN {m : Nat} (hV : Mono n lv M A Val) (h0 : Tbl n lv z0 T0) (h0l : T0.rows.length ≤ 274877906944) (hJ : JoinOKN n lv M A K T0 Val xs mm tb ca cb cc) (hxs : ∀ p ∈ EBN tb bm bt bj bo mm ca cb cc, p ∈ xs) (hI : OfOKN n lv M A K m T0 Val xs mm tb bm bt bj bo) (w : World) (L : Ly) (T : Tb) (ml : List (Nat × Nat)) (f : Nat) (h : TAt w tb L T) (hm : Mid n lv M A T) (hT : More T0 T) (hE : Env xs mm w L) (hM : MapIs 32 w mm (mlV ml)) (hS : MS Val T ml) (hf : Live T0 f) (h2 : 2 ≤ f) (hk : n ≤ rk lv T0 f + (m + 1)) (hc : A + T.fresh.length + (2 ^ (m + 1) - 1) * K ≤ M) (hx : ∀ p ∈ ml, p.1 ≠ f) :
 Calls Tryz.prog 104 #[.int .i64 (f : Int), .pointer (some ⟨bm, 0, none⟩), .pointer (some ⟨bt, 0, none⟩), .pointer (some ⟨bj, 0, none⟩), .pointer (some ⟨bo, 0, none⟩)] w fun e w' => ∃ (v : Nat) (T' : Tb) (L' : Ly) (ml' : List (Nat × Nat)), e = .returned (.int .i64 (v : Int)) ∧ TAt w' tb L' T' ∧ FrM mm L L' w w' ∧ MapIs 32 w' mm (mlV ml') ∧ OfP n lv M A K (m + 1) T0 Val T ml f T' ml' v := by
 obtain ⟨r, hr, hd⟩ := id hf
 obtain ⟨q, hq, ea, el, eh, _⟩ := hT.keep f r hr hd
 obtain ⟨_, _, _, a4, a5, a6, a7⟩ := h0.inv.nd f r h2 hr hd
 have hfs : Sm f := by have := hf.lt; unfold Sm; omega
 have hbm := hE.at' _ (hxs (bm, .cells #[.map (some mm)] 102 (0, 0)) (by simp [EBN]))
 have hbt := hE.at' _ (hxs (bt, .cells #[.pointer (some ⟨tb, 0, none⟩)] 36 (0, 0)) (by simp [EBN]))
 have m0 := block_cell hbm 0
 have t0 := block_cell hbt 0
 obtain ⟨g, cap, G⟩ := h.rowsG hq
 have b2 := h.b2 G
 have hfl := lt_of_at hq
 have hf0 : (0 : Int) ≤ (f : Int) := by omega
 have c0 := G.c0 hq
 have c1 := G.c1 hq
 have c2 := G.c2 hq
 rw [ea] at c0
 rw [el] at c1
 rw [eh] at c2
 have l1 := hM.miss lawN Tryz.underlying102 (zeroN w) (keyN hfs.fits) (mlV_ne hx) true
 rw [if_pos rfl] at l1
 have hcs := cost_step m K
 have HC1 : Hid (∀ (W : World), TAt W tb L T → Env xs mm W L → MapIs 32 W mm (mlV ml) → Calls _ _ _ _ _) := fun W hW hEW hMW => hI W L T ml r.low hW hm hT hEW hMW hS a4 (by omega) (by omega)
 have HC2 : Hid (∀ (W : World) (L1 : Ly) (T1 : Tb) (ml1 : List (Nat × Nat)) (v1 : Nat), TAt W tb L1 T1 → Env xs mm W L1 → MapIs 32 W mm (mlV ml1) → OfP n lv M A K m T0 Val T ml r.low T1 ml1 v1 → Calls _ _ _ _ _) := fun W L1 T1 ml1 v1 hW hEW hMW hO => hI W L1 T1 ml1 r.high hW hO.mid (hT.trans hO.more) hEW hMW hO.ms a5 (by omega) (by have := hO.cost; omega)
 have HC3 : Hid (∀ (W : World) (L1 : Ly) (T1 T2 : Tb) (ml1 ml2 : List (Nat × Nat)) (v1 v2 : Nat), TAt W tb L1 T2 → Env xs mm W L1 → OfP n lv M A K m T0 Val T ml r.low T1 ml1 v1 → OfP n lv M A K m T0 Val T1 ml1 r.high T2 ml2 v2 → Calls _ _ _ _ _) := fun W L1 T1 T2 ml1 ml2 v1 v2 hW hEW hO hP => hJ W L1 T2 f r v1 v2 h2 hr hd hW hP.mid ((hT.trans hO.more).trans hP.more) hEW (hV T1 T2 _ _ hO.mid hP.more hO.val) hP.val (by have := hO.cost; have := hP.cost; omega)
 have HMAIN : Hid (∀ (T1 T2 T3 : Tb) (ml1 ml2 : List (Nat × Nat)) (v1 v2 v : Nat), OfP n lv M A K m T0 Val T ml r.low T1 ml1 v1 → OfP n lv M A K m T0 Val T1 ml1 r.high T2 ml2 v2 → JoinP n lv M A K Val T2 f T3 v → OfP n lv M A K (m + 1) T0 Val T ml f T3 (ml2 ++ [(f, v)]) v ∧ ∀ p ∈ ml2, p.1 ≠ f) := fun T1 T2 T3 ml1 ml2 v1 v2 v H1 H2 H3 => ⟨OfP.main hV h0 hr hd h2 hfs hx H1 H2 H3, OfP.absent h0 hr hd h2 hx H1 H2⟩
 have HK : Hid (Sm f) := hfs
 have HXS : Hid (∀ p ∈ EBN tb bm bt bj bo mm ca cb cc, p ∈ xs) := hxs
 obtain ⟨rl, hrl⟩ : ∃ rl, r.low = rl := ⟨_, rfl⟩
 obtain ⟨rh, hrh⟩ : ∃ rh, r.high = rh := ⟨_, rfl⟩
 obtain ⟨ra, hra⟩ : ∃ ra, r.about = ra := ⟨_, rfl⟩
 rw [hrl] at c1
 rw [hrh] at c2
 rw [hra] at c0
 rw [hrl] at HC1 HC2 HC3 HMAIN
 rw [hrh] at HC2 HC3 HMAIN
 rw [hra] at HC3
 have HX : Hid (TAt (w.alloc (.cells #[.int .i64 ra, .int .i64 (rl : Int), .int .i64 (rh : Int)] 89)) tb L T) := h.alloc _
 have HF : Hid (FrM mm L L w (w.alloc (.cells #[.int .i64 ra, .int .i64 (rl : Int), .int .i64 (rh : Int)] 89))) := FrM.grew ((Fr.refl _ w).alloc _)
 have HE : Hid (Env xs mm (w.alloc (.cells #[.int .i64 ra, .int .i64 (rl : Int), .int .i64 (rh : Int)] 89)) L) := hE.fr HF.out
 have HM : Hid (MapIs 32 (w.alloc (.cells #[.int .i64 ra, .int .i64 (rl : Int), .int .i64 (rh : Int)] 89)) mm (mlV ml)) := hM.of (heap_old hM.lt)
 have HB : Hid ((w.alloc (.cells #[.int .i64 ra, .int .i64 (rl : Int), .int .i64 (rh : Int)] 89)).heap[w.heap.size]? = some (.cells #[.int .i64 ra, .int .i64 (rl : Int), .int .i64 (rh : Int)] 89 (0, 0))) := heap_new rfl
 have hba0 := h.hi _ (Nat.le_refl _)
 have hbam : w.heap.size ≠ mm := by have := hE.lt; omega
 have mo := follows
 clear h hm hT hE hM hS hf hk hc hx hr hd hq ea el eh a4 a5 a6 a7 hfs hbm hbt G hcs hrl hrh hra hJ hI hV hxs h0 h0l h2
 go_enter Tryz.func104, Tryz.ntmps104
 go_wp2_with fail
 clear m0 t0 b2 c0 c1 c2 l1
 have HXd : Hid (TAt (w.alloc (.cells #[.int .i64 ra, .int .i64 (rl : Int), .int .i64 (rh : Int)] 89)).drew tb L T) := HX.out.drew
 have HFd : Hid (FrM mm L L w (w.alloc (.cells #[.int .i64 ra, .int .i64 (rl : Int), .int .i64 (rh : Int)] 89)).drew) := HF.out.trans (FrM.grew (Fr.refl _ _).drew)
 have HEd : Hid (Env xs mm (w.alloc (.cells #[.int .i64 ra, .int .i64 (rl : Int), .int .i64 (rh : Int)] 89)).drew L) := HE.out.fr (FrM.grew (Fr.refl _ _).drew)
 have HMd : Hid (MapIs 32 (w.alloc (.cells #[.int .i64 ra, .int .i64 (rl : Int), .int .i64 (rh : Int)] 89)).drew mm (mlV ml)) := HM.out.of rfl
 generalize (w.alloc (.cells #[.int .i64 ra, .int .i64 (rl : Int), .int .i64 (rh : Int)] 89)) = W at HE HB HXd HFd HEd HMd ⊢
 generalize w.heap.size = ba at HB hba0 hbam ⊢
 have HBA : Hid (L.own ba = 0 ∧ ba ≠ mm) := ⟨hba0, hbam⟩
 clear HX HF HM hba0 hbam hfl hf0
 have HBd : Hid (W.drew.heap[ba]? = some (.cells #[.int .i64 ra, .int .i64 (rl : Int), .int .i64 (rh : Int)] 89 (0, 0))) := HB.out
 have HJO : Hid (∀ (W' : World) (L' : Ly), Env xs mm W' L' → W'.cell? ⟨bj, 0, none⟩ = some (.func (.func 95) #[] #[.pointer (some ⟨ca, 0, none⟩), .pointer (some ⟨cb, 0, none⟩), .pointer (some ⟨cc, 0, none⟩)]) ∧ W'.cell? ⟨bo, 0, none⟩ = some (.func (.func 104) #[] #[.pointer (some ⟨bm, 0, none⟩), .pointer (some ⟨bt, 0, none⟩), .pointer (some ⟨bj, 0, none⟩), .pointer (some ⟨bo, 0, none⟩)]) ∧ W'.cell? ⟨bm, 0, none⟩ = some (.map (some mm))) := fun W' L' hE' =>
  ⟨block_cell (hE'.at' _ (HXS.out (bj, .cells #[.func (.func 95) #[] #[.pointer (some ⟨ca, 0, none⟩), .pointer (some ⟨cb, 0, none⟩), .pointer (some ⟨cc, 0, none⟩)]] 95 (0, 0)) (by simp [EBN]))) 0, block_cell (hE'.at' _ (HXS.out (bo, .cells #[.func (.func 104) #[] #[.pointer (some ⟨bm, 0, none⟩), .pointer (some ⟨bt, 0, none⟩), .pointer (some ⟨bj, 0, none⟩), .pointer (some ⟨bo, 0, none⟩)]] 60 (0, 0)) (by simp [EBN]))) 0, block_cell (hE'.at' _ (HXS.out (bm, .cells #[.map (some mm)] 102 (0, 0)) (by simp [EBN]))) 0⟩
 obtain ⟨x0, x1, -⟩ := HJO.out W L HE.out
 obtain ⟨y0, y1, -⟩ := HJO.out W.drew L HEd.out
 have x2 := block_cell HB.out 0
 have x3 := block_cell HB.out 1
 have x4 := block_cell HB.out 2
 have y2 := block_cell HBd.out 0
 have y3 := block_cell HBd.out 1
 have y4 := block_cell HBd.out 2
 clear HE HB
 go_wp2_with fail
 go_region_held3 (fun w' => w'.cell? ⟨bj, 0, none⟩ = some (.func (.func 95) #[] #[.pointer (some ⟨ca, 0, none⟩), .pointer (some ⟨cb, 0, none⟩), .pointer (some ⟨cc, 0, none⟩)]) ∧ w'.cell? ⟨bo, 0, none⟩ = some (.func (.func 104) #[] #[.pointer (some ⟨bm, 0, none⟩), .pointer (some ⟨bt, 0, none⟩), .pointer (some ⟨bj, 0, none⟩), .pointer (some ⟨bo, 0, none⟩)]) ∧ w'.cell? ⟨ba, 0, none⟩ = some (.int .i64 ra) ∧ w'.cell? ⟨ba, 1, none⟩ = some (.int .i64 (rl : Int)) ∧ w'.cell? ⟨ba, 2, none⟩ = some (.int .i64 (rh : Int))) (first | (refine ⟨?_, ?_, ?_, ?_, ?_⟩ <;> assumption) | go_keep)
  ((first | (go_at_call 104; refine (HC2.out _ _ _ _ _ X5.out E5.out M5.out O5.out).mono ?_; rintro e W6 ⟨v2, T2, L2, ml2, rfl, hX6, hF6, hM6, hO6⟩; have O6 : Hid (OfP n lv M A K m T0 Val T1 ml1 rh T2 ml2 v2) := hO6; have X6 : Hid (TAt W6 tb L2 T2) := hX6; have E6 : Hid (Env xs mm W6 L2) := E5.out.fr hF6; have M6 : Hid (MapIs 32 W6 mm (mlV ml2)) := hM6; have F6 : Hid (FrM mm L L2 w W6) := F5.out.trans hF6; have B6 : Hid (W6.heap[ba]? = _) := (hF6.block ba (block_lt B5.out) BA5.out.1 BA5.out.2).trans B5.out; have BA6 : Hid (L2.own ba = 0 ∧ ba ≠ mm) := ⟨(hF6.own ba (block_lt B5.out)).trans BA5.out.1, BA5.out.2⟩; obtain ⟨k0, k1, -⟩ := HJO.out W6 L2 E6.out; have k2 := block_cell B6.out 0; have k3 := block_cell B6.out 1; have k4 := block_cell B6.out 2; clear hX6 hF6 hM6 hO6) | (go_at_call 104; refine (HC1.out _ HXd.out HEd.out HMd.out).mono ?_; rintro e W5 ⟨v1, T1, L1, ml1, rfl, hX5, hF5, hM5, hO5⟩; have O5 : Hid (OfP n lv M A K m T0 Val T ml rl T1 ml1 v1) := hO5; have X5 : Hid (TAt W5 tb L1 T1) := hX5; have E5 : Hid (Env xs mm W5 L1) := HEd.out.fr hF5; have M5 : Hid (MapIs 32 W5 mm (mlV ml1)) := hM5; have F5 : Hid (FrM mm L L1 w W5) := HFd.out.trans hF5; have B5 : Hid (W5.heap[ba]? = _) := (hF5.block ba (block_lt HBd.out) HBA.out.1 HBA.out.2).trans HBd.out; have BA5 : Hid (L1.own ba = 0 ∧ ba ≠ mm) := ⟨(hF5.own ba (block_lt HBd.out)).trans HBA.out.1, HBA.out.2⟩; obtain ⟨z0', z1, -⟩ := HJO.out W5 L1 E5.out; have z2 := block_cell B5.out 0; have z3 := block_cell B5.out 1; have z4 := block_cell B5.out 2; clear hX5 hF5 hM5 hO5) | (go_at_call 95; refine (HC3.out _ _ _ _ _ _ _ _ X6.out E6.out O5.out O6.out).mono ?_; rintro e W7 ⟨v, T3, L3, rfl, hX7, hF7, hO7⟩; have O7 : Hid (JoinP n lv M A K Val T2 f T3 v) := hO7; have X7 : Hid (TAt W7 tb L3 T3) := hX7; have E7 : Hid (Env xs mm W7 L3) := E6.out.fr hF7.m; have M7 : Hid (MapIs 32 W7 mm (mlV ml2)) := M6.out.of (hF7.block mm M6.out.lt E6.out.om); have F7 : Hid (FrM mm L L3 w W7) := F6.out.trans hF7.m; have B7 : Hid (W7.heap[ba]? = _) := (hF7.block ba (block_lt B6.out) BA6.out.1).trans B6.out; obtain ⟨l0, l1, -⟩ := HJO.out W7 L3 E7.out; have l2 := block_cell B7.out 0; have l3 := block_cell B7.out 1; have l4 := block_cell B7.out 2; clear hX7 hF7 hO7)))
 obtain ⟨HEND, hab⟩ := HMAIN.out T1 T2 T3 ml1 ml2 v1 v2 v O5.out O6.out O7.out
 have HD : Hid (OfP n lv M A K (m + 1) T0 Val T ml f T3 (ml2 ++ [(f, v)]) v) := HEND
 obtain ⟨W8, p8, M8, f8, -⟩ := M7.out.put lawN Tryz.underlying102 (keyN HK.out.fits) (mlV_ne hab) (.int .i64 (v : Int))
 have HM8 : Hid (MapIs 32 W8 mm (mlV (ml2 ++ [(f, v)]))) := by rw [mlV_push]; exact M8
 have HX8 : Hid (TAt W8 tb L3 T3) := X7.out.besideM f8 E7.out.om
 have F8 : Hid (FrM mm L L3 w W8) := F7.out.trans (FrM.map f8)
 obtain ⟨-, -, m0⟩ := HJO.out W7 L3 E7.out
 clear x0 x1 x2 x3 x4 y0 y1 y2 y3 y4 z0' z1 z2 z3 z4 k0 k1 k2 k3 k4 l0 l1 l2 l3 l4 HC1 HC2 HC3 HMAIN HEND hab M8 f8 X7 E7 M7 F7 B7 O7 X6 E6 M6 F6 B6 BA6 O6 X5 E5 M5 F5 B5 BA5 O5 HXd HEd HMd HFd HBd HJO
 go_wp2_with fail
 go_ret
 exact ⟨v, T3, L3, _, rfl, HX8.out, F8.out, HM8.out, HD.out⟩
theorem of_okN (hV : Mono n lv M A Val) (h0 : Tbl n lv z0 T0) (h0l : T0.rows.length ≤ 274877906944) (hJ : JoinOKN n lv M A K T0 Val xs mm tb ca cb cc) (hxs : ∀ p ∈ EBN tb bm bt bj bo mm ca cb cc, p ∈ xs) : ∀ m, OfOKN n lv M A K m T0 Val xs mm tb bm bt bj bo := by
 intro m
 induction m with
 | zero =>
   intro w L T ml f h hm hT hE hM hS hf hk hc
   have hfe : rk lv T0 f = n := by have := h0.rle f hf; omega
   obtain ⟨v, hv⟩ : ∃ v, (f, v) ∈ ml := by
    rcases h0.last hf hfe with rfl | rfl
    · exact hS.k0
    · exact hS.k1
   refine (of_hitN hxs hE hM hS.nd (hS.val _ hv).2 hv).mono ?_
   rintro e w' ⟨rfl, rfl⟩
   exact ⟨v, T, L, ml, rfl, h, FrT.m (FrT.refl _ _), hM, OfP.hit hm hS hv⟩
 | succ m ih =>
   intro w L T ml f h hm hT hE hM hS hf hk hc
   by_cases hx : ∃ q ∈ ml, q.1 = f
   · obtain ⟨⟨a, v⟩, hv, rfl⟩ := hx
     refine (of_hitN hxs hE hM hS.nd (hS.val _ hv).2 hv).mono ?_
     rintro e w' ⟨rfl, rfl⟩
     exact ⟨v, T, L, ml, rfl, h, FrT.m (FrT.refl _ _), hM, OfP.hit hm hS hv⟩
   · have h2 : 2 ≤ f := by
      by_cases e0 : f = 0
      · subst e0; obtain ⟨a, ha⟩ := hS.k0; exact absurd ⟨_, ha, rfl⟩ hx
      by_cases e1 : f = 1
      · subst e1; obtain ⟨a, ha⟩ := hS.k1; exact absurd ⟨_, ha, rfl⟩ hx
      omega
     exact of_missN hV h0 h0l hJ hxs ih w L T ml f h hm hT hE hM hS hf h2 hk hc fun p hp e => hx ⟨p, hp, e⟩
end
end Go.Proofs.YtaakjjefnjbabaaGreat.Sx
