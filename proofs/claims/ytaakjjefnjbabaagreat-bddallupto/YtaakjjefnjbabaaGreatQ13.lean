/- Without some variables, joined by or. -/
import Derived.Test.YtaakjjefnjbabaaGreatQ12
import Derived.Deep.RegionWith
set_option maxRecDepth 100000
namespace Go.Proofs.YtaakjjefnjbabaaGreat.Sx
open Go.RowKit Go.Sort Go.Maps Go.WideMaps
def jnO (a b : Bool) : Bool := a || b
def exO (tb ca cb cc S : Nat) : List (Nat × Obj) := [(ca, .cells #[.int .u64 (S : Int)] 121 (0, 0)), (cb, .cells #[.func (.func 68) #[.pointer (some ⟨tb, 0, none⟩)] #[]] 61 (0, 0)), (cc, .cells #[.pointer (some ⟨tb, 0, none⟩)] 36 (0, 0))]
set_option maxHeartbeats 2000000 in
theorem joinO_ok {n : Nat} {lv : Nat → Nat} {M A S : Nat} {T0 : Tb} {xs : List (Nat × Obj)} {mm tb ca cb cc : Nat} {p0 : Nat → Nat} (h0 : Tbl n lv p0 T0) (hS : S < 33554432) (hxs : ∀ p ∈ exO tb ca cb cc S, p ∈ xs) : JoinOKN n lv M A (2 ^ n) T0 (WV S jnO n lv T0) xs mm tb ca cb cc := by
 intro W L T f r x y h2 hr hd hT hm hMo hE hx hy hroom
 have h24 := hm.n24
 have hp : 0 < 2 ^ n := Nat.two_pow_pos n
 obtain ⟨a1, a2, _, a4, a5, a6, a7⟩ := h0.inv.nd f r h2 hr hd
 obtain ⟨a, ha⟩ : ∃ a : Nat, r.about = (a : Int) := ⟨r.about.toNat, by omega⟩
 have han : a < n := by omega
 have c0 := block_cell (hE.at' _ (hxs (ca, .cells #[.int .u64 (S : Int)] 121 (0, 0)) (by simp [exO]))) 0
 have c1 := block_cell (hE.at' _ (hxs (cb, .cells #[.func (.func 68) #[.pointer (some ⟨tb, 0, none⟩)] #[]] 61 (0, 0)) (by simp [exO]))) 0
 have c2 := block_cell (hE.at' _ (hxs (cc, .cells #[.pointer (some ⟨tb, 0, none⟩)] 36 (0, 0)) (by simp [exO]))) 0
 have hrkf : rk lv T0 f = lv a := by rw [rk_at hr, ha, Int.toNat_natCast]
 have hHas : Hid (Calls _ _ _ _ _) := Has_any W S a hS (by omega)
 have hwv := fun σ => wv_node (S := S) (jn := jnO) h0 (p := p0) σ h2 hr hd
 rw [ha, Int.toNat_natCast] at hwv
 have hrx : rk lv T0 f < rk lv T x := Nat.lt_of_lt_of_le a6 hx.r
 have hry : rk lv T0 f < rk lv T y := Nat.lt_of_lt_of_le a7 hy.r
 rw [ha]
 have mo := follows
 cases hb : S.testBit a with
 | true =>
   rw [hb] at hHas
   have HW : Hid (∀ σ, wv S jnO (n + 1) T0 f σ = jnO (wv S jnO (n + 1) T0 r.low σ) (wv S jnO (n + 1) T0 r.high σ)) := fun σ => by rw [hwv σ, hb, if_pos rfl]
   have HC : Hid (Calls _ _ _ _ _) := or_ok hT hm x y hx.l hy.l (by omega)
   have HQ : Hid (∀ (T' : Tb) (v : Nat), IteP n lv M A n T x 1 y T' v → JoinP n lv M A (2 ^ n) (WV S jnO n lv T0) T f T' v) := fun T' v hN => ⟨hN.mid, hN.more, hN.gv, by have := hN.cost; omega, hN.live, fun σ => by
    rw [hN.val, HW.out σ, ← hx.val σ, ← hy.val σ]
    unfold iteF jnO
    rw [vl_one]
    cases vl n T x σ <;> cases vl n T y σ <;> rfl, hN.rank _ (Nat.le_of_lt hrx) (by rw [hm.t.r1]; exact h0.rle f ⟨r, hr, hd⟩) (Nat.le_of_lt hry)⟩
   clear h2 hr hd hT hm hMo hE hx hy hroom h24 hp a1 a2 a4 a5 a6 a7 ha han hrkf hwv hrx hry hb h0 hS hxs HW
   go_enter Tryz.func95, Tryz.ntmps95
   go_wp2_with fail
   refine hHas.out.mono ?_
   rintro e w' ⟨rfl, hw⟩; replace hw := hw.symm; subst hw
   go_wp2_with fail
   refine HC.out.mono ?_
   rintro e W1 ⟨v, T1, hN, rfl, L1, hX, hF⟩
   have HJ : Hid (JoinP n lv M A (2 ^ n) (WV S jnO n lv T0) T f T1 v) := HQ.out T1 v hN
   have X1 : Hid (TAt W1 tb L1 T1) := hX
   have F1 : Hid (FrT L L1 W W1) := hF
   clear hN hX hF HC HQ c0 c1 c2
   go_wp2_with fail
   go_ret
   exact ⟨v, T1, L1, rfl, X1.out, F1.out, HJ.out⟩
 | false =>
   rw [hb] at hHas
   have HW : Hid (∀ σ, wv S jnO (n + 1) T0 f σ = if σ a then wv S jnO (n + 1) T0 r.high σ else wv S jnO (n + 1) T0 r.low σ) := fun σ => by rw [hwv σ, hb, if_neg (by simp)]; split <;> rfl
   have HN : Hid (Calls _ _ _ _ _) := node_any (ab := a) (lo := x) (hh := y) hT hm han hx.l hy.l (by rw [← hrkf]; exact hrx) (by rw [← hrkf]; exact hry) (by omega)
   have HQ : Hid (∀ (T' : Tb) (v : Nat), NodeP n lv M A T a x y T' v → JoinP n lv M A (2 ^ n) (WV S jnO n lv T0) T f T' v) := fun T' v hN => ⟨hN.mid, hN.more, hN.gv, by have := hN.cost; omega, hN.live, fun σ => by rw [hN.val σ, HW.out σ, hx.val σ, hy.val σ], by rw [hrkf]; exact hN.rank⟩
   clear h2 hr hd hT hm hMo hE hx hy hroom h24 hp a1 a2 a4 a5 a6 a7 ha han hrkf hwv hrx hry hb h0 hS hxs HW
   go_enter Tryz.func95, Tryz.ntmps95
   go_wp2_with fail
   refine hHas.out.mono ?_
   rintro e w' ⟨rfl, hw⟩; replace hw := hw.symm; subst hw
   go_wp2_with fail
   refine HN.out.mono ?_
   rintro e W1 ⟨v, T1, hN, rfl, L1, hX, hF⟩
   have HJ : Hid (JoinP n lv M A (2 ^ n) (WV S jnO n lv T0) T f T1 v) := HQ.out T1 v hN
   have X1 : Hid (TAt W1 tb L1 T1) := hX
   have F1 : Hid (FrT L L1 W W1) := hF
   clear hN hX hF HN HQ c0 c1 c2
   go_wp2_with fail
   go_ret
   exact ⟨v, T1, L1, rfl, X1.out, F1.out, HJ.out⟩
end Go.Proofs.YtaakjjefnjbabaaGreat.Sx
namespace Go.Proofs.YtaakjjefnjbabaaGreat.Sx
open Go.RowKit Go.Sort Go.Maps Go.WideMaps
def jnA (a b : Bool) : Bool := a && b
def exA (tb ca cb cc S : Nat) : List (Nat × Obj) := [(ca, .cells #[.int .u64 (S : Int)] 121 (0, 0)), (cb, .cells #[.func (.func 67) #[.pointer (some ⟨tb, 0, none⟩)] #[]] 61 (0, 0)), (cc, .cells #[.pointer (some ⟨tb, 0, none⟩)] 36 (0, 0))]
set_option maxHeartbeats 2000000 in
theorem joinA_ok {n : Nat} {lv : Nat → Nat} {M A S : Nat} {T0 : Tb} {xs : List (Nat × Obj)} {mm tb ca cb cc : Nat} {p0 : Nat → Nat} (h0 : Tbl n lv p0 T0) (hS : S < 33554432) (hxs : ∀ p ∈ exA tb ca cb cc S, p ∈ xs) : JoinOKN n lv M A (2 ^ n) T0 (WV S jnA n lv T0) xs mm tb ca cb cc := by
 intro W L T f r x y h2 hr hd hT hm hMo hE hx hy hroom
 have h24 := hm.n24
 have hp : 0 < 2 ^ n := Nat.two_pow_pos n
 obtain ⟨a1, a2, _, a4, a5, a6, a7⟩ := h0.inv.nd f r h2 hr hd
 obtain ⟨a, ha⟩ : ∃ a : Nat, r.about = (a : Int) := ⟨r.about.toNat, by omega⟩
 have han : a < n := by omega
 have c0 := block_cell (hE.at' _ (hxs (ca, .cells #[.int .u64 (S : Int)] 121 (0, 0)) (by simp [exA]))) 0
 have c1 := block_cell (hE.at' _ (hxs (cb, .cells #[.func (.func 67) #[.pointer (some ⟨tb, 0, none⟩)] #[]] 61 (0, 0)) (by simp [exA]))) 0
 have c2 := block_cell (hE.at' _ (hxs (cc, .cells #[.pointer (some ⟨tb, 0, none⟩)] 36 (0, 0)) (by simp [exA]))) 0
 have hrkf : rk lv T0 f = lv a := by rw [rk_at hr, ha, Int.toNat_natCast]
 have hHas : Hid (Calls _ _ _ _ _) := Has_any W S a hS (by omega)
 have hwv := fun σ => wv_node (S := S) (jn := jnA) h0 (p := p0) σ h2 hr hd
 rw [ha, Int.toNat_natCast] at hwv
 have hrx : rk lv T0 f < rk lv T x := Nat.lt_of_lt_of_le a6 hx.r
 have hry : rk lv T0 f < rk lv T y := Nat.lt_of_lt_of_le a7 hy.r
 rw [ha]
 have mo := follows
 cases hb : S.testBit a with
 | true =>
   rw [hb] at hHas
   have HW : Hid (∀ σ, wv S jnA (n + 1) T0 f σ = jnA (wv S jnA (n + 1) T0 r.low σ) (wv S jnA (n + 1) T0 r.high σ)) := fun σ => by rw [hwv σ, hb, if_pos rfl]
   have HC : Hid (Calls _ _ _ _ _) := and_ok hT hm x y hx.l hy.l (by omega)
   have HQ : Hid (∀ (T' : Tb) (v : Nat), IteP n lv M A n T x y 0 T' v → JoinP n lv M A (2 ^ n) (WV S jnA n lv T0) T f T' v) := fun T' v hN => ⟨hN.mid, hN.more, hN.gv, by have := hN.cost; omega, hN.live, fun σ => by
    rw [hN.val, HW.out σ, ← hx.val σ, ← hy.val σ]
    unfold iteF jnA
    rw [vl_zero]
    cases vl n T x σ <;> cases vl n T y σ <;> rfl, hN.rank _ (Nat.le_of_lt hrx) (Nat.le_of_lt hry) (by rw [hm.t.r0]; exact h0.rle f ⟨r, hr, hd⟩)⟩
   clear h2 hr hd hT hm hMo hE hx hy hroom h24 hp a1 a2 a4 a5 a6 a7 ha han hrkf hwv hrx hry hb h0 hS hxs HW
   go_enter Tryz.func95, Tryz.ntmps95
   go_wp2_with fail
   refine hHas.out.mono ?_
   rintro e w' ⟨rfl, hw⟩; replace hw := hw.symm; subst hw
   go_wp2_with fail
   refine HC.out.mono ?_
   rintro e W1 ⟨v, T1, hN, rfl, L1, hX, hF⟩
   have HJ : Hid (JoinP n lv M A (2 ^ n) (WV S jnA n lv T0) T f T1 v) := HQ.out T1 v hN
   have X1 : Hid (TAt W1 tb L1 T1) := hX
   have F1 : Hid (FrT L L1 W W1) := hF
   clear hN hX hF HC HQ c0 c1 c2
   go_wp2_with fail
   go_ret
   exact ⟨v, T1, L1, rfl, X1.out, F1.out, HJ.out⟩
 | false =>
   rw [hb] at hHas
   have HW : Hid (∀ σ, wv S jnA (n + 1) T0 f σ = if σ a then wv S jnA (n + 1) T0 r.high σ else wv S jnA (n + 1) T0 r.low σ) := fun σ => by rw [hwv σ, hb, if_neg (by simp)]; split <;> rfl
   have HN : Hid (Calls _ _ _ _ _) := node_any (ab := a) (lo := x) (hh := y) hT hm han hx.l hy.l (by rw [← hrkf]; exact hrx) (by rw [← hrkf]; exact hry) (by omega)
   have HQ : Hid (∀ (T' : Tb) (v : Nat), NodeP n lv M A T a x y T' v → JoinP n lv M A (2 ^ n) (WV S jnA n lv T0) T f T' v) := fun T' v hN => ⟨hN.mid, hN.more, hN.gv, by have := hN.cost; omega, hN.live, fun σ => by rw [hN.val σ, HW.out σ, hx.val σ, hy.val σ], by rw [hrkf]; exact hN.rank⟩
   clear h2 hr hd hT hm hMo hE hx hy hroom h24 hp a1 a2 a4 a5 a6 a7 ha han hrkf hwv hrx hry hb h0 hS hxs HW
   go_enter Tryz.func95, Tryz.ntmps95
   go_wp2_with fail
   refine hHas.out.mono ?_
   rintro e w' ⟨rfl, hw⟩; replace hw := hw.symm; subst hw
   go_wp2_with fail
   refine HN.out.mono ?_
   rintro e W1 ⟨v, T1, hN, rfl, L1, hX, hF⟩
   have HJ : Hid (JoinP n lv M A (2 ^ n) (WV S jnA n lv T0) T f T1 v) := HQ.out T1 v hN
   have X1 : Hid (TAt W1 tb L1 T1) := hX
   have F1 : Hid (FrT L L1 W W1) := hF
   clear hN hX hF HN HQ c0 c1 c2
   go_wp2_with fail
   go_ret
   exact ⟨v, T1, L1, rfl, X1.out, F1.out, HJ.out⟩
end Go.Proofs.YtaakjjefnjbabaaGreat.Sx
namespace Go.Proofs.YtaakjjefnjbabaaGreat.Sx
open Go.RowKit Go.Sort Go.Maps Go.WideMaps
def jnL (a _ : Bool) : Bool := a
def exL (tb ca cb cc S : Nat) : List (Nat × Obj) := [(ca, .cells #[.int .u64 (S : Int)] 121 (0, 0)), (cb, .cells #[.func (.func 71) #[] #[]] 61 (0, 0)), (cc, .cells #[.pointer (some ⟨tb, 0, none⟩)] 36 (0, 0))]
set_option maxHeartbeats 1000000 in
theorem pickL_any (w : World) (x y : Nat) : Calls Tryz.prog 71 #[.int .i64 (x : Int), .int .i64 (y : Int)] w fun e w' => e = .returned (.int .i64 (x : Int)) ∧ w' = w := by
 have mo := follows
 go_enter Tryz.func71, Tryz.ntmps71
 go_wp2_with fail
 go_ret
 exact ⟨rfl, rfl⟩
set_option maxHeartbeats 2000000 in
theorem joinL_ok {n : Nat} {lv : Nat → Nat} {M A S : Nat} {T0 : Tb} {xs : List (Nat × Obj)} {mm tb ca cb cc : Nat} {p0 : Nat → Nat} (h0 : Tbl n lv p0 T0) (hS : S < 33554432) (hxs : ∀ p ∈ exL tb ca cb cc S, p ∈ xs) : JoinOKN n lv M A (2 ^ n) T0 (WV S jnL n lv T0) xs mm tb ca cb cc := by
 intro W L T f r x y h2 hr hd hT hm hMo hE hx hy hroom
 have h24 := hm.n24
 have hp : 0 < 2 ^ n := Nat.two_pow_pos n
 obtain ⟨a1, a2, _, a4, a5, a6, a7⟩ := h0.inv.nd f r h2 hr hd
 obtain ⟨a, ha⟩ : ∃ a : Nat, r.about = (a : Int) := ⟨r.about.toNat, by omega⟩
 have han : a < n := by omega
 have c0 := block_cell (hE.at' _ (hxs (ca, .cells #[.int .u64 (S : Int)] 121 (0, 0)) (by simp [exL]))) 0
 have c1 := block_cell (hE.at' _ (hxs (cb, .cells #[.func (.func 71) #[] #[]] 61 (0, 0)) (by simp [exL]))) 0
 have c2 := block_cell (hE.at' _ (hxs (cc, .cells #[.pointer (some ⟨tb, 0, none⟩)] 36 (0, 0)) (by simp [exL]))) 0
 have hrkf : rk lv T0 f = lv a := by rw [rk_at hr, ha, Int.toNat_natCast]
 have hHas : Hid (Calls _ _ _ _ _) := Has_any W S a hS (by omega)
 have hwv := fun σ => wv_node (S := S) (jn := jnL) h0 (p := p0) σ h2 hr hd
 rw [ha, Int.toNat_natCast] at hwv
 have hrx : rk lv T0 f < rk lv T x := Nat.lt_of_lt_of_le a6 hx.r
 have hry : rk lv T0 f < rk lv T y := Nat.lt_of_lt_of_le a7 hy.r
 rw [ha]
 have mo := follows
 cases hb : S.testBit a with
 | true =>
   rw [hb] at hHas
   have HW : Hid (∀ σ, wv S jnL (n + 1) T0 f σ = jnL (wv S jnL (n + 1) T0 r.low σ) (wv S jnL (n + 1) T0 r.high σ)) := fun σ => by rw [hwv σ, hb, if_pos rfl]
   have HC : Hid (Calls _ _ _ _ _) := pickL_any W x y
   have HJ : Hid (JoinP n lv M A (2 ^ n) (WV S jnL n lv T0) T f T x) := ⟨hm, More.refl T, fun _ h => h, by omega, hx.l, fun σ => by rw [HW.out σ, hx.val σ]; rfl, Nat.le_of_lt hrx⟩
   have HT : Hid (TAt W tb L T) := hT
   clear h2 hr hd hT hm hMo hE hx hy hroom h24 hp a1 a2 a4 a5 a6 a7 ha han hrkf hwv hrx hry hb h0 hS hxs HW
   go_enter Tryz.func95, Tryz.ntmps95
   go_wp2_with fail
   refine hHas.out.mono ?_
   rintro e w' ⟨rfl, hw⟩; replace hw := hw.symm; subst hw
   go_wp2_with fail
   refine HC.out.mono ?_
   rintro e w' ⟨rfl, hw⟩; replace hw := hw.symm; subst hw
   go_wp2_with fail
   go_ret
   exact ⟨x, T, L, rfl, HT.out, FrT.refl _ _, HJ.out⟩
 | false =>
   rw [hb] at hHas
   have HW : Hid (∀ σ, wv S jnL (n + 1) T0 f σ = if σ a then wv S jnL (n + 1) T0 r.high σ else wv S jnL (n + 1) T0 r.low σ) := fun σ => by rw [hwv σ, hb, if_neg (by simp)]; split <;> rfl
   have HN : Hid (Calls _ _ _ _ _) := node_any (ab := a) (lo := x) (hh := y) hT hm han hx.l hy.l (by rw [← hrkf]; exact hrx) (by rw [← hrkf]; exact hry) (by omega)
   have HQ : Hid (∀ (T' : Tb) (v : Nat), NodeP n lv M A T a x y T' v → JoinP n lv M A (2 ^ n) (WV S jnL n lv T0) T f T' v) := fun T' v hN => ⟨hN.mid, hN.more, hN.gv, by have := hN.cost; omega, hN.live, fun σ => by rw [hN.val σ, HW.out σ, hx.val σ, hy.val σ], by rw [hrkf]; exact hN.rank⟩
   clear h2 hr hd hT hm hMo hE hx hy hroom h24 hp a1 a2 a4 a5 a6 a7 ha han hrkf hwv hrx hry hb h0 hS hxs HW
   go_enter Tryz.func95, Tryz.ntmps95
   go_wp2_with fail
   refine hHas.out.mono ?_
   rintro e w' ⟨rfl, hw⟩; replace hw := hw.symm; subst hw
   go_wp2_with fail
   refine HN.out.mono ?_
   rintro e W1 ⟨v, T1, hN, rfl, L1, hX, hF⟩
   have HJ : Hid (JoinP n lv M A (2 ^ n) (WV S jnL n lv T0) T f T1 v) := HQ.out T1 v hN
   have X1 : Hid (TAt W1 tb L1 T1) := hX
   have F1 : Hid (FrT L L1 W W1) := hF
   clear hN hX hF HN HQ c0 c1 c2
   go_wp2_with fail
   go_ret
   exact ⟨v, T1, L1, rfl, X1.out, F1.out, HJ.out⟩
end Go.Proofs.YtaakjjefnjbabaaGreat.Sx
namespace Go.Proofs.YtaakjjefnjbabaaGreat.Sx
open Go.RowKit Go.Sort Go.Maps Go.WideMaps
def jnH (_ b : Bool) : Bool := b
def exH (tb ca cb cc S : Nat) : List (Nat × Obj) := [(ca, .cells #[.int .u64 (S : Int)] 121 (0, 0)), (cb, .cells #[.func (.func 72) #[] #[]] 61 (0, 0)), (cc, .cells #[.pointer (some ⟨tb, 0, none⟩)] 36 (0, 0))]
set_option maxHeartbeats 1000000 in
theorem pickH_any (w : World) (x y : Nat) : Calls Tryz.prog 72 #[.int .i64 (x : Int), .int .i64 (y : Int)] w fun e w' => e = .returned (.int .i64 (y : Int)) ∧ w' = w := by
 have mo := follows
 go_enter Tryz.func72, Tryz.ntmps72
 go_wp2_with fail
 go_ret
 exact ⟨rfl, rfl⟩
set_option maxHeartbeats 2000000 in
theorem joinH_ok {n : Nat} {lv : Nat → Nat} {M A S : Nat} {T0 : Tb} {xs : List (Nat × Obj)} {mm tb ca cb cc : Nat} {p0 : Nat → Nat} (h0 : Tbl n lv p0 T0) (hS : S < 33554432) (hxs : ∀ p ∈ exH tb ca cb cc S, p ∈ xs) : JoinOKN n lv M A (2 ^ n) T0 (WV S jnH n lv T0) xs mm tb ca cb cc := by
 intro W L T f r x y h2 hr hd hT hm hMo hE hx hy hroom
 have h24 := hm.n24
 have hp : 0 < 2 ^ n := Nat.two_pow_pos n
 obtain ⟨a1, a2, _, a4, a5, a6, a7⟩ := h0.inv.nd f r h2 hr hd
 obtain ⟨a, ha⟩ : ∃ a : Nat, r.about = (a : Int) := ⟨r.about.toNat, by omega⟩
 have han : a < n := by omega
 have c0 := block_cell (hE.at' _ (hxs (ca, .cells #[.int .u64 (S : Int)] 121 (0, 0)) (by simp [exH]))) 0
 have c1 := block_cell (hE.at' _ (hxs (cb, .cells #[.func (.func 72) #[] #[]] 61 (0, 0)) (by simp [exH]))) 0
 have c2 := block_cell (hE.at' _ (hxs (cc, .cells #[.pointer (some ⟨tb, 0, none⟩)] 36 (0, 0)) (by simp [exH]))) 0
 have hrkf : rk lv T0 f = lv a := by rw [rk_at hr, ha, Int.toNat_natCast]
 have hHas : Hid (Calls _ _ _ _ _) := Has_any W S a hS (by omega)
 have hwv := fun σ => wv_node (S := S) (jn := jnH) h0 (p := p0) σ h2 hr hd
 rw [ha, Int.toNat_natCast] at hwv
 have hrx : rk lv T0 f < rk lv T x := Nat.lt_of_lt_of_le a6 hx.r
 have hry : rk lv T0 f < rk lv T y := Nat.lt_of_lt_of_le a7 hy.r
 rw [ha]
 have mo := follows
 cases hb : S.testBit a with
 | true =>
   rw [hb] at hHas
   have HW : Hid (∀ σ, wv S jnH (n + 1) T0 f σ = jnH (wv S jnH (n + 1) T0 r.low σ) (wv S jnH (n + 1) T0 r.high σ)) := fun σ => by rw [hwv σ, hb, if_pos rfl]
   have HC : Hid (Calls _ _ _ _ _) := pickH_any W x y
   have HJ : Hid (JoinP n lv M A (2 ^ n) (WV S jnH n lv T0) T f T y) := ⟨hm, More.refl T, fun _ h => h, by omega, hy.l, fun σ => by rw [HW.out σ, hy.val σ]; rfl, Nat.le_of_lt hry⟩
   have HT : Hid (TAt W tb L T) := hT
   clear h2 hr hd hT hm hMo hE hx hy hroom h24 hp a1 a2 a4 a5 a6 a7 ha han hrkf hwv hrx hry hb h0 hS hxs HW
   go_enter Tryz.func95, Tryz.ntmps95
   go_wp2_with fail
   refine hHas.out.mono ?_
   rintro e w' ⟨rfl, hw⟩; replace hw := hw.symm; subst hw
   go_wp2_with fail
   refine HC.out.mono ?_
   rintro e w' ⟨rfl, hw⟩; replace hw := hw.symm; subst hw
   go_wp2_with fail
   go_ret
   exact ⟨y, T, L, rfl, HT.out, FrT.refl _ _, HJ.out⟩
 | false =>
   rw [hb] at hHas
   have HW : Hid (∀ σ, wv S jnH (n + 1) T0 f σ = if σ a then wv S jnH (n + 1) T0 r.high σ else wv S jnH (n + 1) T0 r.low σ) := fun σ => by rw [hwv σ, hb, if_neg (by simp)]; split <;> rfl
   have HN : Hid (Calls _ _ _ _ _) := node_any (ab := a) (lo := x) (hh := y) hT hm han hx.l hy.l (by rw [← hrkf]; exact hrx) (by rw [← hrkf]; exact hry) (by omega)
   have HQ : Hid (∀ (T' : Tb) (v : Nat), NodeP n lv M A T a x y T' v → JoinP n lv M A (2 ^ n) (WV S jnH n lv T0) T f T' v) := fun T' v hN => ⟨hN.mid, hN.more, hN.gv, by have := hN.cost; omega, hN.live, fun σ => by rw [hN.val σ, HW.out σ, hx.val σ, hy.val σ], by rw [hrkf]; exact hN.rank⟩
   clear h2 hr hd hT hm hMo hE hx hy hroom h24 hp a1 a2 a4 a5 a6 a7 ha han hrkf hwv hrx hry hb h0 hS hxs HW
   go_enter Tryz.func95, Tryz.ntmps95
   go_wp2_with fail
   refine hHas.out.mono ?_
   rintro e w' ⟨rfl, hw⟩; replace hw := hw.symm; subst hw
   go_wp2_with fail
   refine HN.out.mono ?_
   rintro e W1 ⟨v, T1, hN, rfl, L1, hX, hF⟩
   have HJ : Hid (JoinP n lv M A (2 ^ n) (WV S jnH n lv T0) T f T1 v) := HQ.out T1 v hN
   have X1 : Hid (TAt W1 tb L1 T1) := hX
   have F1 : Hid (FrT L L1 W W1) := hF
   clear hN hX hF HN HQ c0 c1 c2
   go_wp2_with fail
   go_ret
   exact ⟨v, T1, L1, rfl, X1.out, F1.out, HJ.out⟩
end Go.Proofs.YtaakjjefnjbabaaGreat.Sx
namespace Go.Proofs.YtaakjjefnjbabaaGreat.Sx
open Go.RowKit Go.Sort Go.Maps Go.WideMaps
structure IntsV (w : World) (p : Option Addr) (vs : List Int) : Prop where
 cell : ∀ (i : Nat) (x : Int), vs[i]? = some x → ∃ q : Addr, p = some q ∧ w.cell? (q.add i) = some (.int .i64 x)
theorem IntsV.of {w w' : World} {p : Option Addr} {vs : List Int} (h : IntsV w p vs) (f : Fr (fun _ => True) w w') : IntsV w' p vs := ⟨fun i x hx => by
 obtain ⟨q, e, hc⟩ := h.cell i x hx
 exact ⟨q, e, (World.cell?_of_block (w := w) (f.block _ (World.block_lt_of_cell? w _ hc) trivial)).trans hc⟩⟩
def exJ (jv : Value) (tb ca cb cc S : Nat) : List (Nat × Obj) := [(ca, .cells #[.int .u64 (S : Int)] 121 (0, 0)), (cb, .cells #[jv] 61 (0, 0)), (cc, .cells #[.pointer (some ⟨tb, 0, none⟩)] 36 (0, 0))]
structure WoutP (n : Nat) (lv : Nat → Nat) (M A : Nat) (T : Tb) (S : Nat) (jn : Bool → Bool → Bool) (f : Nat) (T' : Tb) (v : Nat) : Prop where
 mid : Mid n lv M A T'
 more : More T T'
 gv : ∀ y, Giv T' y → Giv T y
 cost : T'.fresh.length ≤ T.fresh.length + (2 ^ n - 1) * 2 ^ n
 live : Live T' v
 val : ∀ σ, vl n T' v σ = wv S jn (n + 1) T f σ
 rank : rk lv T f ≤ rk lv T' v
theorem or_pow (s i : Nat) (hs : s < 33554432) (hi : i < 25) : bits .or .u64 (s : Int) ((2 ^ i : Nat) : Int) = ((s ||| 2 ^ i : Nat) : Int) :=
 bits_or_u64_nat s (2 ^ i) (by omega) (by have := pow25 hi; omega)
set_option maxHeartbeats 4000000 in
theorem without_any {w : World} {tb : Nat} {L : Ly} {T : Tb} {n : Nat} {lv : Nat → Nat} {M A : Nat} (h : TAt w tb L T) (hm : Mid n lv M A T) (f : Nat) (hf : Live T f) (p : Option Addr) (vs : List Int) (c : Nat) (hv : IntsV w p vs) (hvl : vs.length ≤ 1099511627776) (jf : Fn) (ja : Array Value) (jb : Array Value) (jn : Bool → Bool → Bool)
 (hJ : ∀ (ca cb cc mm : Nat) (xs : List (Nat × Obj)), (∀ q ∈ exJ (.func jf ja jb) tb ca cb cc (goneS n vs 0), q ∈ xs) → JoinOKN n lv M A (2 ^ n) T (WV (goneS n vs 0) jn n lv T) xs mm tb ca cb cc)
 (hc : A + T.fresh.length + (2 ^ n - 1) * 2 ^ n ≤ M) :
 Calls Tryz.prog 69 #[.pointer (some ⟨tb, 0, none⟩), .int .i64 (f : Int), .slice p vs.length c, .func jf ja jb] w fun e w' => ∃ (v : Nat) (T' : Tb) (L' : Ly), e = .returned (.int .i64 (v : Int)) ∧ TAt w' tb L' T' ∧ FrT L L' w w' ∧ WoutP n lv M A T (goneS n vs 0) jn f T' v := by
 obtain ⟨an, han⟩ : ∃ an, vs.length = an := ⟨_, rfl⟩
 obtain ⟨S, hS⟩ : ∃ S, goneS n vs 0 = S := ⟨_, rfl⟩
 have hanl : an ≤ 1099511627776 := by rw [← han]; exact hvl
 rw [han]
 rw [hS] at hJ ⊢
 have hfl := hf
 have h24 := hm.n24
 have hord : T.ord.length = n := hm.t.inv.on
 obtain ⟨W0, hW0⟩ : ∃ W0, (((w.alloc (.cells #[.pointer (some ⟨tb, 0, none⟩)] 36)).alloc (.cells #[.func jf ja jb] 61)).alloc (.cells #[.int .u64 0] 121)) = W0 := ⟨_, rfl⟩
 have fW : Fr (fun _ => True) w W0 := by rw [← hW0]; exact (((Fr.refl _ w).alloc _).alloc _).alloc _
 have t0 : W0.heap[w.heap.size]? = some (.cells #[.pointer (some ⟨tb, 0, none⟩)] 36 (0, 0)) := by
  rw [← hW0]; exact ((((Fr.refl (fun _ => True) _).alloc _).alloc _).block _ (by simp) trivial).trans (heap_new rfl)
 have j0 : W0.heap[w.heap.size + 1]? = some (.cells #[.func jf ja jb] 61 (0, 0)) := by
  rw [← hW0]; exact (((Fr.refl (fun _ => True) _).alloc _).block _ (by simp) trivial).trans (heap_new (by simp))
 have g0 : W0.heap[w.heap.size + 1 + 1]? = some (.cells #[.int .u64 0] 121 (0, 0)) := by
  rw [← hW0]; exact heap_new (by simp)
 have HX : Hid (TAt w tb L T) := h
 have HV : Hid (IntsV w p vs) := hv
 have HS : Hid (goneS n vs 0 = S) := hS
 have HORD : Hid (T.ord.length = n) := hord
 have H24 : Hid (n ≤ 24) := h24
 have HAN : Hid (vs.length = an) := han
 have HFW : Hid (Fr (fun _ => True) w W0) := fW
 have T0 : Hid (_ = _) := t0
 have J0 : Hid (_ = _) := j0
 have G0 : Hid (_ = _) := g0
 have HFIN : Hid (∀ (W : World), Fr (fun _ => True) w W → W.heap[w.heap.size]? = some (.cells #[.pointer (some ⟨tb, 0, none⟩)] 36 (0, 0)) → W.heap[w.heap.size + 1]? = some (.cells #[.func jf ja jb] 61 (0, 0)) → W.heap[w.heap.size + 1 + 1]? = some (.cells #[.int .u64 (S : Int)] 121 (0, 0)) → Calls _ _ _ _ _) := fun W hF q0 q1 q2 =>
  fold_anyN (ex := exJ (.func jf ja jb) tb (w.heap.size + 1 + 1) (w.heap.size + 1) w.heap.size S) (h.grew hF) hm WV.mono (fun q hq => by
   unfold exJ at hq
   simp only [List.mem_cons, List.not_mem_nil, or_false] at hq
   rcases hq with rfl | rfl | rfl
   · exact ⟨q2, h.hi _ (by show w.heap.size ≤ w.heap.size + 1 + 1; omega)⟩
   · exact ⟨q1, h.hi _ (by show w.heap.size ≤ w.heap.size + 1; omega)⟩
   · exact ⟨q0, h.hi _ (Nat.le_refl _)⟩) (fun bm bt bj bo mm => hJ _ _ _ mm _ fun q hq => List.mem_append.2 (.inr hq)) f 0 1 hfl (WV.zero hm.t) (WV.one hm.t) hc
 have mo := follows
 clear h hm hf hv hJ hc hfl h24 hord fW t0 j0 g0 hS han hvl
 go_enter Tryz.func69, Tryz.ntmps69
 go_wp2_with fail
 clear hW0
 go_loopg [14] an (fun k s14 wr => ∃ (j s : Nat), s14 = .int .i64 (j : Int) ∧ j + k = an ∧ s < 33554432 ∧ Hid (Fr (fun _ => True) w wr) ∧ Hid (wr.heap[w.heap.size]? = some (.cells #[.pointer (some ⟨tb, 0, none⟩)] 36 (0, 0))) ∧ Hid (wr.heap[w.heap.size + 1]? = some (.cells #[.func jf ja jb] 61 (0, 0))) ∧ Hid (wr.heap[w.heap.size + 1 + 1]? = some (.cells #[.int .u64 (s : Int)] 121 (0, 0))) ∧ Hid (goneS n (vs.drop j) s = S))
 case atStart => exact ⟨0, 0, rfl, by omega, by omega, HFW, T0, J0, G0, by rw [List.drop_zero]; exact HS⟩
 case round =>
  obtain ⟨j, s, rfl, hjk, hs, F, X0, X1, X2, DR⟩ := hrel
  clear HFW T0 J0 G0 HS
  by_cases hj : j < an
  · obtain ⟨k, rfl⟩ : ∃ k, gk = k + 1 := ⟨gk - 1, by omega⟩
    have hjl : (j : Int) < (an : Int) := by omega
    have hj0 : (0 : Int) ≤ (j : Int) := by omega
    obtain ⟨x, hx⟩ : ∃ x, vs[j]? = some x := ⟨_, List.getElem?_eq_getElem (by rw [HAN.out]; exact hj)⟩
    have hdr := DR.out
    rw [List.drop_eq_getElem_cons (by rw [HAN.out]; exact hj), goneS] at hdr
    have hxe : vs[j]'(by rw [HAN.out]; exact hj) = x := by rw [List.getElem?_eq_getElem (by rw [HAN.out]; exact hj)] at hx; exact Option.some.inj hx
    rw [hxe] at hdr
    have hV := HV.out.of F.out
    obtain ⟨q, rfl, cj⟩ := hV.cell j x hx
    have c0 := block_cell X0.out 0
    have c2 := block_cell X2.out 0
    have z2 := frozen_block X2.out 0
    by_cases hin : 0 ≤ x ∧ x < (n : Int)
    · obtain ⟨i, rfl⟩ : ∃ i : Nat, x = (i : Int) := ⟨x.toNat, by omega⟩
      rw [if_pos hin, Int.toNat_natCast] at hdr
      have hi : i < 25 := by have := H24.out; omega
      have HH : Hid (∀ W, Fr (fun _ => True) w W → Calls Tryz.prog 62 #[.pointer (some ⟨tb, 0, none⟩), .int .i64 (i : Int)] W fun e w' => e = .returned (.bool true) ∧ w' = W) := fun W hF => has_any (HX.out.grew hF) (i : Int) true (by rw [HORD.out]; simp; omega)
      have HO : Hid (∀ W, Calls Tryz.prog 93 #[.int .i64 (i : Int)] W _) := fun W => Of_any W i hi
      have hop := or_pow s i hs hi
      have hs2 : s ||| 2 ^ i < 33554432 := Nat.or_lt_two_pow (n := 25) hs (pow25 hi)
      have HD : Hid (goneS n (vs.drop (j + 1)) (s ||| 2 ^ i) = S) := hdr
      obtain ⟨pw, hpw⟩ : ∃ pw, 2 ^ i = pw := ⟨_, rfl⟩
      obtain ⟨sn, hsn⟩ : ∃ sn, s ||| pw = sn := ⟨_, rfl⟩
      rw [hpw] at hop hs2 HD HO
      rw [hsn] at hop hs2 HD
      clear hpw hsn hdr hxe hx hV DR
      go_wp2_with fail
      refine (HH.out wr F.out).mono ?_
      rintro e w' ⟨rfl, hw⟩; replace hw := hw.symm; subst hw
      go_wp2_with fail
      have c2d : wr.drew.cell? ⟨w.heap.size + 1 + 1, 0, none⟩ = some (.int .u64 (s : Int)) := c2
      have z2d : wr.drew.frozen? ⟨w.heap.size + 1 + 1, 0, none⟩ = false := z2
      have HO' := HO
      have fS : Fr (· ≠ w.heap.size + 1 + 1) wr (wr.setCell ⟨w.heap.size + 1 + 1, 0, none⟩ (.int .u64 (sn : Int))) := (Fr.refl _ wr).set (by simp) _
      have F2 : Hid (Fr (fun _ => True) w (wr.setCell ⟨w.heap.size + 1 + 1, 0, none⟩ (.int .u64 (sn : Int))).drew) := ⟨fS.drew.os.trans F.out.os, fS.drew.tape.trans F.out.tape, fS.drew.output.trans F.out.output, Nat.le_trans F.out.size fS.drew.size, fun b hb _ => (fS.drew.block b (Nat.lt_of_lt_of_le hb F.out.size) (by omega)).trans (F.out.block b hb trivial)⟩
      have Y0 : Hid ((wr.setCell ⟨w.heap.size + 1 + 1, 0, none⟩ (.int .u64 (sn : Int))).drew.heap[w.heap.size]? = _) := (fS.drew.block _ (block_lt X0.out) (by omega)).trans X0.out
      have Y1 : Hid ((wr.setCell ⟨w.heap.size + 1 + 1, 0, none⟩ (.int .u64 (sn : Int))).drew.heap[w.heap.size + 1]? = _) := (fS.drew.block _ (block_lt X1.out) (by omega)).trans X1.out
      have Y2 : Hid ((wr.setCell ⟨w.heap.size + 1 + 1, 0, none⟩ (.int .u64 (sn : Int))).drew.heap[w.heap.size + 1 + 1]? = some (.cells #[.int .u64 (sn : Int)] 121 (0, 0))) := set_block X2.out 0 _
      clear fS c0 c2 z2 cj HH HO F X0 X1 X2
      go_region_with (go_at_call 93; refine (HO'.out wr.drew).mono ?_; rintro e w' ⟨rfl, hw⟩; replace hw := hw.symm; subst hw)
      all_goals
       clear c2d z2d HO' hop
       go_wp2_with fail
       go_roundg k
       case measure => omega
       case rel => exact ⟨j + 1, sn, by simp, by omega, hs2, F2, Y0, Y1, Y2, HD⟩
    · rw [if_neg hin] at hdr
      have HH : Hid (∀ W, Fr (fun _ => True) w W → Calls Tryz.prog 62 #[.pointer (some ⟨tb, 0, none⟩), .int .i64 x] W fun e w' => e = .returned (.bool false) ∧ w' = W) := fun W hF => has_any (HX.out.grew hF) x false (by rw [HORD.out]; simp; omega)
      have HD : Hid (goneS n (vs.drop (j + 1)) s = S) := hdr
      clear hdr hxe hx hV DR z2 c2
      go_wp2_with fail
      refine (HH.out wr F.out).mono ?_
      rintro e w' ⟨rfl, hw⟩; replace hw := hw.symm; subst hw
      go_wp2_with fail
      go_roundg k
      case measure => omega
      case rel => exact ⟨j + 1, s, by simp, by omega, hs, F, X0, X1, X2, HD⟩
  · have hjl : ¬ (j : Int) < (an : Int) := by omega
    have hdr := DR.out
    rw [List.drop_eq_nil_of_le (by rw [HAN.out]; omega), goneS] at hdr
    subst hdr
    have HC : Hid (Calls _ _ _ _ _) := HFIN.out wr F.out X0.out X1.out X2.out
    have c0 := block_cell X0.out 0
    clear HFIN X0 X1 X2 DR
    go_wp2_with fail
    refine HC.out.mono ?_
    rintro e W2 ⟨v, T', L', ml', rfl, hX2, hF2, hO⟩
    have X2 : Hid (TAt W2 tb L' T') := hX2
    have F2 : Hid (FrT L L' w W2) := (FrT.of F.out fun _ _ _ => trivial).trans hF2
    have O2 : Hid (WoutP n lv M A T s jn f T' v) := ⟨hO.mid, hO.more, hO.gv, hO.cost, hO.val.l, hO.val.val, hO.val.r⟩
    clear hX2 hF2 hO HC F c0
    go_wp2_with fail
    go_ret
    exact ⟨v, T', L', rfl, X2.out, F2.out, O2.out⟩
end Go.Proofs.YtaakjjefnjbabaaGreat.Sx
namespace Go.Proofs.YtaakjjefnjbabaaGreat.Sx
open Go.RowKit Go.Sort Go.Maps Go.WideMaps
section
variable {w : World} {tb : Nat} {L : Ly} {T0 T : Tb} {n : Nat} {lv : Nat → Nat} {M A : Nat}
set_option maxHeartbeats 1000000 in
theorem Exists_out (h : TAt w tb L T) (hb : Base n lv M T) (f : Nat) (hf : Live T f) (p : Option Addr) (vs : List Int) (c : Nat) (hv : IntsV w p vs) (hvl : vs.length ≤ 1099511627776) (hroom : T.rows.length - T.free.length + (2 ^ n - 1) * 2 ^ n ≤ M) :
 Calls Tryz.prog 35 #[.pointer (some ⟨tb, 0, none⟩), .int .i64 (f : Int), .slice p vs.length c] w (OutPost w tb L n lv M T (wv (goneS n vs 0) jnO (n + 1) T f)) := by
 obtain ⟨rf, ef, df⟩ := id hf
 have h24 := hb.mid.n24
 have HKf : Hid (∀ W, Fr (fun _ => True) w W → Calls Tryz.prog 58 #[.pointer (some ⟨tb, 0, none⟩), .int .i64 (f : Int)] W fun e w' => e = .returned (.int .i64 (f : Int)) ∧ w' = W) := fun W hF => known_any (h.grew hF) f rf ef df
 have HI : Hid (∀ W, Fr (fun _ => True) w W → Calls Tryz.prog 69 #[.pointer (some ⟨tb, 0, none⟩), .int .i64 (f : Int), .slice p vs.length c, .func (.func 68) #[.pointer (some ⟨tb, 0, none⟩)] #[]] W fun e w' => ∃ (v : Nat) (T' : Tb) (L' : Ly), e = .returned (.int .i64 (v : Int)) ∧ TAt w' tb L' T' ∧ FrT L L' W w' ∧ WoutP n lv M (T.rows.length - T.free.length) T (goneS n vs 0) jnO f T' v) := fun W hF =>
  without_any (h.grew hF) hb.mid f hf p vs c (hv.of hF) hvl _ _ _ jnO (fun ca cb cc mm xs hxs => joinO_ok hb.mid.t (goneS_lt h24 vs 0 (by omega)) (fun q hq => hxs q hq)) (by rw [hb.fresh]; exact hroom)
 have HB : Hid (Base n lv M T) := hb
 obtain ⟨an, han⟩ : ∃ an, vs.length = an := ⟨_, rfl⟩
 rw [han] at HI ⊢
 have mo := follows
 clear h hb hroom hf ef df hv hvl h24 han
 go_enter Tryz.func35, Tryz.ntmps35
 go_wp2_with fail
 refine (HKf.out w (Fr.refl _ w)).mono ?_
 rintro e w' ⟨rfl, hw⟩; replace hw := hw.symm; subst hw
 go_wp2_with fail
 refine (HI.out w (Fr.refl _ w)).mono ?_
 rintro e W1 ⟨x, T1, L1, rfl, hX1, hF1, hI1⟩
 have HG : Hid (Calls _ _ _ _ _) := give_out hX1 hI1.mid hI1.live HB.out hI1.more hI1.gv (F := wv (goneS n vs 0) jnO (n + 1) T f) (funext hI1.val)
 have F1 : Hid (FrT L L1 w W1) := hF1
 clear hX1 hF1 hI1 HI
 go_wp2_with fail
 refine HG.out.mono ?_
 rintro e W2 ⟨rfl, T2, L2, hX2, hF2, hO⟩
 have X2 : Hid (TAt W2 tb L2 T2) := hX2
 have F2 : Hid (FrT L L2 w W2) := F1.out.trans hF2
 have O2 : Hid (Out n lv M T x (wv (goneS n vs 0) jnO (n + 1) T f) T2) := hO
 clear hX2 hF2 hO HG
 go_wp2_with fail
 go_ret
 exact ⟨x, T2, L2, rfl, X2.out, F2.out, O2.out⟩
set_option maxHeartbeats 1000000 in
theorem Forall_out (h : TAt w tb L T) (hb : Base n lv M T) (f : Nat) (hf : Live T f) (p : Option Addr) (vs : List Int) (c : Nat) (hv : IntsV w p vs) (hvl : vs.length ≤ 1099511627776) (hroom : T.rows.length - T.free.length + (2 ^ n - 1) * 2 ^ n ≤ M) :
 Calls Tryz.prog 36 #[.pointer (some ⟨tb, 0, none⟩), .int .i64 (f : Int), .slice p vs.length c] w (OutPost w tb L n lv M T (wv (goneS n vs 0) jnA (n + 1) T f)) := by
 obtain ⟨rf, ef, df⟩ := id hf
 have h24 := hb.mid.n24
 have HKf : Hid (∀ W, Fr (fun _ => True) w W → Calls Tryz.prog 58 #[.pointer (some ⟨tb, 0, none⟩), .int .i64 (f : Int)] W fun e w' => e = .returned (.int .i64 (f : Int)) ∧ w' = W) := fun W hF => known_any (h.grew hF) f rf ef df
 have HI : Hid (∀ W, Fr (fun _ => True) w W → Calls Tryz.prog 69 #[.pointer (some ⟨tb, 0, none⟩), .int .i64 (f : Int), .slice p vs.length c, .func (.func 67) #[.pointer (some ⟨tb, 0, none⟩)] #[]] W fun e w' => ∃ (v : Nat) (T' : Tb) (L' : Ly), e = .returned (.int .i64 (v : Int)) ∧ TAt w' tb L' T' ∧ FrT L L' W w' ∧ WoutP n lv M (T.rows.length - T.free.length) T (goneS n vs 0) jnA f T' v) := fun W hF =>
  without_any (h.grew hF) hb.mid f hf p vs c (hv.of hF) hvl _ _ _ jnA (fun ca cb cc mm xs hxs => joinA_ok hb.mid.t (goneS_lt h24 vs 0 (by omega)) (fun q hq => hxs q hq)) (by rw [hb.fresh]; exact hroom)
 have HB : Hid (Base n lv M T) := hb
 obtain ⟨an, han⟩ : ∃ an, vs.length = an := ⟨_, rfl⟩
 rw [han] at HI ⊢
 have mo := follows
 clear h hb hroom hf ef df hv hvl h24 han
 go_enter Tryz.func36, Tryz.ntmps36
 go_wp2_with fail
 refine (HKf.out w (Fr.refl _ w)).mono ?_
 rintro e w' ⟨rfl, hw⟩; replace hw := hw.symm; subst hw
 go_wp2_with fail
 refine (HI.out w (Fr.refl _ w)).mono ?_
 rintro e W1 ⟨x, T1, L1, rfl, hX1, hF1, hI1⟩
 have HG : Hid (Calls _ _ _ _ _) := give_out hX1 hI1.mid hI1.live HB.out hI1.more hI1.gv (F := wv (goneS n vs 0) jnA (n + 1) T f) (funext hI1.val)
 have F1 : Hid (FrT L L1 w W1) := hF1
 clear hX1 hF1 hI1 HI
 go_wp2_with fail
 refine HG.out.mono ?_
 rintro e W2 ⟨rfl, T2, L2, hX2, hF2, hO⟩
 have X2 : Hid (TAt W2 tb L2 T2) := hX2
 have F2 : Hid (FrT L L2 w W2) := F1.out.trans hF2
 have O2 : Hid (Out n lv M T x (wv (goneS n vs 0) jnA (n + 1) T f) T2) := hO
 clear hX2 hF2 hO HG
 go_wp2_with fail
 go_ret
 exact ⟨x, T2, L2, rfl, X2.out, F2.out, O2.out⟩
end
end Go.Proofs.YtaakjjefnjbabaaGreat.Sx
