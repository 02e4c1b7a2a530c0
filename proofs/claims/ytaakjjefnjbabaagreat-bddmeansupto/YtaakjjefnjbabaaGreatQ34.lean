/- The reference (plain): a list of 2 ^ n truths is a function. -/
import Derived.Test.YtaakjjefnjbabaaGreatQ33
set_option maxRecDepth 100000
namespace Go.Proofs.YtaakjjefnjbabaaGreat.Sx
def tab (n : Nat) (F : (Nat → Bool) → Bool) : List Bool := (List.range (2 ^ n)).map fun k => F k.testBit
def num : Nat → (Nat → Bool) → Nat
 | 0, _ => 0
 | n + 1, σ => num n σ + (if σ n then 2 ^ n else 0)
def Dep (n : Nat) (F : (Nat → Bool) → Bool) : Prop := ∀ σ τ : Nat → Bool, (∀ i, i < n → σ i = τ i) → F σ = F τ
theorem tab_len (n : Nat) (F : (Nat → Bool) → Bool) : (tab n F).length = 2 ^ n := by unfold tab; simp
theorem tab_at {n : Nat} {F : (Nat → Bool) → Bool} {k : Nat} (h : k < 2 ^ n) : (tab n F).getD k false = F k.testBit := by
 unfold tab
 rw [List.getD_eq_getElem?_getD, List.getElem?_map, List.getElem?_range h]
 rfl
theorem tab_get {n : Nat} {F : (Nat → Bool) → Bool} {k : Nat} (h : k < 2 ^ n) : (tab n F)[k]? = some (F k.testBit) := by
 unfold tab
 rw [List.getElem?_map, List.getElem?_range h]
 rfl
theorem num_lt : ∀ (n : Nat) (σ : Nat → Bool), num n σ < 2 ^ n
 | 0, _ => by simp [num]
 | n + 1, σ => by
   have := num_lt n σ
   unfold num
   rw [Nat.pow_succ]
   split <;> omega
theorem num_bit : ∀ (n : Nat) (σ : Nat → Bool) (i : Nat), (num n σ).testBit i = (decide (i < n) && σ i)
 | 0, σ, i => by simp [num]
 | n + 1, σ, i => by
   have hl := num_lt n σ
   unfold num
   cases hs : σ n with
   | false =>
     rw [if_neg (by simp), Nat.add_zero, num_bit n σ i]
     by_cases e : i = n
     · subst e; simp [hs]
     · congr 1
       exact decide_eq_decide.2 (by omega)
   | true =>
     rw [if_pos rfl, Nat.add_comm]
     have h1 := Nat.testBit_two_pow_mul_add 1 hl i
     rw [Nat.mul_one] at h1
     rw [h1]
     by_cases hi : i < n
     · rw [if_pos hi, num_bit n σ i, decide_eq_true hi, decide_eq_true (by omega : i < n + 1)]
     · rw [if_neg hi]
       by_cases e : i = n
       · subst e; simp [hs]
       · rw [decide_eq_false (by omega : ¬ i < n + 1)]
         obtain ⟨j, hj⟩ : ∃ j, i - n = j + 1 := ⟨i - n - 1, by omega⟩
         rw [hj, Nat.testBit_succ]
         simp
theorem Dep.num {n : Nat} {F : (Nat → Bool) → Bool} (h : Dep n F) (σ : Nat → Bool) : F (num n σ).testBit = F σ := h _ _ fun i hi => by rw [num_bit, decide_eq_true hi]; rfl
theorem num_of (n k : Nat) (h : k < 2 ^ n) : num n k.testBit = k := Nat.eq_of_testBit_eq fun i => by
 rw [num_bit]
 by_cases hi : i < n
 · rw [decide_eq_true hi]; rfl
 · rw [decide_eq_false hi, Nat.testBit_lt_two_pow (Nat.lt_of_lt_of_le h (Nat.pow_le_pow_right (by omega) (by omega)))]; rfl
def unt (n : Nat) (f : List Bool) (σ : Nat → Bool) : Bool := f.getD (num n σ) false
theorem tab_unt {n : Nat} {f : List Bool} (h : f.length = 2 ^ n) : tab n (unt n f) = f := by
 refine List.ext_getElem (by rw [tab_len, h]) fun i h1 h2 => ?_
 rw [tab_len] at h1
 have h3 := tab_get (F := unt n f) h1
 have h4 : unt n f i.testBit = f[i] := by unfold unt; rw [num_of n i h1, List.getD_eq_getElem?_getD, List.getElem?_eq_getElem h2]; rfl
 rw [h4, List.getElem?_eq_getElem (by rw [tab_len]; exact h1)] at h3
 exact Option.some.inj h3
theorem tab_inj {n : Nat} {F G : (Nat → Bool) → Bool} (hF : Dep n F) (hG : Dep n G) : tab n F = tab n G ↔ F = G := ⟨fun e => funext fun σ => by
 have h := tab_at (F := F) (num_lt n σ)
 rw [e, tab_at (num_lt n σ), hF.num, hG.num] at h
 exact h.symm, fun e => by rw [e]⟩
theorem or_bit (k i : Nat) : (k ||| 2 ^ i).testBit = upd k.testBit i true := funext fun x => by
 rw [Nat.testBit_or, Nat.testBit_two_pow]
 unfold upd
 by_cases e : x = i
 · subst e; simp
 · rw [if_neg e, decide_eq_false (fun q => e q.symm)]; simp
theorem sub_bit (k i : Nat) : ((k ||| 2 ^ i) - 2 ^ i).testBit = upd k.testBit i false := funext fun x => by
 obtain ⟨m, hm⟩ : ∃ m, k ||| 2 ^ i = m := ⟨_, rfl⟩
 have hb : ∀ x, m.testBit x = upd k.testBit i true x := fun x => by rw [← hm, or_bit]
 rw [hm]
 have hi := hb i
 rw [show upd k.testBit i true i = true by unfold upd; rw [if_pos rfl], Nat.testBit_eq_decide_div_mod_eq] at hi
 have hi := of_decide_eq_true hi
 obtain ⟨d, hd⟩ : ∃ d, m / 2 ^ i = d := ⟨_, rfl⟩
 obtain ⟨r, hr⟩ : ∃ r, m % 2 ^ i = r := ⟨_, rfl⟩
 have hrl : r < 2 ^ i := by rw [← hr]; exact Nat.mod_lt _ (Nat.two_pow_pos i)
 have he := Nat.div_add_mod m (2 ^ i)
 rw [hd] at hi
 rw [hd, hr] at he
 obtain ⟨q, rfl⟩ : ∃ q, d = 2 * q + 1 := ⟨d / 2, by omega⟩
 have he2 : m - 2 ^ i = 2 ^ i * (2 * q) + r := by rw [← he, Nat.mul_add, Nat.mul_one]; omega
 have h1 := Nat.testBit_two_pow_mul_add (2 * q + 1) hrl x
 have h2 := Nat.testBit_two_pow_mul_add (2 * q) hrl x
 rw [he2, h2]
 rw [he, hb] at h1
 unfold upd at h1 ⊢
 by_cases e : x = i
 · subst e
   rw [if_neg (Nat.lt_irrefl _), if_pos rfl, Nat.sub_self]; simp
 · rw [if_neg e] at h1 ⊢
   rw [h1]
   by_cases hx : x < i
   · rw [if_pos hx, if_pos hx]
   · rw [if_neg hx, if_neg hx]
     obtain ⟨j, hj⟩ : ∃ j, x - i = j + 1 := ⟨x - i - 1, by omega⟩
     rw [hj, Nat.testBit_succ, Nat.testBit_succ]
     congr 1
     omega
theorem xor_bit (k i : Nat) : (k ^^^ 2 ^ i).testBit = upd k.testBit i (!k.testBit i) := funext fun x => by
 rw [Nat.testBit_xor, Nat.testBit_two_pow]
 unfold upd
 by_cases e : x = i
 · subst e; simp
 · rw [if_neg e, decide_eq_false (fun q => e q.symm)]; simp
section
variable {n : Nat} {F G H : (Nat → Bool) → Bool} {i : Nat}
theorem Dep.upd (h : Dep n F) (i : Nat) (b : Bool) : Dep n fun σ => F (upd σ i b) := fun σ τ q => h _ _ fun x hx => by
 unfold Sx.upd
 split
 · rfl
 · exact q x hx
theorem Dep.ind (h : Dep n F) (hi : n ≤ i) : Ind F i := fun b σ => h _ _ fun x hx => upd_ne (by omega)
theorem map_ext {φ ψ : Nat → Bool} {N : Nat} (h : ∀ k, k < N → φ k = ψ k) : (List.range N).map φ = (List.range N).map ψ := List.map_congr_left fun k hk => h k (List.mem_range.1 hk)
theorem withL_tab (hi : i < n) (b : Bool) : withL (tab n F) i b = tab n fun σ => F (upd σ i b) := by
 unfold withL
 rw [tab_len]
 refine map_ext fun k hk => ?_
 have h1 := or_lt hk hi
 unfold withB
 cases b with
 | true => rw [if_pos rfl, tab_at h1, or_bit]
 | false => rw [if_neg (by simp), tab_at (Nat.lt_of_le_of_lt (Nat.sub_le _ _) h1), sub_bit]
theorem iteL_tab : iteL (tab n F) (tab n G) (tab n H) = tab n fun σ => if F σ then G σ else H σ := by
 unfold iteL
 rw [tab_len]
 refine map_ext fun k hk => ?_
 unfold iteB
 rw [tab_at hk, tab_at hk, tab_at hk]
 show _ = (if F k.testBit then _ else _)
 cases F k.testBit <;> simp
theorem const_tab (b : Bool) : List.replicate (2 ^ n) b = tab n fun _ => b := by
 unfold tab
 refine List.ext_getElem (by simp) fun i h1 h2 => by simp
theorem varL_tab (hi : i < n) : varL n (i : Int) = tab n fun σ => σ i := by
 unfold varL
 refine map_ext fun k hk => ?_
 unfold varB
 rw [decide_eq_true (by omega : 0 ≤ (i : Int) ∧ (i : Int) < (n : Int))]
 rfl
theorem varL_no {i : Int} (h : ¬ (0 ≤ i ∧ i < (n : Int))) : varL n i = tab n fun _ => false := by
 unfold varL
 exact map_ext fun k _ => varB_no k h
theorem hangL_tab (hF : Dep n F) (hi : i < n) : hangL (tab n F) i = true ↔ ¬ Ind F i := by
 unfold hangL
 rw [tab_len, List.any_eq_true]
 constructor
 · rintro ⟨k, hk, h⟩ hI
   have hk := List.mem_range.1 hk
   unfold hangB at h
   rw [tab_at hk, tab_at (xor_lt hk hi), xor_bit, hI] at h
   simp at h
 · intro hI
   refine Classical.byContradiction fun hn => hI ?_
   have key : ∀ σ : Nat → Bool, F (upd σ i (!σ i)) = F σ := fun σ => by
    have hk := num_lt n σ
    have h : hangB (tab n F) i (num n σ) = false := by
     cases q : hangB (tab n F) i (num n σ) with
     | false => rfl
     | true => exact absurd ⟨_, List.mem_range.2 hk, q⟩ hn
    unfold hangB at h
    rw [tab_at hk, tab_at (xor_lt hk hi), xor_bit, hF.num] at h
    have e : F (upd (num n σ).testBit i (!(num n σ).testBit i)) = F (upd σ i (!σ i)) := hF _ _ fun x hx => by
     unfold upd
     rw [num_bit, num_bit, decide_eq_true hi, decide_eq_true hx]
     rfl
    rw [e] at h
    cases h1 : F σ <;> cases h2 : F (upd σ i (!σ i)) <;> rw [h1, h2] at h <;> first | rfl | cases h
   intro b σ
   by_cases e : b = σ i
   · have : upd σ i b = σ := funext fun x => by
      unfold upd
      split
      · rename_i q; rw [q, e]
      · rfl
     rw [this]
   · have : b = !σ i := by cases b <;> cases h : σ i <;> simp_all
     rw [this]; exact key σ
theorem overL_tab (hi : i < n) (s : Bool) : overL n (tab n F) (i : Int) s = tab n fun σ => F (upd σ i false) && F (upd σ i true) || s && (F (upd σ i false) || F (upd σ i true)) := by
 unfold overL
 rw [if_pos (by omega), tab_len, Int.toNat_natCast]
 refine map_ext fun k hk => ?_
 unfold overB
 rw [withL_tab hi, withL_tab hi, tab_at hk, tab_at hk]
theorem letL_tab (hi : i < n) : letL n (tab n F) (i : Int) (tab n G) = tab n fun σ => F (upd σ i (G σ)) := by
 unfold letL
 rw [if_pos (by omega), Int.toNat_natCast, withL_tab hi, withL_tab hi, iteL_tab]
 refine map_ext fun k hk => ?_
 show (if G k.testBit then F (upd k.testBit i true) else F (upd k.testBit i false)) = F (upd k.testBit i (G k.testBit))
 cases G k.testBit
 · rw [if_neg (by simp)]
 · rw [if_pos rfl]
end
end Go.Proofs.YtaakjjefnjbabaaGreat.Sx
namespace Go.Proofs.YtaakjjefnjbabaaGreat.Sx
open Go.RowKit Go.Sort Go.Maps Go.WideMaps
theorem own_step {w0 W w3 : World} {o : Obj} {e : TypeId} {v v' : Value} {xs : List Value} {x : Value} {n : Nat} (hf : Fr (fun _ => True) w0 W) (hrow : W.ownsRow w0.heap.size e 1 v n xs) (ho : w3.ownsRow w0.heap.size e 1 v' (n + 1) (xs ++ [x])) (hg : (W.alloc o).grownBy w3 v.ownBlock) :
 (∃ g' cap', v' = .slice (some ⟨g', 0, none⟩) (n + 1) cap') ∧ Fr (fun _ => True) w0 w3 ∧ Fr (fun b => some b ≠ v.ownBlock) W w3 := by
 obtain ⟨g', cap', cur', rfl, hgb, hgc, _⟩ : ∃ g' cap' cur', v' = .slice (some ⟨g', 0, none⟩) (n + 1) cap' ∧ w0.heap.size ≤ g' ∧ w3.heap[g']? = some (.cells cur' e (0, 0)) ∧ n + 1 ≤ cap' ∧ cap' ≤ maxLen ∧ cur'.size = cap' * 1 ∧ cur'.toList.take ((n + 1) * 1) = xs ++ [x] := by
  rcases ho.2 with ⟨_, h0⟩ | h'
  · exact absurd h0 (by omega)
  · exact h'
 have hsz3 : W.heap.size ≤ w3.heap.size := by have := hg.size; simp at this; omega
 have hold : ∀ b, b < W.heap.size → some b ≠ v.ownBlock → w3.heap[b]? = W.heap[b]? := fun b hb hne => (hg.block b (by simp; omega) (by first | exact hne | exact fun e => hne e.symm)).trans (heap_old hb)
 refine ⟨⟨g', cap', rfl⟩, ⟨hg.os.trans hf.os, hg.tape.trans hf.tape, hg.output.trans hf.output, Nat.le_trans hf.size hsz3, fun b hb _ => (hold b (Nat.lt_of_lt_of_le hb hf.size) fun e => ?_).trans (hf.block b hb trivial)⟩, ⟨hg.os, hg.tape, hg.output, hsz3, fun b hb hne => hold b hb hne⟩⟩
 have := (hrow.lt b e.symm).1
 omega
theorem own_bv {w : World} {b : Nat} {v : Value} {l : List Bool} (h : w.ownsRow b 4 1 v l.length (l.map Value.bool)) : BV w v l := by
 rcases h.2 with ⟨rfl, h0⟩ | ⟨g, cap, cur, rfl, hb, hg, _⟩
 · have : l = [] := List.eq_nil_of_length_eq_zero h0
   subst this
   exact ⟨none, 0, rfl, fun i x hx => by cases hx⟩
 · exact ⟨_, _, rfl, fun i x hx => ⟨_, rfl, h.cells rfl i _ (by rw [List.getElem?_map, hx]; rfl), _, _, hg⟩⟩
theorem BV.at {P : Nat → Prop} {w w' : World} {l : List Bool} {g k c : Nat} (h : BV w (.slice (some ⟨g, 0, none⟩) k c) l) (f : Fr P w w') (hp : P g) : BV w' (.slice (some ⟨g, 0, none⟩) k c) l := by
 obtain ⟨a, cap, e, hc⟩ := h
 refine ⟨a, cap, e, fun i x hx => ?_⟩
 obtain ⟨q, e1, hq, cs, fz, ht⟩ := hc i x hx
 injection e with e2 _ _
 rw [e1] at e2
 cases e2
 have hk := f.block _ (block_lt ht) hp
 exact ⟨_, e1, (World.cell?_of_block (w := w) (by rw [add_block]; exact hk)).trans hq, cs, fz, hk.trans ht⟩
def fstF (f : List Bool) : Nat → List Bool
 | 0 => f
 | i + 1 => if cntL (withL (fstF f i) i false) = 0 then withL (fstF f i) i true else withL (fstF f i) i false
def fstD (f : List Bool) (i : Nat) : Bool := decide (cntL (withL (fstF f i) i false) = 0)
def fstL (n : Nat) (f : List Bool) : List Bool := (List.range n).map (fstD f)
theorem fstF_len (f : List Bool) (i : Nat) : (fstF f i).length = f.length := by
 induction i with
 | zero => rfl
 | succ i ih => show (if _ then _ else _ : List Bool).length = _; split <;> rw [withL_len, ih]
def fstR (n : Nat) (f : List Bool) : List Bool := if cntL f = 0 then [] else fstL n f
def fstO (f : List Bool) : Bool := decide (cntL f ≠ 0)
theorem fstL_succ (f : List Bool) (j : Nat) : (fstL (j + 1) f).map Value.bool = (fstL j f).map Value.bool ++ [.bool (fstD f j)] := by unfold fstL; rw [List.range_succ]; simp
set_option maxHeartbeats 1000000 in
theorem rFirst_any (w : World) (vf : Value) (f : List Bool) (n : Nat) (hn : n ≤ 9) (hf : BV w vf f) (lf : f.length = 2 ^ n) :
 Calls Tryz.prog 45 #[.int .i64 (n : Int), vf] w fun e w' => ∃ r, e = .returned (.tuple #[r, .bool (fstO f)]) ∧ BV w' r (fstR n f) ∧ Fr (fun _ => True) w w' := by
 have hN2 := pow9 hn
 have HCC : Hid (∀ W v g, BV W v g → g.length = 2 ^ n → Calls Tryz.prog 43 #[v] W fun e w' => e = .returned (.int .i64 (cntL g : Int)) ∧ w' = W) := fun W v g h1 h2 => rCount_any W v g (by omega) h1
 have HC1 : Hid (Calls _ _ _ _ _) := HCC.out w vf f hf lf
 obtain ⟨i0, hi0, hz0, hz1, hz2⟩ := infoB
 have HF : Hid (BV w vf f) := hf
 have HLF : Hid (f.length = 2 ^ n) := lf
 have mo := follows
 clear hf hN2 lf
 go_enter Tryz.func45, Tryz.ntmps45
 go_wp2_with fail
 refine HC1.out.mono ?_
 rintro e w1 ⟨rfl, rfl⟩
 obtain ⟨c, hc⟩ : ∃ c, cntL f = c := ⟨_, rfl⟩
 rw [hc]
 have HO : Hid (∀ b, decide (c ≠ 0) = b → fstO f = b) := fun b hb => by unfold fstO; rw [hc]; exact hb
 have HR : Hid (∀ l, (if c = 0 then [] else fstL n f) = l → fstR n f = l) := fun l hl => by unfold fstR; rw [hc]; exact hl
 clear hc
 by_cases h0 : c = 0
 · have h0' : (c : Int) = 0 := by omega
   go_wp2_with fail
   go_ret2
   subst h0
   refine ⟨.slice none 0 0, ?_, ?_, Fr.refl _ _⟩
   · rw [HO.out false rfl]; rfl
   · rw [HR.out [] rfl]; exact ⟨none, 0, rfl, fun i x hx => by cases hx⟩
 · have h0' : ¬ (c : Int) = 0 := by omega
   have HC0 : Hid (fstO f = true ∧ fstR n f = fstL n f) := ⟨HO.out _ (decide_eq_true h0), HR.out _ (if_neg h0)⟩
   clear HC1 HO HR
   have hcb : ((c : Int) == 0) = false := by simpa using h0'
   go_wp2_with fail
   try rw [hcb]
   clear h0 h0' hcb
   go_loopg [1, 7, 8] (n) (fun k s1 s7 s8 wr => ∃ (j : Nat) (sa : Option Addr) (sc : Nat) (v1 : Value), s8 = .int .i64 (j : Int) ∧ s7 = .slice sa j sc ∧ v1 = s1 ∧ j + k = n ∧ Hid (BV wr v1 (fstF f j)) ∧ Hid (wr.ownsRow w1.heap.size 4 1 (.slice sa j sc) j ((fstL j f).map Value.bool)) ∧ Hid (Fr (fun _ => True) w1 wr))
   case atStart => exact ⟨0, none, 0, _, rfl, rfl, rfl, by omega, HF.out, World.ownsRow_nil _ _ _ _, Fr.refl _ _⟩
   case round =>
    clear HF
    obtain ⟨j, sa, sc, v1, rfl, rfl, rfl, hjk, B, R, F⟩ := hrel
    by_cases hj : j < n
    · obtain ⟨k, rfl⟩ : ∃ k, gk = k + 1 := ⟨gk - 1, by omega⟩
      have hjl : (j : Int) < (n : Int) := by omega
      have HW1 : Hid (Calls _ _ _ _ _) := rWith_new wr v1 (fstF f j) n j hn hj B.out (by rw [fstF_len, HLF.out]) false
      go_wp2_with fail
      refine HW1.out.mono ?_
      rintro e w2 ⟨r1, rfl, ⟨hb1, k1, c1, rfl⟩, hf1⟩
      have HC2 : Hid (Calls _ _ _ _ _) := HCC.out w2 _ _ hb1 (by rw [withL_len, fstF_len, HLF.out])
      have F2 : Hid (Fr (fun _ => True) wr w2) := hf1
      have B2 : Hid (BV w2 (.slice (some ⟨wr.heap.size, 0, none⟩) k1 c1) (withL (fstF f j) j false)) := hb1
      clear hf1 hb1 HW1
      go_wp2_with fail
      refine HC2.out.mono ?_
      rintro e w3 ⟨rfl, rfl⟩
      obtain ⟨d, hd⟩ : ∃ d, cntL (withL (fstF f j) j false) = d := ⟨_, rfl⟩
      rw [hd]
      clear HC2
      by_cases hz : d = 0
      · have hz' : (d : Int) = 0 := by omega
        have HSD : Hid (fstD f j = true) := decide_eq_true (by rw [hd]; exact hz)
        have HSF : Hid (fstF f (j + 1) = withL (fstF f j) j true) := if_pos (by rw [hd]; exact hz)
        have HW2 : Hid (Calls _ _ _ _ _) := rWith_new w3 v1 (fstF f j) n j hn hj (B.out.fr F2.out) (by rw [fstF_len, HLF.out]) true
        clear hd B
        go_wp2_with fail
        refine HW2.out.mono ?_
        rintro e w4 ⟨r2, rfl, ⟨hb2, k2, c2, rfl⟩, hf2⟩
        have B3 : Hid (BV w4 (.slice (some ⟨w3.heap.size, 0, none⟩) k2 c2) (withL (fstF f j) j true)) := hb2
        have F3 : Hid (Fr (fun _ => True) wr w4) := F2.out.trans hf2
        have hsz : wr.heap.size ≤ w3.heap.size := F2.out.size
        have R4 : Hid (w4.ownsRow w1.heap.size 4 1 (.slice sa j sc) j ((fstL j f).map Value.bool)) := ownsRow_fr R.out fun g _ hg => F3.out.block g hg trivial
        have HOA : Hid ((w4.alloc (.cells #[.bool true] 4)).ownsRow w1.heap.size 4 1 (.slice sa j sc) j ((fstL j f).map Value.bool)) := R4.out.alloc _
        have F4 : Hid (Fr (fun _ => True) w1 w4) := F.out.trans F3.out
        have HSZ : Hid (∀ g, (Value.slice sa j sc).ownBlock = some g → g < w3.heap.size) := fun g hg => by have := (R.out.lt g hg).2; omega
        have hle4 : w1.heap.size ≤ w4.heap.size := F4.out.size
        clear hb2 hf2 F2 F3 B2 R HW2 F
        go_wp2_with (at_builtin; refine wpList_append_own _ rfl _ _ 28 rfl w1.heap.size 4 i0 _ 1 1 Tryz.underlying28 hi0 hz0 hz1 hz2 rfl (by decide) (.slice sa j sc) j _ rfl HOA.out ⟨w4.heap.size, 0, none⟩ 1 1 [.bool true] rfl rfl (World.news_of_block (heap_new rfl)) ?q2 ?q3 ?q4 ?q5 ?_)
        case q2 => intro u hu; rw [List.mem_singleton.1 hu]; rfl
        case q3 => unfold maxLen; omega
        case q4 => omega
        case q5 => simp; omega
        intro v' w5 ho hg _
        obtain ⟨⟨g', cap', rfl⟩, h5, h6⟩ := own_step F4.out R4.out ho hg
        have F5 : Hid (Fr (fun _ => True) w1 w5) := h5
        have B5 : Hid (BV w5 (.slice (some ⟨w3.heap.size, 0, none⟩) k2 c2) (fstF f (j + 1))) := by rw [HSF.out]; exact B3.out.at h6 fun e => by have := HSZ.out _ e.symm; omega
        have R5 : Hid (w5.ownsRow w1.heap.size 4 1 (.slice (some ⟨g', 0, none⟩) (j + 1) cap') (j + 1) ((fstL (j + 1) f).map Value.bool)) := by rw [fstL_succ, HSD.out]; exact ho
        clear ho hg h5 h6 HOA HSZ B3 F4 R4 HSF HSD
        go_wp2_with fail
        go_roundg k
        case measure => omega
        case rel => exact ⟨j + 1, _, _, _, by simp, rfl, rfl, by omega, B5, R5, F5⟩
      · have hz' : ¬ (d : Int) = 0 := by omega
        have HSD : Hid (fstD f j = false) := decide_eq_false (by rw [hd]; exact hz)
        have HSF : Hid (fstF f (j + 1) = withL (fstF f j) j false) := if_neg (by rw [hd]; exact hz)
        have R4 : Hid (w3.ownsRow w1.heap.size 4 1 (.slice sa j sc) j ((fstL j f).map Value.bool)) := ownsRow_fr R.out fun g _ hg => F2.out.block g hg trivial
        have HOA : Hid ((w3.alloc (.cells #[.bool false] 4)).ownsRow w1.heap.size 4 1 (.slice sa j sc) j ((fstL j f).map Value.bool)) := R4.out.alloc _
        have F4 : Hid (Fr (fun _ => True) w1 w3) := F.out.trans F2.out
        have HSZ : Hid (∀ g, (Value.slice sa j sc).ownBlock = some g → g < wr.heap.size) := fun g hg => (R.out.lt g hg).2
        have hle4 : w1.heap.size ≤ w3.heap.size := F4.out.size
        clear hd B F2 R F
        go_wp2_with (at_builtin; refine wpList_append_own _ rfl _ _ 28 rfl w1.heap.size 4 i0 _ 1 1 Tryz.underlying28 hi0 hz0 hz1 hz2 rfl (by decide) (.slice sa j sc) j _ rfl HOA.out ⟨w3.heap.size, 0, none⟩ 1 1 [.bool false] rfl rfl (World.news_of_block (heap_new rfl)) ?q2 ?q3 ?q4 ?q5 ?_)
        case q2 => intro u hu; rw [List.mem_singleton.1 hu]; rfl
        case q3 => unfold maxLen; omega
        case q4 => omega
        case q5 => simp; omega
        intro v' w5 ho hg _
        obtain ⟨⟨g', cap', rfl⟩, h5, h6⟩ := own_step F4.out R4.out ho hg
        have F5 : Hid (Fr (fun _ => True) w1 w5) := h5
        have B5 : Hid (BV w5 (.slice (some ⟨wr.heap.size, 0, none⟩) k1 c1) (fstF f (j + 1))) := by rw [HSF.out]; exact B2.out.at h6 fun e => by have := HSZ.out _ e.symm; omega
        have R5 : Hid (w5.ownsRow w1.heap.size 4 1 (.slice (some ⟨g', 0, none⟩) (j + 1) cap') (j + 1) ((fstL (j + 1) f).map Value.bool)) := by rw [fstL_succ, HSD.out]; exact ho
        clear ho hg h5 h6 HOA HSZ B2 F4 R4 HSF HSD
        go_wp2_with fail
        go_roundg k
        case measure => omega
        case rel => exact ⟨j + 1, _, _, _, by simp, rfl, rfl, by omega, B5, R5, F5⟩
    · have hjl : ¬ (j : Int) < (n : Int) := by omega
      obtain rfl : j = n := by omega
      have HB : Hid (BV wr (.slice sa j sc) (fstL j f)) := own_bv (by
       have e : (fstL j f).length = j := by simp [fstL]
       rw [e]; exact R.out)
      go_wp2_with fail
      go_ret2
      refine ⟨.slice sa j sc, ?_, ?_, F.out⟩
      · rw [HC0.out.1]; rfl
      · rw [HC0.out.2]; exact HB.out
end Go.Proofs.YtaakjjefnjbabaaGreat.Sx
namespace Go.Proofs.YtaakjjefnjbabaaGreat.Sx
open Go.RowKit Go.Sort Go.Maps Go.WideMaps
theorem infoBs : ∃ i0, Tryz.prog.info? 28 = some i0 ∧ i0.zero = some (.slice none 0 0) ∧ i0.size = 1 ∧ i0.bytes = 24 := by
 have h : ((Tryz.prog.info? 28).map fun i => (i.zero, i.size, i.bytes)) = some (some (.slice none 0 0), 1, 24) := by kernel_rfl
 cases hq : Tryz.prog.info? 28 with
 | none => rw [hq] at h; simp at h
 | some j => rw [hq] at h; simp at h; exact ⟨j, rfl, h.1, h.2.1, h.2.2⟩
def RV (w : World) (v : Value) (R : List (List Bool)) (g : Option Nat) : Prop := ∃ a cap, v = .slice a R.length cap ∧ ∀ i x, R[i]? = some x → ∃ q vx, a = some q ∧ some q.block ≠ g ∧ w.cell? (q.add i) = some vx ∧ BV w vx x
def RowS (b0 : Nat) (w : World) (v : Value) (R : List (List Bool)) : Prop := ∃ vs, vs.length = R.length ∧ w.ownsRow b0 28 1 v R.length vs ∧ ∀ (i : Nat) vx x, vs[i]? = some vx → R[i]? = some x → BV w vx x
section
variable {P : Nat → Prop} {b0 : Nat} {w w' : World} {v vx : Value} {R : List (List Bool)} {g g2 : Option Nat} {x : List Bool}
theorem RowS.nil (b0 : Nat) (w : World) : RowS b0 w (.slice none 0 0) [] := ⟨[], rfl, World.ownsRow_nil _ _ _ _, fun i vx x h => by cases h⟩
theorem RowS.frg (h : RowS b0 w v R) (f : Fr P w w') (ho : ∀ g, v.ownBlock = some g → b0 ≤ g → P g) (hp : ∀ b, b < w.heap.size → (∃ cs fz, w.heap[b]? = some (.cells cs 4 fz)) → P b) : RowS b0 w' v R := by
 obtain ⟨vs, h1, h2, h3⟩ := h
 refine ⟨vs, h1, ?_, fun i vx x q1 q2 => (h3 i vx x q1 q2).frg f hp⟩
 refine ⟨h2.1, ?_⟩
 rcases h2.2 with q | ⟨g, cap, cur, e1, hb, hg, q⟩
 · exact .inl q
 · exact .inr ⟨g, cap, cur, e1, hb, (f.block g (block_lt hg) (ho g (by rw [e1]; rfl) hb)).trans hg, q⟩
theorem RowS.fr (h : RowS b0 w v R) (f : Fr (fun _ => True) w w') : RowS b0 w' v R := h.frg f (fun _ _ _ => trivial) fun _ _ _ => trivial
theorem RowS.mono {b1 : Nat} (h : RowS b0 w v R) (hb : b1 ≤ b0) : RowS b1 w v R := by
 obtain ⟨vs, h1, h2, h3⟩ := h
 refine ⟨vs, h1, ⟨h2.1, ?_⟩, h3⟩
 rcases h2.2 with q | ⟨g, cap, cur, e1, hg, q⟩
 · exact .inl q
 · exact .inr ⟨g, cap, cur, e1, by omega, q⟩
theorem RowS.form (h : RowS b0 w v R) : ∃ a c, v = .slice a R.length c ∧ ∀ (i : Nat) x, R[i]? = some x → ∃ g vx, a = some ⟨g, 0, none⟩ ∧ w.cell? ⟨g, i, none⟩ = some vx ∧ BV w vx x := by
 obtain ⟨vs, h1, h2, h3⟩ := h
 rcases h2.2 with ⟨rfl, h0⟩ | ⟨g, cap, cur, rfl, hb, hg, q⟩
 · exact ⟨none, 0, by rw [h0], fun i x hx => by have := lt_of_at hx; omega⟩
 · refine ⟨_, _, rfl, fun i x hx => ?_⟩
   have hl := lt_of_at hx
   obtain ⟨vx, hv⟩ : ∃ vx, vs[i]? = some vx := ⟨_, List.getElem?_eq_getElem (by omega)⟩
   refine ⟨g, vx, rfl, ?_, h3 i vx x hv hx⟩
   have := h2.cells rfl i vx hv
   rw [add0] at this
   exact this
theorem RowS.rv (h : RowS b0 w v R) (hb : ∀ k, g = some k → k < b0) : RV w v R g := by
 have ho : ∀ q : Addr, (∃ n c, v = .slice (some q) n c) → b0 ≤ q.block := fun q ⟨n, c, e⟩ => by
  obtain ⟨vs, _, h2, _⟩ := h
  exact (h2.lt q.block (by rw [e]; rfl)).1
 obtain ⟨a, c, rfl, h2⟩ := h.form
 refine ⟨a, c, rfl, fun i x hx => ?_⟩
 obtain ⟨k, vx, rfl, h3, h4⟩ := h2 i x hx
 refine ⟨⟨k, 0, none⟩, vx, rfl, fun e => ?_, by rw [add0]; exact h3, h4⟩
 have h5 := ho ⟨k, 0, none⟩ ⟨_, _, rfl⟩
 have h6 := hb k e.symm
 have h5 : b0 ≤ k := h5
 omega
theorem RV.frg (h : RV w v R g) (f : Fr P w w') (hq : ∀ b, b < w.heap.size → some b ≠ g → P b) (hp : ∀ b, b < w.heap.size → (∃ cs fz, w.heap[b]? = some (.cells cs 4 fz)) → P b) (hg2 : ∀ k, g2 = some k → g = some k ∨ w.heap.size ≤ k) : RV w' v R g2 := by
 obtain ⟨a, c, e, h1⟩ := h
 refine ⟨a, c, e, fun i x hx => ?_⟩
 obtain ⟨q, vx, e1, h2, h3, h4⟩ := h1 i x hx
 have hl : q.block < w.heap.size := by have := World.block_lt_of_cell? w _ h3; rw [add_block] at this; exact this
 refine ⟨q, vx, e1, fun e2 => ?_, (World.cell?_of_block (w := w) (by rw [add_block]; exact f.block _ hl (hq _ hl h2))).trans h3, h4.frg f hp⟩
 rcases hg2 _ e2.symm with e3 | e3
 · exact h2 e3.symm
 · omega
theorem RV.fr (h : RV w v R g) (f : Fr (fun _ => True) w w') : RV w' v R g := h.frg f (fun _ _ _ => trivial) (fun _ _ _ => trivial) fun _ e => .inl e
theorem RV.below (h : RV w v R none) (hb : w.heap.size ≤ b0) (hg : ∀ k, g = some k → b0 ≤ k) : RV w v R g := by
 obtain ⟨a, c, e, h1⟩ := h
 refine ⟨a, c, e, fun i x hx => ?_⟩
 obtain ⟨q, vx, e1, h2, h3, h4⟩ := h1 i x hx
 have hl : q.block < w.heap.size := by have := World.block_lt_of_cell? w _ h3; rw [add_block] at this; exact this
 refine ⟨q, vx, e1, fun e2 => ?_, h3, h4⟩
 have := hg _ e2.symm
 omega
theorem RowS.app {W w3 : World} {o : Obj} {g' cap' H : Nat} {vs : List Value} {n : Nat} (hn : n = R.length) (h : vs.length = R.length) (hrow : W.ownsRow b0 28 1 v n vs) (he : ∀ (i : Nat) vx x, vs[i]? = some vx → R[i]? = some x → BV W vx x) (hx : BV W vx x) (ho : w3.ownsRow b0 28 1 (.slice (some ⟨g', 0, none⟩) (n + 1) cap') (n + 1) (vs ++ [vx])) (hg : (W.alloc o).grownBy w3 v.ownBlock) (hat : v.ownBlock = some g' ∨ g' = H) (hH : W.heap.size ≤ H) :
 RowS b0 w3 (.slice (some ⟨g', 0, none⟩) (n + 1) cap') (R ++ [x]) ∧ Fr (fun b => some b ≠ v.ownBlock) W w3 ∧ (v.ownBlock = some g' ∨ W.heap.size ≤ g') := by
 subst hn
 have hsz3 : W.heap.size ≤ w3.heap.size := by have := hg.size; simp at this; omega
 have hold : ∀ b, b < W.heap.size → some b ≠ v.ownBlock → w3.heap[b]? = W.heap[b]? := fun b hb hne => (hg.block b (by simp; omega) hne).trans (heap_old hb)
 have hf : Fr (fun b => some b ≠ v.ownBlock) W w3 := ⟨hg.os, hg.tape, hg.output, hsz3, fun b hb hne => hold b hb hne⟩
 have hty : ∀ b, b < W.heap.size → (∃ cs fz, W.heap[b]? = some (.cells cs 4 fz)) → some b ≠ v.ownBlock := by
  rintro b _ ⟨cs, fz, hb⟩ e
  rcases hrow.2 with ⟨rfl, _⟩ | ⟨g, cap, cur, rfl, _, hg, _⟩
  · cases e
  · have e : some b = some g := e
    cases e
    rw [hg] at hb
    injection hb with hb
    injection hb with _ h2 _
    exact absurd h2 (by decide)
 refine ⟨⟨vs ++ [vx], by simp [h], by simpa using ho, fun i vy y q1 q2 => ?_⟩, hf, hat.imp id fun e => by omega⟩
 by_cases hi : i < R.length
 · rw [List.getElem?_append_left (by omega)] at q1
   rw [List.getElem?_append_left hi] at q2
   exact (he i vy y q1 q2).frg hf hty
 · have : i = R.length := by have := lt_of_at q2; simp at this; omega
   subst this
   rw [List.getElem?_append_right (by omega), h] at q1
   rw [List.getElem?_append_right (by omega)] at q2
   simp at q1 q2
   rw [← q1, ← q2]
   exact hx.frg hf hty
end
def putR (R : List (List Bool)) (x : List Bool) : List (List Bool) := if x ∈ R then R else R ++ [x]
def joinR (R M : List (List Bool)) : List (List Bool) := M.foldl putR R
def hasN (R : List (List Bool)) (x : List Bool) (k : Nat) : Bool := decide (x ∈ R.take k)
theorem hasN_step {R : List (List Bool)} {x y : List Bool} {k : Nat} (h : R[k]? = some y) (h0 : hasN R x k = false) : hasN R x (k + 1) = decide (y = x) := by
 unfold hasN at h0 ⊢
 have h0 := of_decide_eq_false h0
 rw [List.take_add_one, h]
 exact decide_eq_decide.2 ⟨fun q => (List.mem_append.1 q).elim (fun q => absurd q h0) fun q => (List.mem_singleton.1 q).symm, fun q => List.mem_append.2 (.inr (List.mem_singleton.2 q.symm))⟩
theorem hasN_all {R : List (List Bool)} {x : List Bool} : hasN R x R.length = decide (x ∈ R) := by unfold hasN; rw [List.take_of_length_le (Nat.le_refl _)]
theorem hasN_true {R : List (List Bool)} {x : List Bool} {k : Nat} (h : hasN R x k = true) : x ∈ R := List.mem_of_mem_take (of_decide_eq_true h)
theorem joinR_take {R M : List (List Bool)} {i : Nat} {x : List Bool} (h : M[i]? = some x) : joinR R (M.take (i + 1)) = putR (joinR R (M.take i)) x := by
 unfold joinR
 rw [List.take_add_one, h, List.foldl_append]
 rfl
theorem putR_len (R : List (List Bool)) (x : List Bool) : (putR R x).length ≤ R.length + 1 := by unfold putR; split <;> simp
theorem joinR_len (M : List (List Bool)) : ∀ R : List (List Bool), (joinR R M).length ≤ R.length + M.length := by
 induction M with
 | nil => intro R; exact Nat.le_refl _
 | cons x M ih =>
   intro R
   have h1 := ih (putR R x)
   have h2 := putR_len R x
   show (joinR (putR R x) M).length ≤ _
   simp
   omega
theorem mem_putR {R : List (List Bool)} {x y : List Bool} : y ∈ putR R x ↔ y ∈ R ∨ y = x := by
 unfold putR
 split
 · rename_i h
   exact ⟨.inl, fun q => q.elim id fun e => by rw [e]; exact h⟩
 · simp
theorem mem_joinR {M : List (List Bool)} {y : List Bool} : ∀ {R : List (List Bool)}, y ∈ joinR R M ↔ y ∈ R ∨ y ∈ M := by
 induction M with
 | nil => intro R; simp [joinR]
 | cons x M ih =>
   intro R
   show y ∈ joinR (putR R x) M ↔ _
   rw [ih, mem_putR]
   simp [or_assoc]
end Go.Proofs.YtaakjjefnjbabaaGreat.Sx
