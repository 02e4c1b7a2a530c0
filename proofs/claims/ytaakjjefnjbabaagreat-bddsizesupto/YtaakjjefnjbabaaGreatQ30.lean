/- Sorting by insertion, stably: plain, and insertionSortCmpFunc. -/
import Derived.Test.YtaakjjefnjbabaaGreatQ29
set_option maxRecDepth 100000
namespace Go.Proofs.YtaakjjefnjbabaaGreat.Sx
open Go.RowKit Go.Sort Go.Maps Go.WideMaps
theorem Grew.grown {a b : World} (h : Grew a b) (q : Nat) (os : Array Obj) : Grew a (grow (b.drewN q) os) := h.trans ⟨q, os, rfl⟩
def Rk (ak : Nat → Nat) (x y : Nat) : Prop := ak y < ak x ∨ ak x = ak y ∧ x < y
structure InsI (ak : Nat → Nat) (c : List Nat) (i : Nat) (d : List Nat) : Prop where
 len : d.length = c.length
 tail : d.drop i = c.drop i
 perm : (d.take i).Perm (c.take i)
 srt : (d.take i).Pairwise (Rk ak)
theorem InsI.one {ak : Nat → Nat} {c : List Nat} (h : 1 ≤ c.length) : InsI ak c 1 c := by
 match c, h with
 | a :: c, _ => exact ⟨rfl, rfl, List.Perm.refl _, by simp⟩
theorem InsI.nil {ak : Nat → Nat} : InsI ak [] 1 [] := ⟨rfl, rfl, List.Perm.refl _, by simp⟩
theorem atL_perm (l : List Nat) (v p : Nat) : (atL l v p).Perm (v :: l) := by
 unfold atL
 refine List.perm_middle.trans ?_
 rw [List.take_append_drop]
theorem InsI.step {ak : Nat → Nat} {c d rest : List Nat} {i j e : Nat} (h : InsI ak c i d) (hc : c.Pairwise (· < ·)) (he : d[i]? = some e) (hr : rest = d.take i ++ d.drop (i + 1)) (hj : j ≤ i) (h1 : ∀ t y, j ≤ t → t < i → rest[t]? = some y → ak y < ak e) (h2 : j = 0 ∨ ∀ y, rest[j - 1]? = some y → ¬ ak y < ak e) : InsI ak c (i + 1) (atL rest e j) := by
 have hil := lt_of_at he
 have htl : (d.take i).length = i := by rw [List.length_take]; omega
 have hrl : rest.length + 1 = d.length := by rw [hr, List.length_append, htl, List.length_drop]; omega
 have hrt : rest.take i = d.take i := by rw [hr, List.take_append_of_le_length (by omega), List.take_take, Nat.min_self]
 have hrd : rest.drop i = d.drop (i + 1) := by rw [hr, List.drop_append_of_le_length (by omega), List.drop_eq_nil_of_le (by omega), List.nil_append]
 have hce : c[i]? = some e := by
  have := congrArg (fun z => z[0]?) h.tail
  simp only [List.getElem?_drop, Nat.add_zero] at this
  rw [← this]; exact he
 have htake : (atL rest e j).take (i + 1) = atL (d.take i) e j := by
  have hl2 : (rest.take j).length = j := by rw [List.length_take]; omega
  unfold atL
  obtain ⟨m, hm⟩ : ∃ m, i + 1 - j = m + 1 := ⟨i - j, by omega⟩
  rw [List.take_append, hl2, List.take_of_length_le (by omega), hm, List.take_succ_cons, ← hrt, List.take_take, Nat.min_eq_left hj]
  congr 2
  rw [List.drop_take]
  congr 1; omega
 have hdrop : (atL rest e j).drop (i + 1) = rest.drop i := by
  have hl2 : (rest.take j).length = j := by rw [List.length_take]; omega
  unfold atL
  obtain ⟨m, hm⟩ : ∃ m, i + 1 - j = m + 1 := ⟨i - j, by omega⟩
  rw [List.drop_append, hl2, List.drop_eq_nil_of_le (by omega), hm, List.drop_succ_cons, List.nil_append, List.drop_drop]
  congr 1; omega
 have hct : c.take (i + 1) = c.take i ++ [e] := by rw [List.take_add_one, hce]; rfl
 refine ⟨by rw [atL_len, ← h.len]; omega, ?_, ?_, ?_⟩
 · rw [hdrop, hrd]
   have := congrArg (List.drop 1) h.tail
   rw [List.drop_drop, List.drop_drop] at this
   exact this
 · rw [htake, hct]
   refine (atL_perm _ _ _).trans ((List.Perm.cons e h.perm).trans ?_)
   exact (List.perm_append_comm (l₁ := [e]) (l₂ := c.take i))
 · rw [htake]
   have hlt : ∀ x ∈ d.take i, x < e := fun x hx => by
    have hx2 : x ∈ c.take i := h.perm.mem_iff.1 hx
    have hpc := hc
    rw [← List.take_append_drop i c] at hpc
    have hd : c.drop i = e :: c.drop (i + 1) := by
     have hic := lt_of_at hce
     rw [List.drop_eq_getElem_cons hic]
     rw [List.getElem?_eq_getElem hic] at hce
     rw [Option.some.inj hce]
    rw [hd] at hpc
    exact (List.pairwise_append.1 hpc).2.2 x hx2 e (by simp)
   have hsp := h.srt
   rw [← List.take_append_drop j (d.take i)] at hsp
   obtain ⟨s1, s2, s3⟩ := List.pairwise_append.1 hsp
   unfold atL
   refine List.pairwise_append.2 ⟨s1, List.pairwise_cons.2 ⟨fun y hy => ?_, s2⟩, fun x hx y hy => ?_⟩
   · obtain ⟨t, ht, hty⟩ := List.getElem_of_mem hy
     rw [List.getElem_drop] at hty
     simp only [List.length_drop, htl] at ht
     have hg : rest[j + t]? = some y := by
      rw [← List.getElem?_take_of_lt (show j + t < i by omega), hrt, List.getElem?_eq_getElem (by omega), hty]
     exact .inl (h1 (j + t) y (by omega) (by omega) hg)
   · rcases List.mem_cons.1 hy with hye | hy
     · rw [hye]
       have hxm : x ∈ d.take i := List.mem_of_mem_take hx
       have hxe := hlt x hxm
       rcases h2 with h2 | h2
       · rw [h2] at hx; cases hx
       · by_cases hj0 : j = 0
         · rw [hj0] at hx; cases hx
         · obtain ⟨z, hz⟩ : ∃ z, (d.take i)[j - 1]? = some z := ⟨_, List.getElem?_eq_getElem (by omega)⟩
           have hg : rest[j - 1]? = some z := by rw [← List.getElem?_take_of_lt (show j - 1 < i by omega), hrt]; exact hz
           have h3 := h2 z hg
           obtain ⟨t, ht, htx⟩ := List.getElem_of_mem hx
           simp only [List.length_take, htl] at ht
           rw [List.getElem_take] at htx
           by_cases htj : t = j - 1
           · have : x = z := by
              have h4 : (d.take i)[t]? = some x := by rw [List.getElem?_eq_getElem (by omega), htx]
              rw [htj, hz] at h4; exact (Option.some.inj h4).symm
             rw [this] at hxe ⊢
             by_cases q : ak e < ak z
             · exact .inl q
             · exact .inr ⟨by omega, hxe⟩
           · have h4 : Rk ak x z := by
              have := List.pairwise_iff_getElem.1 h.srt t (j - 1) (by omega) (by omega) (by omega)
              rw [htx] at this
              rw [List.getElem?_eq_getElem (by omega)] at hz
              rw [Option.some.inj hz] at this
              exact this
             rcases h4 with q | ⟨q, _⟩
             · exact .inl (by omega)
             · by_cases q2 : ak e < ak z
               · exact .inl (by omega)
               · exact .inr ⟨by omega, hxe⟩
     · exact s3 x hx y hy
theorem Rk.unique {ak : Nat → Nat} : ∀ {l m : List Nat}, l.Pairwise (Rk ak) → m.Pairwise (Rk ak) → l.Perm m → l = m
 | [], m, _, _, h => (List.nil_perm.1 h).symm
 | a :: l, [], _, _, h => by have := h.length_eq; simp at this
 | a :: l, b :: m, h1, h2, h => by
   obtain ⟨p1, p2⟩ := List.pairwise_cons.1 h1
   obtain ⟨q1, q2⟩ := List.pairwise_cons.1 h2
   have e : a = b := by
    have ha : a ∈ b :: m := h.mem_iff.1 (by simp)
    have hb : b ∈ a :: l := h.mem_iff.2 (by simp)
    rcases List.mem_cons.1 ha with e | ha
    · exact e
    · rcases List.mem_cons.1 hb with e | hb
      · exact e.symm
      · have r1 := q1 a ha
        have r2 := p1 b hb
        unfold Rk at r1 r2
        omega
   subst e
   rw [Rk.unique p2 q2 (List.Perm.cons_inv h)]
set_option maxHeartbeats 4000000 in
theorem insCmp_any (w : World) (g px ga len cap a sz : Nat) (ha : a = 0) (aks c : List Nat) (hC : CmpBox w px ga aks) (hg1 : g ≠ px) (hg2 : g ≠ ga) (hl : c.length = len) (hlen : len ≤ 65536) (hR : IRow sz w g c) (hc : c.Pairwise (· < ·)) (hk : ∀ x ∈ c, x < aks.length) :
 Calls Tryz.prog 109 #[.slice (some ⟨g, 0, none⟩) len cap, .int .i64 (a : Int), .int .i64 (len : Int), .func (.func 82) #[] #[.pointer (some ⟨px, 0, none⟩)]] w fun e w' => e = .returned (.tuple #[]) ∧ ∃ d, IRow sz w' g d ∧ Fr (· ≠ g) w w' ∧ d.Perm c ∧ d.Pairwise (Rk fun x => aks.getD x 0) := by
 have HA : Hid (a = 0) := ha
 clear ha
 have mo := follows
 have HCB : Hid (CmpBox w px ga aks) := hC
 have HR : Hid (IRow sz w g c) := hR
 have HL : Hid (c.length = len) := hl
 have HCC : Hid (c.Pairwise (· < ·)) := hc
 have HK : Hid (∀ x ∈ c, x < aks.length) := hk
 have HI0 : Hid (len = 0 ∨ InsI (fun x => aks.getD x 0) c 1 c) := by
  by_cases q : len = 0
  · exact .inl q
  · exact .inr (.one (by omega))
 clear hC hR hl hc hk
 go_enter Tryz.func109, Tryz.ntmps109
 go_wp2_with fail
 go_loopg [8] (len) (fun k s8 wr => ∃ (i : Nat) (d : List Nat), s8 = .int .i64 (i : Int) ∧ 1 ≤ i ∧ i + k = len + 1 ∧ Hid (IRow sz wr g d) ∧ Hid (Fr (· ≠ g) w wr) ∧ Hid (len = 0 ∧ d = c ∨ (1 ≤ len ∧ i ≤ len) ∧ InsI (fun x => aks.getD x 0) c i d))
 case atStart =>
  refine ⟨1, c, by rw [HA.out]; exact congrArg (Value.int .i64) (by unfold wrap64; omega), by omega, by omega, HR, Fr.refl _ _, ?_⟩
  by_cases q2 : len = 0
  · exact .inl ⟨q2, rfl⟩
  · exact .inr ⟨⟨by omega, by omega⟩, HI0.out.resolve_left q2⟩
 case round =>
  clear HR HI0
  obtain ⟨i, d, rfl, hi1, hik, R, F, I⟩ := hrel
  by_cases hib : i < len
  · obtain ⟨k, rfl⟩ : ∃ k, gk = k + 1 := ⟨gk - 1, by omega⟩
    have hi : (i : Int) < (len : Int) := by omega
    have hI : InsI (fun x => aks.getD x 0) c i d := by
     rcases I.out with ⟨q, _⟩ | ⟨_, q⟩
     · omega
     · exact q
    obtain ⟨e, he⟩ : ∃ e, d[i]? = some e := ⟨_, List.getElem?_eq_getElem (by rw [hI.len, HL.out]; exact hib)⟩
    have II : Hid (InsI (fun x => aks.getD x 0) c i d) := hI
    have HE : Hid (d[i]? = some e) := he
    obtain ⟨rest, hrest⟩ : ∃ rest, rest = d.take i ++ d.drop (i + 1) := ⟨_, rfl⟩
    have HRS : Hid (rest = d.take i ++ d.drop (i + 1)) := hrest
    have hdl : d.length = len := hI.len.trans HL.out
    have hrl : rest.length + 1 = len := by rw [hrest, List.length_append, List.length_take, List.length_drop]; omega
    have R0 : Hid (IRow sz wr g (atL rest e i)) := by
     have e2 := atL_split he
     rw [← hrest] at e2
     rw [← e2]; exact R.out
    have hmem : ∀ x, x ∈ rest ∨ x = e → x ∈ c := fun x hx => by
     have h1 : x ∈ d := by
      rcases hx with hx | rfl
      · rw [hrest] at hx
        rcases List.mem_append.1 hx with hx | hx
        · exact List.mem_of_mem_take hx
        · exact List.mem_of_mem_drop hx
      · exact List.mem_of_getElem? he
     rw [← List.take_append_drop i d] at h1
     rcases List.mem_append.1 h1 with h1 | h1
     · exact List.mem_of_mem_take (hI.perm.mem_iff.1 h1)
     · rw [hI.tail] at h1; exact List.mem_of_mem_drop h1
    have HME : Hid (∀ x, x ∈ rest ∨ x = e → x ∈ c) := hmem
    clear hI he hrest I R hmem
    go_wp2_with fail
    go_loopg [9] (i) (fun k' s9 wr2 => ∃ j : Nat, s9 = .int .i64 (j : Int) ∧ j ≤ i ∧ j ≤ k' ∧ Hid (IRow sz wr2 g (atL rest e j)) ∧ Hid (Fr (· ≠ g) w wr2) ∧ Hid (∀ t y, j ≤ t → t < i → rest[t]? = some y → aks.getD y 0 < aks.getD e 0))
    case atStart => exact ⟨i, rfl, by omega, by omega, R0, F, fun t y h1 h2 _ => by omega⟩
    case round =>
     clear R0 F
     obtain ⟨j, rfl, hji, hjk, R, F, A⟩ := hrel
     by_cases hj0 : 0 < j
     · obtain ⟨m, rfl⟩ : ∃ m, j = m + 1 := ⟨j - 1, by omega⟩
       obtain ⟨k2, rfl⟩ : ∃ k2, gk = k2 + 1 := ⟨gk - 1, by omega⟩
       obtain ⟨y, hy⟩ : ∃ y, rest[m]? = some y := ⟨_, List.getElem?_eq_getElem (by omega)⟩
       have ym : y < aks.length := HK.out y (HME.out y (.inl (List.mem_of_getElem? hy)))
       have em : e < aks.length := HK.out e (HME.out e (.inr rfl))
       obtain ⟨ay, hay⟩ : ∃ a, aks[y]? = some a := ⟨_, List.getElem?_eq_getElem ym⟩
       obtain ⟨ae, hae⟩ : ∃ a, aks[e]? = some a := ⟨_, List.getElem?_eq_getElem em⟩
       have gy : aks.getD y 0 = ay := by rw [List.getD_eq_getElem?_getD, hay]; rfl
       have ge : aks.getD e 0 = ae := by rw [List.getD_eq_getElem?_getD, hae]; rfl
       have q1 : (atL rest e (m + 1))[m + 1]? = some e := atL_at (by omega)
       have q0 : (atL rest e (m + 1))[m]? = some y := by rw [atL_get (by omega), if_pos (by omega)]; exact hy
       have c1 := cell_grown R.out.lt (R.out.cell q1)
       have c0 := cell_grown R.out.lt (R.out.cell q0)
       have i1 : (a : Int) < (m : Int) + 1 := by rw [HA.out]; omega
       have i2 : (m : Int) + 1 < (len : Int) := by omega
       have i3 : (m : Int) < (len : Int) := by omega
       have i4 : (0 : Int) ≤ (m : Int) + 1 := by omega
       have i5 : (0 : Int) ≤ (m : Int) := by omega
       have rm : IntKind.i64.wrap (m : Int) = (m : Int) := by rw [IntKind.wrap_i64]; omega
       have em : ((m : Int)).toNat = m := by omega
       have em1 : ((m : Int) + 1).toNat = m + 1 := by omega
       have HC : Hid (∀ q os, Calls Tryz.prog 82 #[.int .i64 (e : Int), .int .i64 (y : Int), .pointer (some ⟨px, 0, none⟩)] (grow (wr.drewN q) os) fun e w' => e = .returned (.int .i64 (cmpI (ay : Int) (ae : Int))) ∧ Grew (grow (wr.drewN q) os) w') := fun q os => by
        have fq : Fr (· ≠ g) w (grow (wr.drewN q) os) := F.out.trans (Fr.grew ((Grew.refl _).grown q os))
        refine cmp1_any _ px ga aks ?_ e y ae ay hae hay
        obtain ⟨⟨cp, b1⟩, mb, b2⟩ := HCB.out
        exact ⟨⟨cp, (World.cell?_of_block (w := w) (fq.block px (World.block_lt_of_cell? w _ b1) (Ne.symm hg1))).trans b1⟩, mb, b2.of (fq.block ga b2.lt (Ne.symm hg2))⟩
       have HQ1 : Hid ((atL rest e (m + 1))[m + 1]? = some e) := q1
       have HQ0 : Hid ((atL rest e (m + 1))[m]? = some y) := q0
       have HY : Hid (rest[m]? = some y) := hy
       by_cases hlt : ay < ae
       · have hcv : cmpI (ay : Int) (ae : Int) = -1 := if_pos (by omega)
         have A2 : Hid (∀ t y, m ≤ t → t < i → rest[t]? = some y → aks.getD y 0 < aks.getD e 0) := fun t z h1 h2 h3 => by
          by_cases q : t = m
          · rw [q, HY.out] at h3; cases h3; rw [gy, ge]; exact hlt
          · exact A.out t z (by omega) h2 h3
         rw [hcv] at HC
         have hcb : decide ((-1 : Int) < 0) = true := by decide
         clear q1 q0 hy hay hae hcv A
         go_wp2_with fail
         go_quiet_grown (first | (go_at_call 82; refine Calls.grown_of (HC.out _ _)))
         have HF1 : Fr (· ≠ g) w (grow (wr.drewN nq) osq) := F.out.trans (Fr.grew ((Grew.refl _).grown nq osq))
         have HL1 : IRow sz (grow (wr.drewN nq) osq) g (atL rest e (m + 1)) := R.out.of ((Fr.grew (P := fun _ => True) ((Grew.refl wr).grown nq osq)).block g R.out.lt trivial)
         clear c1 c0 R F HC
         generalize grow (wr.drewN nq) osq = W at HL1 HF1 ⊢
         clear nq osq
         have c1 := HL1.cell HQ1.out
         have c0 := HL1.cell HQ0.out
         have HLD : IRow sz W.drew g (atL rest e (m + 1)) := HL1.of rfl
         have d1 := HLD.cell HQ1.out
         have d0 := HLD.cell HQ0.out
         have z1 := HL1.frz (m + 1)
         have z0 := HL1.frz m
         have y1 := HLD.frz (m + 1)
         have y0 := HLD.frz m
         have hs2 : ((atL rest e (m + 1)).set (m + 1) y).set m e = atL rest e m := by
          rw [List.set_comm _ _ (by omega)]; exact atL_down (by omega) HQ0.out
         have HL2 : Hid (IRow sz ((W.setCell ⟨g, m + 1, none⟩ (.int .i64 (y : Int))).setCell ⟨g, m, none⟩ (.int .i64 (e : Int))).drew g (atL rest e m)) := by
          have := (HL1.set (m + 1) y).set m e
          rw [hs2] at this
          exact this.of rfl
         have HF2 : Hid (Fr (· ≠ g) w ((W.setCell ⟨g, m + 1, none⟩ (.int .i64 (y : Int))).setCell ⟨g, m, none⟩ (.int .i64 (e : Int))).drew) := ((HF1.set (p := ⟨g, m + 1, none⟩) (by simp) _).set (p := ⟨g, m, none⟩) (by simp) _).drew
         have hmm : m ≠ m + 1 := by omega
         clear HL1 HF1 HLD hs2
         go_wp2_with fail
         go_big_region_o
         go_wp2_with fail
         go_roundg k2
         case measure => omega
         case rel => exact ⟨m, by simp, by omega, by omega, HL2, HF2, A2⟩
       · have hcv : ¬ cmpI (ay : Int) (ae : Int) < 0 := by
          unfold cmpI
          rw [if_neg (by omega)]
          split <;> omega
         have HI2 : Hid (InsI (fun x => aks.getD x 0) c (i + 1) (atL rest e (m + 1))) := II.out.step HCC.out HE.out HRS.out hji (fun t z h1 h2 h3 => A.out t z h1 h2 h3) (.inr fun z hz => by
          rw [Nat.add_sub_cancel, HY.out] at hz
          cases hz
          show ¬ aks.getD y 0 < aks.getD e 0
          rw [gy, ge]; exact hlt)
         generalize cmpI (ay : Int) (ae : Int) = cv at HC hcv
         have hcb : decide (cv < 0) = false := by simpa using hcv
         clear q1 q0 hy hay hae A
         go_wp2_with fail
         go_quiet_grown (first | (go_at_call 82; refine Calls.grown_of (HC.out _ _)))
         have HF1 : Hid (Fr (· ≠ g) w (grow (wr.drewN nq) osq)) := F.out.trans (Fr.grew ((Grew.refl _).grown nq osq))
         have HL1 : Hid (IRow sz (grow (wr.drewN nq) osq) g (atL rest e (m + 1))) := R.out.of ((Fr.grew (P := fun _ => True) ((Grew.refl wr).grown nq osq)).block g R.out.lt trivial)
         clear c1 c0 R F HC
         generalize grow (wr.drewN nq) osq = W at HL1 HF1 ⊢
         clear nq osq
         go_wp2_with fail
         go_roundg k
         case measure => omega
         case rel => exact ⟨i + 1, _, by simp, by omega, by omega, HL1, HF1, .inr ⟨⟨by omega, by omega⟩, HI2⟩⟩
     · obtain rfl : j = 0 := by omega
       have HI2 : Hid (InsI (fun x => aks.getD x 0) c (i + 1) (atL rest e 0)) := II.out.step HCC.out HE.out HRS.out hji (fun t z h1 h2 h3 => A.out t z h1 h2 h3) (.inl rfl)
       have hgd : decide ((a : Int) < ((0 : Nat) : Int)) = false := by rw [HA.out]; rfl
       have hgd2 : decide ((a : Int) < 0) = false := by rw [HA.out]; rfl
       go_wp2_with fail
       go_quiet (fail)
       have HF1 : Hid (Fr (· ≠ g) w (wr.drewN nq)) := F.out.trans (Fr.grew ((Grew.refl _).drewN nq))
       have HL1 : Hid (IRow sz (wr.drewN nq) g (atL rest e 0)) := R.out.of rfl
       clear R F
       generalize wr.drewN nq = W at HL1 HF1 ⊢
       clear nq
       go_wp2_with fail
       go_roundg k
       case measure => omega
       case rel => exact ⟨i + 1, _, by simp, by omega, by omega, HL1, HF1, .inr ⟨⟨by omega, by omega⟩, HI2⟩⟩
  · have hi : ¬ (i : Int) < (len : Int) := by omega
    go_wp2_with fail
    go_end0
    refine ⟨rfl, d, R.out, F.out, ?_⟩
    rcases I.out with ⟨q, rfl⟩ | ⟨q, I⟩
    · have : d = [] := List.eq_nil_of_length_eq_zero (HL.out.trans q)
      subst this
      exact ⟨List.Perm.refl _, List.Pairwise.nil⟩
    · have hie : i = len := by omega
      have h1 : d.length = len := I.len.trans HL.out
      have p1 := I.perm
      have p2 := I.srt
      rw [List.take_of_length_le (by omega)] at p1 p2
      rw [List.take_of_length_le (by rw [HL.out]; omega)] at p1
      exact ⟨p1, p2⟩
end Go.Proofs.YtaakjjefnjbabaaGreat.Sx
