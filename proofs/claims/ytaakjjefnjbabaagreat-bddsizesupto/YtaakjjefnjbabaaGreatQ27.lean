/- A row of numbers is copied onto a table's. -/
import Derived.Test.YtaakjjefnjbabaaGreatQ26
import Derived.Laws.CopyOwn
set_option maxRecDepth 100000
namespace Go.Proofs.YtaakjjefnjbabaaGreat.Sx
open Go.RowKit Go.Sort Go.Maps Go.WideMaps
section
variable {w : World} {tb : Nat} {L : Ly} {T T' : Tb}
theorem TAt.copyI (h : TAt w tb L T) {t : Nat} (h1 : 2 ≤ t) (h2 : t ≤ 3) {l : List Nat} (hl : T.len t = l.length) {k : List Nat} (hk : T.cells t = i64C k) {a' : Option Addr} {cap' : Nat} (hsrc : IntsV w a' (nodesI l)) (hs : Same t T T') (hc' : T'.cells t = i64C l) (hn' : T'.len t = l.length) (hkl : k.length = l.length) (ty : TypeId) :
 ∃ w', (Builtin.copy_ #[27, 27] ty #[L.val t, .slice a' l.length cap']).run Tryz.prog w = .ok (.int .i64 (l.length : Int)) w' ∧ TAt w' tb L T' ∧ FrT L L w w' := by
 obtain ⟨i0, hi0, hz0, hz1, hz2⟩ := infoInt
 have hsz : (Tryz.prog.info? 3).map (·.size) = some 1 := by rw [hi0]; exact congrArg some hz1
 have h4 := h.sl t h1 (by omega) trivial
 have hety : ety t = 3 := by unfold ety; rw [if_neg (by omega), if_pos h2]
 have hesz : esz t = 1 := by unfold esz; rw [if_neg (by omega)]
 rw [hety, hesz, hl, hk] at h4
 rcases h4.1.2 with ⟨e, hn⟩ | ⟨g, cap, cur, e, g1, g2, g3, g5, g6, g7⟩
 · have hl0 : l = [] := List.eq_nil_of_length_eq_zero hn
   have hk0 : k = [] := List.eq_nil_of_length_eq_zero (hkl.trans hn)
   subst hl0
   refine ⟨w, ?_, ?_, FrT.refl _ _⟩
   · rw [e]
     exact run_copy_none (P := Tryz.prog) w _ _ ty 3 none a' 0 0 0 cap' Tryz.underlying27 hsz (by simp)
   · have hk2 : TAtK (· ≠ t) w tb L T := h.mono
     refine ⟨hk2.join (t := t) hs (by omega) ⟨fun q => absurd q (by omega), fun s _ _ q => ?_, fun q => absurd q (by omega), fun q => absurd q (by omega)⟩, h.hi⟩
     subst q
     rw [hc', hn', hety, hesz]
     rw [hk0] at h4
     exact h4
 · have ho : L.own g = t := h4.2 g (by rw [e]; rfl)
   have hgs : ∀ j v, (i64C l)[j]? = some v → ∃ q, a' = some q ∧ w.cell? (q.add j) = some v := fun j v hv => by
    unfold i64C at hv
    rw [List.getElem?_map] at hv
    cases q : l[j]? with
    | none => rw [q] at hv; cases hv
    | some x =>
      rw [q] at hv; cases hv
      exact hsrc.cell j (x : Int) (by unfold nodesI; rw [List.getElem?_map, q]; rfl)
   have hil : (i64C l).length = l.length := by simp [i64C]
   have hsize : l.length ≤ cur.size := by
    have := congrArg List.length g7
    simp only [List.length_take, Array.length_toList] at this
    rw [show (i64C k).length = l.length by rw [← hkl]; simp [i64C]] at this
    omega
   by_cases h0 : l.length = 0
   · have hl0 : l = [] := List.eq_nil_of_length_eq_zero h0
     have hk0 : k = [] := List.eq_nil_of_length_eq_zero (hkl.trans h0)
     subst hl0
     refine ⟨w, ?_, ?_, FrT.refl _ _⟩
     · rw [e]
       exact run_copy_none (P := Tryz.prog) w _ _ ty 3 _ a' 0 cap 0 cap' Tryz.underlying27 hsz (by simp)
     · have hk2 : TAtK (· ≠ t) w tb L T := h.mono
       refine ⟨hk2.join (t := t) hs (by omega) ⟨fun q => absurd q (by omega), fun s _ _ q => ?_, fun q => absurd q (by omega), fun q => absurd q (by omega)⟩, h.hi⟩
       subst q
       rw [hc', hn', hety, hesz]
       rw [hk0] at h4
       exact h4
   · obtain ⟨ad, rfl⟩ : ∃ ad, a' = some ad := by
      obtain ⟨x, hx⟩ : ∃ x, l[0]? = some x := ⟨_, List.getElem?_eq_getElem (by omega)⟩
      obtain ⟨q, e, _⟩ := hsrc.cell 0 (x : Int) (by unfold nodesI; rw [List.getElem?_map, hx]; rfl)
      exact ⟨q, e⟩
     have hrun := run_copy_row (P := Tryz.prog) w 27 27 ty 3 g 0 l.length cap ad l.length cap' cur 3 (i64C l) Tryz.underlying27 hsz g2 (by rw [hil]; exact (Nat.min_self _).symm) (fun j v hv => by
      obtain ⟨q, e, hc⟩ := hgs j v hv
      cases e; exact hc) (by rw [hil]; omega) (fun v hv => by
      obtain ⟨x, _, rfl⟩ := List.mem_map.1 hv
      rfl)
     rw [hil] at hrun
     have f1 : Fr (· ≠ g) w (w.setRow g (cur.toList.take 0 ++ i64C l ++ cur.toList.drop (0 + l.length)).toArray) := ⟨rfl, rfl, rfl, by simp [World.setRow], fun k _ hk => setRow_other w g k _ hk⟩
     refine ⟨_, by rw [e]; exact hrun, ?_, FrT.of f1 fun b _ h0 e => by rw [e, ho] at h0; omega⟩
     have hkk : TAtK (· ≠ t) (w.setRow g (cur.toList.take 0 ++ i64C l ++ cur.toList.drop (0 + l.length)).toArray) tb L T := (h.mono (K := (· ≠ t))).fr fun b hb q => f1.block b hb fun e => q (by rw [e]; exact ho)
     refine ⟨hkk.join (t := t) hs (by omega) ⟨fun q => absurd q (by omega), fun s _ _ q => ?_, fun q => absurd q (by omega), fun q => absurd q (by omega)⟩, fun b hb => h.hi b (by simpa [World.setRow] using hb)⟩
     subst q
     rw [hc', hn', hety, hesz]
     refine ⟨⟨by rw [hil]; omega, .inr ⟨g, cap, _, e, g1, setRow_heap w g cur _ _ _ g2, g3, g5, ?_, ?_⟩⟩, h4.2⟩
     · simp; omega
     · simp [hil]
end
end Go.Proofs.YtaakjjefnjbabaaGreat.Sx
