/- A block that is none of the table's may have any tag; what the zero rows of a make are. -/
import Derived.Test.YtaakjjefnjbabaaGreatQ18
set_option maxRecDepth 100000
namespace Go.Proofs.YtaakjjefnjbabaaGreat.Sx
open Go.RowKit Go.Sort Go.Maps Go.WideMaps
def tag1 (own : Nat → Nat) (o x b : Nat) : Nat := if b = o then x else own b
section
variable {w : World} {tb : Nat} {L : Ly} {T : Tb}
theorem TAt.retag (h : TAt w tb L T) {o : Nat} (x : Nat) (ho : o < w.heap.size) (h1 : tb ≠ o) (h2 : ∀ t, 2 ≤ t → t ≤ 6 → (L.val t).ownBlock ≠ some o) (h3 : L.mb ≠ o) (h4 : L.fb ≠ o) : TAt w tb { L with own := tag1 L.own o x } T := by
 have key : ∀ b, b ≠ o → tag1 L.own o x b = L.own b := fun b hb => by unfold tag1; rw [if_neg hb]
 refine ⟨⟨fun k => ⟨(h.k.st k).1, ?_⟩, fun t a b k => ⟨(h.k.sl t a b k).1, fun g hg => ?_⟩, fun k => ⟨(h.k.md k).1, ?_, (h.k.md k).2.2⟩, fun k => ⟨(h.k.fd k).1, ?_, (h.k.fd k).2.2⟩⟩, fun b hb => ?_⟩
 · exact (key _ h1).trans (h.k.st k).2
 · exact (key _ fun e => h2 t a b (by rw [← e]; exact hg)).trans ((h.k.sl t a b k).2 g hg)
 · exact (key _ h3).trans (h.k.md k).2.1
 · exact (key _ h4).trans (h.k.fd k).2.1
 · exact (key _ (by omega)).trans (h.hi b hb)
end
def zrow : Rw := ⟨0, 0, 0, 0, false⟩
theorem made_rows (m : Nat) : madeCells (rwV zrow).toArray (m * 5) = (flatR (List.replicate m zrow)).toArray := by
 apply Array.ext
 · rw [size_madeCells, List.size_toArray, flatR_len, List.length_replicate]
 · intro i h1 h2
   rw [size_madeCells] at h1
   have hr : (List.replicate m zrow)[i / 5]? = some zrow := by rw [List.getElem?_replicate, if_pos (by omega)]
   have hx := flatR_at (List.replicate m zrow) (i / 5) (i % 5) zrow hr (Nat.mod_lt _ (by omega))
   have hi : i / 5 * 5 + i % 5 = i := by omega
   rw [hi] at hx
   have h3 : i < (flatR (List.replicate m zrow)).length := by rw [flatR_len, List.length_replicate]; exact h1
   rw [List.getElem?_eq_getElem h3] at hx
   have h5 : i % 5 < 5 := Nat.mod_lt _ (by omega)
   have hz : (rwV zrow).toArray.size = 5 := rfl
   simp only [madeCells, Array.getElem_map, Array.getElem_range, hz, List.getElem_toArray]
   rw [List.getElem?_eq_getElem (show i % 5 < (rwV zrow).length from h5)] at hx
   rw [Option.some.inj hx, getElem!_pos (rwV zrow).toArray (i % 5) (by rw [hz]; exact h5)]
   rfl
end Go.Proofs.YtaakjjefnjbabaaGreat.Sx
