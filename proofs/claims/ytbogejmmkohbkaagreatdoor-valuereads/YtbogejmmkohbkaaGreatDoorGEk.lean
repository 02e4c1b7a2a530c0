/- The reference as text: any value. -/
import Derived.Test.YtbogejmmkohbkaaGreatDoorGEg
import Derived.Test.YtbogejmmkohbkaaGreatDoorGEh
import Derived.Test.YtbogejmmkohbkaaGreatDoorGEi
import Derived.Test.YtbogejmmkohbkaaGreatDoorGEj
namespace Go.Proofs.YtbogejmmkohbkaaGreatDoor.Sx
open Go.RowKit Go.Sort

theorem rshow_step (n : Nat) (hC : ShR n) : ShR (n + 1) := by
  intro P w a v ha hw hb
  rcases hw with rfl | ⟨b, rfl⟩ | ⟨i, rfl, i1, i2⟩ | ⟨l, rfl, _⟩ | ⟨l, rfl, _⟩ | ⟨es, rfl, we, _, _⟩ | ⟨ks, vs, rfl, wk, wv, _, hlen, _⟩
  · exact rshow_nil n hC P w v ha hb
  · exact rshow_bool n hC P w v b ha hb
  · exact rshow_int n hC P w v i i1 i2 ha hb
  · exact rshow_text n hC P w v l ha hb
  · exact rshow_atom n hC P w v l ha hb
  · exact rshow_set n hC P w v es we ha hb
  · by_cases hc : counts (numOf n) ks = true
    · exact rshow_seq n hC P w v ks vs wk wv hlen hc ha hb
    · exact rshow_fn n hC P w v ks vs wk wv hlen hc ha hb
end Go.Proofs.YtbogejmmkohbkaaGreatDoor.Sx
