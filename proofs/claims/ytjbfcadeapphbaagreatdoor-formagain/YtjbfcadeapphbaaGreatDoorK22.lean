/- The number of an error, for expressions: errors.As, Told, and what compares it. -/
import Derived.Test.YtjbfcadeapphbaaGreatDoorK21
import Derived.WalkKit
import Derived.LaidEql
import Derived.Stop.Asserts
import Derived.RowKitTokens
namespace Go.Proofs.YtjbfcadeapphbaaGreatDoor.Sx
open Go.RowKit Go.Extern.Stop Go.Stop Go.Extern
end Go.Proofs.YtjbfcadeapphbaaGreatDoor.Sx
namespace Go.Proofs.YtjbfcadeapphbaaGreatDoor.Sx
open Go.RowKit Go.Sort
structure Vf (w:World):Prop where
 env:6<w.heap.size/\(∃ev,w.cell? ⟨6,0,none⟩=some ev/\(ev=.nilIface\/∃te pe,ev=.iface te pe))/\∃ev,w.cell? ⟨5,0,none⟩=some ev/\(ev=.nilIface\/∃te pe,ev=.iface te pe)
 tab : Lib.TabIs Tryz.prog w "internal/strconv.uint64pow10" .u64 Lib.pow10Tab
 et:w.cell? ⟨0,0,none⟩=some (.iface 171 (.agg #[.pointer (some ⟨7,23,none⟩)]))
def Tp (f:FuncId)(args:Array Value)(w:World)(r:Value):Prop:=Calls Tryz.prog f args w fun e w'=>e=.returned r/\Below w.heap.size w w'
theorem bC {w:World}{v:Value}(h:w.cell? ⟨0,0,none⟩=some v):0<w.heap.size:=by
 rcases Nat.eq_zero_or_pos w.heap.size with a|b
 ·simp[World.cell?,a] at h
 ·exact b
theorem Xy {w w':World}(hb:Below w.heap.size w w'){v:Value}(h:w.cell? ⟨0,0,none⟩=some v):w'.cell? ⟨0,0,none⟩=some v:=by
 have:=hb.block 0 (bC h);simp only[World.cell?] at h |-;rw[this];exact h
theorem Vf.below {w w':World}(h:Vf w)(hb:Below w.heap.size w w'):Vf w':=by
 obtain⟨a,⟨b,d,e⟩,c,f,g⟩:=h.env;exact⟨⟨Nat.lt_of_lt_of_le a hb.size,⟨b,(hb.cell (p:=⟨6,0,none⟩) a).trans d,e⟩,c,(hb.cell (p:=⟨5,0,none⟩) (by show 5<_;omega)).trans f,g⟩,Hn hb (by omega) h.tab,Xy hb h.et⟩
theorem Vf.envF {w:World}(h:Vf w):Bl w w.heap.size:=⟨by have:=h.env.1;omega,h.env.1,h.env.2.1,by have:=h.env.1;omega,h.env.2.2⟩
end Go.Proofs.YtjbfcadeapphbaaGreatDoor.Sx
