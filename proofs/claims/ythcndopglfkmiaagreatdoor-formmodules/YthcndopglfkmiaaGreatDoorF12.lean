/- A text is read whole. -/
import Derived.Test.YthcndopglfkmiaaGreatDoorF11
import Derived.Recover
import Derived.Test.YthcndopglfkmiaaGreatDoorF04
import Derived.Test.YthcndopglfkmiaaGreatDoorShelf
namespace Go.Proofs.YthcndopglfkmiaaGreatDoor.Sx
open Go.RowKit Go.Sort
theorem Mx (x:Value)(w:World):(Instr.typeAssert (.iface 106 x) 20 106 true).run Tryz.prog w=.ok (.tuple #[x,.bool true]) w:=by kernel_rfl
attribute [local go_sem] Mx
end Go.Proofs.YthcndopglfkmiaaGreatDoor.Sx
namespace Go.Proofs.YthcndopglfkmiaaGreatDoor.Sx
set_option maxRecDepth 100000
open Go.RowKit Go.Sort
theorem Ui (s:ByteArray)(w:World)(hs:s.size<=4000):Calls Tryz.prog 49 #[.string s] w fun e w'=>e=.returned (.string s)/\Below w.heap.size w w':=by
 have c:Hid (Calls _ _ _ _ _):=Tryz.stringslite_Clone s w (by omega);go_enter Tryz.func49,Tryz.ntmps49
 go_wp2_with (go_at_call 82;refine c.out.mono ?_;rintro e w' ⟨rfl,a⟩;have b:Hid (Below w.heap.size w w'):=a;clear a)
 go_ret
 exact⟨rfl,b.out⟩
theorem Fr.newer {P:Nat->Prop}{w w0 w':World}(h:Fr (fun _=>True) w w0)(f:Fr P w0 w')(hp:∀k,k<w.heap.size->P k):Fr (fun _=>True) w w' :=
 ⟨f.os.trans h.os,f.tape.trans h.tape,f.output.trans h.output,Nat.le_trans h.size f.size,fun k hk _=>(f.block k (Nat.lt_of_lt_of_le hk h.size) (hp k hk)).trans (h.block k hk trivial)⟩
theorem Cc.at {w w':World}{br:Nat}(h:Cc w w.heap.size)(f:Fr (fun _=>True) w w')(hb:w.heap.size<=br):Cc w' br:=by
 obtain⟨j,a,⟨b,d,e⟩,k,c,g,i⟩:=h;exact⟨by omega,Nat.lt_of_lt_of_le a f.size,⟨b,(World.cell?_of_block (w:=w) (f.block 6 a trivial)).trans d,e⟩,by omega,c,(World.cell?_of_block (w:=w) (f.block 5 (by omega) trivial)).trans g,i⟩
end Go.Proofs.YthcndopglfkmiaaGreatDoor.Sx
