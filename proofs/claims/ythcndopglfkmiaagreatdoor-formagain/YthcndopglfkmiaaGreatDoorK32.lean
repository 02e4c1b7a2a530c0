/- The reference: expressions that begin with a word that binds. -/
import Derived.Test.YthcndopglfkmiaaGreatDoorK31
namespace Go.Proofs.YthcndopglfkmiaaGreatDoor.Sx
open Go.RowKit Go.Sort
theorem LTS.congr {w:World}{lo n:Nat}{sl:Value}{es es':List PX}{c:Prop}(h:LTS w lo sl n es c)(e:c->es=es'):LTS w lo sl n es' c:=by
 obtain⟨d,a,b⟩:=h;exact⟨d,a,fun q=>by rw[<- e q];exact b q⟩
theorem Hf.new (w:World)(op tx nm:ByteArray)(a k n:Int):Hf (w.alloc (.cells #[.string op,.int .i64 a,.string nm,.int .i64 k,.int .i64 n,.string tx,.slice none 0 0,.slice none 0 0,.slice none 0 0,.int .i64 0,.int .i64 0] 122)) w.heap.size op a nm k n tx none 0 0:=Ak rfl
theorem RSd.open {K:Nat->Tk}{N br bl i d:Nat}{w:World}(h:RSd K N w br bl (.ok i) d):∃(cap:Nat)(bad dd:Int),S9 w br bl N cap i dd 0 bad/\i<=N/\bl≠br/\bl<w.heap.size/\w.cell? ⟨bl,i*3,none⟩=some (.int .u8 (dL (K i).cl:Int))/\w.cell? ⟨bl,i*3+1,none⟩=some (.string (iB (K i)))/\w.cell? ⟨bl,i*3+2,none⟩=some (.int .i64 ((K i).at':Int)):=by
 obtain⟨dd,h,-⟩:=h;obtain⟨cap,I,bad,e,c,b,a,g,j,k,f⟩:=h.open;obtain rfl:=f i rfl;exact⟨cap,bad,dd,e,c,b,a,g,j,k⟩
theorem Zf.from {K:Nat->Tk}{N:Nat}{w w1:World}{br bl d:Nat}{r:Except (Nat×Nat) (PX×Nat)}{e:Ending}{w':World}(F:Fr (·≠br) w w1)(h:Zf K N w1 br bl d r e w'):Zf K N w br bl d r e w':=by
 obtain⟨a,c,b,f,g⟩:=h;have:=F.size;exact⟨F.trans a,c,b,f,fun x j q=>(g x j q).fr (Fr.refl _ _) fun _ _ q=>by omega⟩
theorem Fr.freshT {br be:Nat}{w w2 w3:World}(F:Fr (·≠br) w w2)(hf:Fr (fun k=>k≠br/\k≠be) w2 w3)(h:w.heap.size<=be):Fr (·≠br) w w3 :=
 ⟨hf.os.trans F.os,hf.tape.trans F.tape,hf.output.trans F.output,Nat.le_trans F.size hf.size,fun k hk hq=>(hf.block k (Nat.lt_of_lt_of_le hk F.size) ⟨hq,by omega⟩).trans (F.block k hk hq)⟩
end Go.Proofs.YthcndopglfkmiaaGreatDoor.Sx
