/- The reference: what begins with a word: fixed words. -/
import Derived.Test.YtjbfcadeapphbaaGreatDoorK31
namespace Go.Proofs.YtjbfcadeapphbaaGreatDoor.Sx
open Go.RowKit Go.Sort
theorem Hg.new (w:World)(op tx nm:ByteArray)(a k n:Int):Hg (w.alloc (.cells #[.string op,.int .i64 a,.string nm,.int .i64 k,.int .i64 n,.string tx,.slice none 0 0,.slice none 0 0,.slice none 0 0,.int .i64 0,.int .i64 0] 95)) w.heap.size op a nm k n tx none 0 0:=Aj rfl
theorem RSd.open {K:Nat->Tk}{N br bl i d:Nat}{w:World}(h:RSd K N w br bl (.ok i) d):∃(cap:Nat)(bad dd:Int),Td w br bl N cap i dd 0 bad/\i<=N/\bl≠br/\bl<w.heap.size/\w.cell? ⟨bl,i*3,none⟩=some (.int .u8 (dP (K i).cl:Int))/\w.cell? ⟨bl,i*3+1,none⟩=some (.string (iG (K i)))/\w.cell? ⟨bl,i*3+2,none⟩=some (.int .i64 ((K i).at':Int)):=by
 obtain⟨dd,h,-⟩:=h;obtain⟨cap,I,bad,e,c,b,a,g,j,k,f⟩:=h.open;obtain rfl:=f i rfl;exact⟨cap,bad,dd,e,c,b,a,g,j,k⟩
theorem Zj.from {K:Nat->Tk}{N:Nat}{w w1:World}{br bl d:Nat}{r:Except (Nat×Nat) (PX×Nat)}{e:Ending}{w':World}(F:Fr (·≠br) w w1)(h:Zj K N w1 br bl d r e w'):Zj K N w br bl d r e w':=by
 obtain⟨a,c,b,f,g⟩:=h;have:=F.size;exact⟨F.trans a,c,b,f,fun x j q=>(g x j q).fr (Fr.refl _ _) fun _ _ q=>by omega⟩
theorem Fr.freshT {br be:Nat}{w w2 w3:World}(F:Fr (·≠br) w w2)(hf:Fr (fun k=>k≠br/\k≠be) w2 w3)(h:w.heap.size<=be):Fr (·≠br) w w3 :=
 ⟨hf.os.trans F.os,hf.tape.trans F.tape,hf.output.trans F.output,Nat.le_trans F.size hf.size,fun k hk hq=>(hf.block k (Nat.lt_of_lt_of_le hk F.size) ⟨hq,by omega⟩).trans (F.block k hk hq)⟩
def gU (K:Nat->Tk)(N:Nat)(w:World)(br bl be d:Nat)(r:Except (Nat×Nat) (PX×Nat))(e:Ending)(w':World):Prop :=
 Fr (fun k=>k≠br/\k≠be) w w'/\RSd K N w' br bl (stX r) d/\e=.returned (.pointer (some ⟨be,0,none⟩))/\∀x j,r=.ok (x,j)->Gt (fun k=>k=be\/w.heap.size<=k) w' x (.pointer (some ⟨be,0,none⟩))
theorem RSd.block {K:Nat->Tk}{N br bl i d:Nat}{w:World}(h:RSd K N w br bl (.ok i) d):w.cell? ⟨br,1,none⟩=some (.int .i64 (i:Int))/\w.frozen? ⟨br,1,none⟩=false:=by
 obtain⟨g,⟨c,I,b,a,j,e,k,f⟩,-⟩:=h;obtain rfl:I=i:=f;exact⟨Aa a 1,Ac a 1⟩
end Go.Proofs.YtjbfcadeapphbaaGreatDoor.Sx
