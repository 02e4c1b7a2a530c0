/- The reference: one of several; taking, wanting, levels. -/
import Derived.Test.YtjbfcadeapphbaaGreatDoorK08
import Derived.Test.YtjbfcadeapphbaaGreatDoorK05
import Derived.Deep.Cut
namespace Go.Proofs.YtjbfcadeapphbaaGreatDoor.Sx
open Go.RowKit Go.Sort
abbrev SX:=Except (Nat×Nat) Nat
def stX {β:Type}(r:Except (Nat×Nat) (β×Nat)):SX:=match r with | .ok (_,j)=>.ok j | .error e=>.error e
def OkS (s:SX):Prop:=∃i,s=.ok i
section
variable (K:Nat->Tk)
def ec (s:SX):Int:=match s with | .ok _=>0 | .error (c,_)=>(c:Int)
def dP (c:Nat):Nat:=if c=0 then 101 else if c=1 then 119 else if c=2 then 48 else if c=3 then 34 else if c=4 then 111 else 120
def iG (t:Tk):ByteArray:=if t.cl=5 then⟨#[]⟩ else⟨t.tx.toArray⟩
def Tc (N bl:Nat)(w:World):Prop:=bl<w.heap.size/\∀i,i<=N->w.cell? ⟨bl,i*3,none⟩=some (.int .u8 (dP (K i).cl:Int))/\w.cell? ⟨bl,i*3+1,none⟩=some (.string (iG (K i)))/\w.cell? ⟨bl,i*3+2,none⟩=some (.int .i64 ((K i).at':Int))
def Td (w:World)(br bl N cap I:Nat)(d e bad:Int):Prop :=
 w.heap[br]?=some (.cells #[.slice (some ⟨bl,0,none⟩) (N+1) cap,.int .i64 (I:Int),.int .i64 d,.int .i64 e,.int .i64 bad] 52 (0,0))
def RS (N:Nat)(w:World)(br bl:Nat)(s:SX)(d:Int):Prop :=
 ∃(cap I:Nat)(bad:Int),Td w br bl N cap I d (ec s) bad/\I<=N/\bl≠br/\Tc K N bl w/\(match s with | .ok i=>I=i | .error (c,p)=>c≠0/\bad=(p:Int))
end
theorem Tc.of {K:Nat->Tk}{N bl:Nat}{w w':World}{P:Nat->Prop}(h:Tc K N bl w)(f:Fr P w w')(hp:P bl):Tc K N bl w':=by
 refine⟨Nat.lt_of_lt_of_le h.1 f.size,fun i hi=>?_⟩;obtain⟨b,c,d⟩:=h.2 i hi;have a:=f.block bl h.1 hp;exact⟨(World.cell?_of_block (w:=w) a).trans b,(World.cell?_of_block (w:=w) a).trans c,(World.cell?_of_block (w:=w) a).trans d⟩
theorem RS.of {K:Nat->Tk}{N br bl:Nat}{w w':World}{s:SX}{d:Int}{P:Nat->Prop}(h:RS K N w br bl s d)(f:Fr P w w')(h1:P br)(h2:P bl):RS K N w' br bl s d:=by
 obtain⟨b,I,a,e,g,c,i,j⟩:=h;exact⟨b,I,a,(f.block br (Ab e) h1).trans e,g,c,i.of f h2,j⟩
theorem RS.lt {K:Nat->Tk}{N br bl:Nat}{w:World}{s:SX}{d:Int}(h:RS K N w br bl s d):br<w.heap.size:=by
 obtain⟨b,I,a,c,-⟩:=h;exact Ab c
theorem RS.open {K:Nat->Tk}{N:Nat}{w:World}{br bl:Nat}{s:SX}{d:Int}(h:RS K N w br bl s d):∃(cap I:Nat)(bad:Int),Td w br bl N cap I d (ec s) bad/\I<=N/\bl≠br/\bl<w.heap.size/\w.cell? ⟨bl,I*3,none⟩=some (.int .u8 (dP (K I).cl:Int))/\w.cell? ⟨bl,I*3+1,none⟩=some (.string (iG (K I)))/\w.cell? ⟨bl,I*3+2,none⟩=some (.int .i64 ((K I).at':Int))/\(∀i,s=.ok i->I=i):=by
 obtain⟨cap,I,bad,f,b,a,c,g⟩:=h;obtain⟨j,k,l⟩:=c.2 I b;exact⟨cap,I,bad,f,b,a,c.1,j,k,l,fun i e=>by subst e;exact g⟩
theorem RS.fault {K:Nat->Tk}{N:Nat}{w:World}{br bl:Nat}{s:SX}{d:Int}(h:RS K N w br bl s d):∀c p,s=.error (c,p)->((c:Int)==0)=false:=by
 obtain⟨b,I,a,-,-,-,-,f⟩:=h;intro c p e;subst e;have:=f.1;simp;exact this
def Iv (w:World)(bt sb:Nat)(tx:ByteArray)(a:Int):Prop:=w.heap[bt]?=some (.cells #[.int .u8 (sb:Int),.string tx,.int .i64 a] 55 (0,0))
theorem Iv.new (w:World)(sb:Nat)(tx:ByteArray)(a:Int):Iv (w.alloc (.cells #[.int .u8 (sb:Int),.string tx,.int .i64 a] 55)).drew w.heap.size sb tx a:=by
 have b:(w.alloc (.cells #[.int .u8 (sb:Int),.string tx,.int .i64 a] 55)).heap[w.heap.size]?=some (.cells #[.int .u8 (sb:Int),.string tx,.int .i64 a] 55 (0,0)):=Aj rfl;exact((Fr.grew (P:=fun _=>True) (Ag.refl _).drew).block _ (Ab b) trivial).trans b
theorem RS.cells {w:World}{br bl N cap I:Nat}{d e bad:Int}(hb:Td w br bl N cap I d e bad)(hbl:bl<w.heap.size){v0 v1 v2:Value}(t0:w.cell? ⟨bl,I*3,none⟩=some v0)(t1:w.cell? ⟨bl,I*3+1,none⟩=some v1)(t2:w.cell? ⟨bl,I*3+2,none⟩=some v2) :
  Td w.drew br bl N cap I d e bad/\w.drew.cell? ⟨bl,I*3,none⟩=some v0/\w.drew.cell? ⟨bl,I*3+1,none⟩=some v1/\w.drew.cell? ⟨bl,I*3+2,none⟩=some v2:=by
 have b:=(Fr.grew (P:=fun _=>True) (Ag.refl w).drew).block br (Ab hb) trivial;have a:=(Fr.grew (P:=fun _=>True) (Ag.refl w).drew).block bl hbl trivial;exact⟨b.trans hb,(World.cell?_of_block (w:=w) a).trans t0,(World.cell?_of_block (w:=w) a).trans t1,(World.cell?_of_block (w:=w) a).trans t2⟩
theorem RS.grew {K:Nat->Tk}{N:Nat}{w w':World}{br bl:Nat}{s:SX}{d:Int}(h:RS K N w br bl s d)(g:Ag w w'):RS K N w' br bl s d:=h.of (P:=fun _=>True) (Fr.grew g) trivial trivial
theorem Td.setD {w:World}{br bl N cap I:Nat}{d e bad:Int}(h:Td w br bl N cap I d e bad)(d':Int):Td (w.setCell ⟨br,2,none⟩ (.int .i64 d')) br bl N cap I d' e bad:=by
 have:=Ah h 2 (.int .i64 d');simpa [Td] using this
end Go.Proofs.YtjbfcadeapphbaaGreatDoor.Sx
