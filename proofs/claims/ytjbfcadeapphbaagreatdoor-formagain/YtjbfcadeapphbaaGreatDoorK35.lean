/- The reference: declarations. -/
import Derived.Test.YtjbfcadeapphbaaGreatDoorK32
import Derived.Test.YtjbfcadeapphbaaGreatDoorK04
namespace Go.Proofs.YtjbfcadeapphbaaGreatDoor.Sx
open Go.RowKit Go.Sort
def K5 (w:World)(b:Nat)(word name:ByteArray)(a:Int)(mo wh px:Value):Prop:=w.heap[b]?=some (.cells #[.string word,.string name,.int .i64 a,mo,wh,px] 71 (0,0))
theorem K5.of {w w':World}{b:Nat}{word name:ByteArray}{a:Int}{mo wh px:Value}(h:K5 w b word name a mo wh px){P:Nat->Prop}(f:Fr P w w')(hp:P b):K5 w' b word name a mo wh px:=(f.block b (Ab h) hp).trans h
theorem K5.more {w:World}{b:Nat}{word name:ByteArray}{a:Int}{mo wh px:Value}(h:K5 w b word name a mo wh px)(v:Value):K5 (w.setCell ⟨b,3,none⟩ v) b word name a v wh px:=by
 have:=Ah h 3 v;simpa [K5] using this
theorem eD {w w':World}{base sz n:Nat}{e:TypeId}{sl:Value}{vs:List Value}(h:w.ownsRow base e sz sl n vs)(hb:∀g,sl.ownBlock=some g->base<=g->g<w.heap.size->w'.heap[g]?=w.heap[g]?):w'.ownsRow base e sz sl n vs:=by
 refine⟨h.1,?_⟩;rcases h.2 with i|⟨g,a,b,c,d,f,r⟩
 ·exact .inl i
 ·exact .inr ⟨g,a,b,c,d,(hb g (by rw[c];rfl) d (Ab f)).trans f,r⟩
def kI (l:List UInt8):Value:=.string ⟨l.toArray⟩
def Ki (word name:List UInt8)(more:List (List UInt8))(ox:Option PX)(l:List UInt8):Prop :=
 (word=Cy/\name=[]/\more=[]/\∃x,ox=some x/\l=Cy++[32]++x.tx) \/
 ((word=Ga\/word=C4)/\more=[]/\ox=none/\l=Fm++[32]++word++[32]++name) \/
 (word=Bi/\more=[]/\ox=none/\l=Bi++[32]++name) \/
 (word=Br/\ox=none/\l=Br++[32]++name++[32,61,32,123]++B9 more++[125]) \/
 (word=Al/\more≠[]/\∃x,ox=some x/\l=Al++[32]++name++[40]++B9 more++[41]++[32]++A4 Al++[32]++x.tx) \/
 (word=Al/\more=[]/\∃x,ox=some x/\l=Al++[32]++name++[32]++A4 Al++[32]++x.tx) \/
 ((word=Bt\/word=Bu\/word∈Eh)/\more=[]/\∃x,ox=some x/\l=word++[32]++name++[32]++A4 word++[32]++x.tx)
def gX (lo:Nat)(w:World)(v:Value)(l:List UInt8):Prop :=
 ∃word name a mo wh px n ms more ox,v=.agg #[.string word,.string name,.int .i64 a,mo,wh,px]/\w.ownsRow lo 9 1 mo n ms/\n=more.length/\ms=more.map kI/\(match ox with|none=>px=.pointer none|some x=>Gt (fun k=>lo<=k) w x px)/\Ki word.data.toList name.data.toList more ox l
theorem K5.px {w:World}{b:Nat}{word name:ByteArray}{a:Int}{mo wh px:Value}(h:K5 w b word name a mo wh px)(v:Value):K5 (w.setCell ⟨b,5,none⟩ v) b word name a mo wh v:=by
 have:=Ah h 5 v;simpa [K5] using this
theorem K5.at {w:World}{b:Nat}{word name:ByteArray}{a:Int}{mo wh px:Value}(h:K5 w b word name a mo wh px)(v:Int):K5 (w.setCell ⟨b,2,none⟩ (.int .i64 v)) b word name v mo wh px:=by
 have:=Ah h 2 (.int .i64 v);simpa [K5] using this
end Go.Proofs.YtjbfcadeapphbaaGreatDoor.Sx
