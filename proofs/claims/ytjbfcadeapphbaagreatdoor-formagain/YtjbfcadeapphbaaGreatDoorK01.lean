/- Values in memory: what a tree is there, and that what is made later leaves it as it is. -/
import Derived.Test.YtjbfcadeapphbaaGreatDoorK00
import Derived.Test.YtjbfcadeapphbaaGreatDoorProg
import Derived.WalkKit
import Derived.WalkSpells
import Derived.WalkLawsBesides
import Derived.Sort.Grow
import Derived.Deep.Draws
import Derived.Shelf.SlSortCmp.QuietGrown
import Derived.LaidEqlPtr
namespace Go.Proofs.YtjbfcadeapphbaaGreatDoor.Sx
open Go.RowKit Go.Sort
def Ag (w w':World):Prop:=∃q os,w'=grow (w.drewN q) os
theorem Ag.refl (w:World):Ag w w:=⟨0,#[],by simp[World.drewN]⟩
theorem Ag.trans {a b c:World}(h:Ag a b)(k:Ag b c):Ag a c:=by
 obtain⟨q,f,rfl⟩:=h;obtain⟨e,d,rfl⟩:=k;refine⟨q+e,f++d,?_⟩;show grow (grow ((a.drewN q).drewN e) f) d=_;rw[grow_grow];show grow (World.drewN (World.drewN a q) e) _=_;simp only[World.drewN,Nat.add_assoc]
theorem Ag.alloc {a b:World}(h:Ag a b)(o:Obj):Ag a (b.alloc o):=h.trans ⟨0,#[o],by rw[alloc_eq_grow];simp[World.drewN]⟩
theorem Ag.drew {a b:World}(h:Ag a b):Ag a b.drew:=h.trans ⟨1,#[],by simp;rfl⟩
theorem Ag.drewN {a b:World}(h:Ag a b)(n:Nat):Ag a (b.drewN n):=h.trans ⟨n,#[],by simp⟩
theorem Ag.grown {a b:World}(h:Ag a b)(n:Nat)(os:Array Obj):Ag a (grow (b.drewN n) os):=h.trans ⟨n,os,rfl⟩
theorem Ag.below {w w':World}(h:Ag w w'):Below w.heap.size w w':=by
 obtain⟨q,a,rfl⟩:=h;refine⟨rfl,rfl,rfl,by simp[World.drewN],fun k hk=>?_⟩;exact heap_grow_old (w.drewN q) a hk
theorem Ab {w:World}{b:Nat}{o:Obj}(h:w.heap[b]?=some o):b<w.heap.size:=(Array.getElem?_eq_some_iff.1 h).1
theorem Aa {w:World}{b:Nat}{vs:Array Value}{t:TypeId}{f:Nat×Nat}(h:w.heap[b]?=some (.cells vs t f))(i:Nat):w.cell? ⟨b,i,none⟩=vs[i]?:=by
 simp[World.cell?,h]
theorem iC {w:World}{b:Nat}{vs:Array Value}{t:TypeId}{f:Nat×Nat}(h:w.heap[b]?=some (.cells vs t f)):w.cell? ⟨b,0,none⟩=vs[0]?/\w.cell? ⟨b,1,none⟩=vs[1]?:=⟨Aa h 0,Aa h 1⟩
theorem Ws {w:World}{b:Nat}{vs:Array Value}{t:TypeId}{f:Nat×Nat}(h:w.heap[b]?=some (.cells vs t f)):w.cell? ⟨b,0,none⟩=vs[0]?/\w.cell? ⟨b,1,none⟩=vs[1]?/\w.cell? ⟨b,2,none⟩=vs[2]?:=⟨Aa h 0,Aa h 1,Aa h 2⟩
theorem L9 {w:World}{b:Nat}{vs:Array Value}{t:TypeId}{f:Nat×Nat}(h:w.heap[b]?=some (.cells vs t f)):w.cell? ⟨b,0,none⟩=vs[0]?/\w.cell? ⟨b,1,none⟩=vs[1]?/\w.cell? ⟨b,2,none⟩=vs[2]?/\w.cell? ⟨b,3,none⟩=vs[3]?/\w.cell? ⟨b,4,none⟩=vs[4]?:=⟨Aa h 0,Aa h 1,Aa h 2,Aa h 3,Aa h 4⟩
theorem Below.blockAt {w w':World}(hb:Below w.heap.size w w'){b:Nat}{o:Obj}(h:w.heap[b]?=some o):w'.heap[b]?=some o:=(hb.block b (Ab h)).trans h
section
variable {α:Type} (w:World) (R:α->Value->Prop) (num:α->Option Int) (wta:α->Nat)
def Rh (a:Option Addr)(len:Nat)(es:List α):Prop :=
 len=es.length/\len<=4294967296/\(len=0\/∃b off,a=some ⟨b,off,none⟩/\b<w.heap.size/\∀i x,es[i]?=some x->∃v,w.cell? ⟨b,off+i,none⟩=some v/\R x v)
end
section
variable {α:Type} {w w':World} {R R':α->Value->Prop} {num:α->Option Int} {wta:α->Nat}
theorem Rh.below (hb:Below w.heap.size w w')(hR:∀x v,R x v->R' x v){a:Option Addr}{len:Nat}{es:List α}(h:Rh w R a len es):Rh w' R' a len es:=by
 refine⟨h.1,h.2.1,?_⟩;rcases h.2.2 with e|⟨b,d,rfl,c,j⟩
 ·exact .inl e
 ·refine .inr ⟨b,d,rfl,Nat.lt_of_lt_of_le c hb.size,fun i x hx=>?_⟩;obtain⟨v,f,g⟩:=j i x hx;exact⟨v,(hb.cell (p:=⟨b,d+i,none⟩) c).trans f,hR x v g⟩
end
theorem Rh.len {α:Type}{w:World}{R:α->Value->Prop}{a:Option Addr}{len:Nat}{es:List α}(h:Rh w R a len es):len=es.length:=h.1
theorem Y9 (w:World):(Instr.typeAssert .nilIface 20 4 true).run Tryz.prog w=.ok (.tuple #[.bool false,.bool false]) w:=by kernel_rfl
theorem Za (v:Value)(w:World):(Instr.typeAssert (.iface 4 v) 20 4 false).run Tryz.prog w=.ok v w:=by kernel_rfl
theorem Sl (v:Value)(w:World):(Instr.typeAssert (.iface 4 v) 20 4 true).run Tryz.prog w=.ok (.tuple #[v,.bool true]) w:=by kernel_rfl
theorem Sm (v:Value)(w:World):(Instr.typeAssert (.iface 2 v) 20 4 true).run Tryz.prog w=.ok (.tuple #[.bool false,.bool false]) w:=by kernel_rfl
theorem Zb (w:World):(Instr.typeAssert .nilIface 20 2 true).run Tryz.prog w=.ok (.tuple #[.int .i64 0,.bool false]) w:=by kernel_rfl
theorem Zc (v:Value)(w:World):(Instr.typeAssert (.iface 2 v) 20 2 false).run Tryz.prog w=.ok v w:=by kernel_rfl
theorem Sn (v:Value)(w:World):(Instr.typeAssert (.iface 4 v) 20 2 true).run Tryz.prog w=.ok (.tuple #[.int .i64 0,.bool false]) w:=by kernel_rfl
theorem Sq (v:Value)(w:World):(Instr.typeAssert (.iface 2 v) 20 2 true).run Tryz.prog w=.ok (.tuple #[v,.bool true]) w:=by kernel_rfl
theorem follows:Tryz.prog.follows .mixedOrders=true:=by kernel_rfl
end Go.Proofs.YtjbfcadeapphbaaGreatDoor.Sx
namespace Go.Proofs.YtjbfcadeapphbaaGreatDoor.Sx
open Go.RowKit Go.Sort
attribute [local go_sem] Y9 Za Sl Sm Zb Zc Sn Sq
end Go.Proofs.YtjbfcadeapphbaaGreatDoor.Sx
namespace Go.Proofs.YtjbfcadeapphbaaGreatDoor.Sx
open Go.RowKit Go.Sort
attribute [local go_sem] Y9 Za Sl Sm Zb Zc Sn Sq
end Go.Proofs.YtjbfcadeapphbaaGreatDoor.Sx
namespace Go.Proofs.YtjbfcadeapphbaaGreatDoor.Sx
open Go.RowKit Go.Sort
attribute [local go_sem] Y9 Za Sl Sm Zb Zc Sn Sq
end Go.Proofs.YtjbfcadeapphbaaGreatDoor.Sx
