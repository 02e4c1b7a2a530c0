/- Values in memory: what a tree is there, and that what is made later leaves it as it is. -/
import Derived.Test.YtdpeliifdlhhkaaGreatDoorProg
import Derived.Test.YtdpeliifdlhhkaaGreatDoorM01
import Derived.WalkKit
import Derived.WalkSpells
import Derived.WalkLawsBesides
import Derived.Sort.Grow
import Derived.Deep.Draws
import Derived.Shelf.SlSortCmp.QuietGrown
import Derived.LaidEqlPtr
import Derived.Test.YtdpeliifdlhhkaaGreatDoorShelf
import Derived.Deep.RegionWith
import Derived.BigQuiet
import Derived.Lib.SlBytesConst
namespace Go.Proofs.YtdpeliifdlhhkaaGreatDoor.Sx
open Go.RowKit Go.Sort Tryz
set_option maxRecDepth 100000
set_option maxHeartbeats 4000000
abbrev Ae2 := @bodyPost_ret
abbrev Ae3 := @Calls.grown_of
/-- the world has only grown, and drawn -/
def Ac (w w':World):Prop:=∃q os,w'=grow (w.drewN q) os
theorem Ac.refl (w:World):Ac w w:=⟨0,#[],by simp[World.drewN]⟩
theorem Ac.trans {a b c:World}(h:Ac a b)(k:Ac b c):Ac a c:=by
 obtain⟨q,f,rfl⟩:=h;obtain⟨e,d,rfl⟩:=k;refine⟨q+e,f++d,?_⟩;show grow (grow ((a.drewN q).drewN e) f) d=_;rw[grow_grow];show grow (World.drewN (World.drewN a q) e) _=_;simp only[World.drewN,Nat.add_assoc]
theorem Ac.alloc {a b:World}(h:Ac a b)(o:Obj):Ac a (b.alloc o):=h.trans ⟨0,#[o],by rw[alloc_eq_grow];simp[World.drewN]⟩
theorem Ac.drew {a b:World}(h:Ac a b):Ac a b.drew:=h.trans ⟨1,#[],by simp;rfl⟩
theorem Ac.drewN {a b:World}(h:Ac a b)(n:Nat):Ac a (b.drewN n):=h.trans ⟨n,#[],by simp⟩
theorem Ac.grown {a b:World}(h:Ac a b)(n:Nat)(os:Array Obj):Ac a (grow (b.drewN n) os):=h.trans ⟨n,os,rfl⟩
theorem Ac.below {w w':World}(h:Ac w w'):Below w.heap.size w w':=by
 obtain⟨q,a,rfl⟩:=h;refine⟨rfl,rfl,rfl,by simp[World.drewN],fun k hk=>?_⟩;exact heap_grow_old (w.drewN q) a hk
theorem Aa {w:World}{b:Nat}{o:Obj}(h:w.heap[b]?=some o):b<w.heap.size:=(Array.getElem?_eq_some_iff.1 h).1
theorem Ab {w:World}{b:Nat}{vs:Array Value}{t:TypeId}{f:Nat×Nat}(h:w.heap[b]?=some (.cells vs t f))(i:Nat):w.cell? ⟨b,i,none⟩=vs[i]?:=by
 simp[World.cell?,h]
theorem Lf {w:World}{b:Nat}{vs:Array Value}{t:TypeId}{f:Nat×Nat}(h:w.heap[b]?=some (.cells vs t f)):w.cell? ⟨b,0,none⟩=vs[0]?/\w.cell? ⟨b,1,none⟩=vs[1]?:=⟨Ab h 0,Ab h 1⟩
theorem Rp {w:World}{b:Nat}{vs:Array Value}{t:TypeId}{f:Nat×Nat}(h:w.heap[b]?=some (.cells vs t f)):w.cell? ⟨b,0,none⟩=vs[0]?/\w.cell? ⟨b,1,none⟩=vs[1]?/\w.cell? ⟨b,2,none⟩=vs[2]?:=⟨Ab h 0,Ab h 1,Ab h 2⟩
theorem Ns {w:World}{b:Nat}{vs:Array Value}{t:TypeId}{f:Nat×Nat}(h:w.heap[b]?=some (.cells vs t f)):w.cell? ⟨b,0,none⟩=vs[0]?/\w.cell? ⟨b,1,none⟩=vs[1]?/\w.cell? ⟨b,2,none⟩=vs[2]?/\w.cell? ⟨b,3,none⟩=vs[3]?:=⟨Ab h 0,Ab h 1,Ab h 2,Ab h 3⟩
theorem Ah {w:World}{b:Nat}{vs:Array Value}{t:TypeId}{f:Nat×Nat}(h:w.heap[b]?=some (.cells vs t f)):w.cell? ⟨b,0,none⟩=vs[0]?/\w.cell? ⟨b,1,none⟩=vs[1]?/\w.cell? ⟨b,2,none⟩=vs[2]?/\w.cell? ⟨b,3,none⟩=vs[3]?/\w.cell? ⟨b,4,none⟩=vs[4]?:=⟨Ab h 0,Ab h 1,Ab h 2,Ab h 3,Ab h 4⟩
theorem Ac1 {w w':World}(hb:Below w.heap.size w w'){b:Nat}{o:Obj}(h:w.heap[b]?=some o):w'.heap[b]?=some o:=(hb.block b (Aa h)).trans h
section
variable {α:Type} (w:World) (R:α->Value->Prop) (num:α->Option Int) (wta:α->Nat)
def Jw (a:Option Addr)(len:Nat)(es:List α):Prop :=
 len=es.length/\len<=4294967296/\(len=0\/∃b off,a=some ⟨b,off,none⟩/\b<w.heap.size/\∀i x,es[i]?=some x->∃v,w.cell? ⟨b,off+i,none⟩=some v/\R x v)
def Kx (b:Nat)(es:List α):Prop :=
 ∃a len cap,w.heap[b]?=some (.cells #[.slice a len cap,.int .i64 ((1+wtL wta es:Nat):Int)] 124 (0,0))/\Jw w R a len es
def Xm (b d:Nat)(ks us:List α):Prop :=
 Kx w R wta d ks/\ks.length=us.length/\∃a len cap,w.heap[b]?=some (.cells #[.pointer (some ⟨d,0,none⟩),.slice a len cap,.int .i64 ((1+wtL wta ks+wtL wta us:Nat):Int),.bool (A7 num ks)] 130 (0,0))/\Jw w R a len us
def mD (a:Ag α)(v:Value):Prop :=
 (a=Ar/\v=.nilIface)\/(∃b,a=Bj b/\v=.iface 4 (.bool b))\/(∃i,a=Cu i/\v=.iface 2 (.int .i64 i)) \/
 (∃s:ByteArray,a=Dm s.data.toList/\v=.iface 119 (.string s))\/(∃s:ByteArray,a=D9 s.data.toList/\v=.iface 120 (.string s)) \/
 (∃es b,a=Bt es/\v=.iface 121 (.pointer (some ⟨b,0,none⟩))/\Kx w R wta b es) \/
 (∃ks us b d,a=Dd ks us/\v=.iface 125 (.pointer (some ⟨b,0,none⟩))/\Xm w R num wta b d ks us)
end
def Rep (w:World):(n:Nat)->AV n->Value->Prop
 | 0,_,_=>False
 | n+1,a,v=>mD w (Rep w n) (Au n) (wt n) a v
section
variable {α:Type} {w w':World} {R R':α->Value->Prop} {num:α->Option Int} {wta:α->Nat}
theorem Jw.below (hb:Below w.heap.size w w')(hR:∀x v,R x v->R' x v){a:Option Addr}{len:Nat}{es:List α}(h:Jw w R a len es):Jw w' R' a len es:=by
 refine⟨h.1,h.2.1,?_⟩;rcases h.2.2 with e|⟨b,d,rfl,c,j⟩
 ·exact .inl e
 ·refine .inr ⟨b,d,rfl,Ad8 c hb.size,fun i x hx=>?_⟩;obtain⟨v,f,g⟩:=j i x hx;exact⟨v,(hb.cell (p:=⟨b,d+i,none⟩) c).trans f,hR x v g⟩
theorem Kx.below (hb:Below w.heap.size w w')(hR:∀x v,R x v->R' x v){b:Nat}{es:List α}(h:Kx w R wta b es):Kx w' R' wta b es:=by
 obtain⟨a,d,c,e,f⟩:=h;exact⟨a,d,c,Ac1 hb e,f.below hb hR⟩
theorem Xm.below (hb:Below w.heap.size w w')(hR:∀x v,R x v->R' x v){b d:Nat}{ks us:List α}(h:Xm w R num wta b d ks us):Xm w' R' num wta b d ks us:=by
 obtain⟨j,g,a,e,c,f,i⟩:=h;exact⟨j.below hb hR,g,a,e,c,Ac1 hb f,i.below hb hR⟩
theorem mD.below (hb:Below w.heap.size w w')(hR:∀x v,R x v->R' x v){a:Ag α}{v:Value}(h:mD w R num wta a v):mD w' R' num wta a v:=by
 rcases h with h|h|h|h|h|⟨g,b,c,e,f⟩|⟨i,j,b,d,c,e,f⟩
 ·exact .inl h
 ·exact .inr (.inl h)
 ·exact .inr (.inr (.inl h))
 ·exact .inr (.inr (.inr (.inl h)))
 ·exact .inr (.inr (.inr (.inr (.inl h))))
 ·exact .inr (.inr (.inr (.inr (.inr (.inl ⟨g,b,c,e,f.below hb hR⟩)))))
 ·exact .inr (.inr (.inr (.inr (.inr (.inr ⟨i,j,b,d,c,e,f.below hb hR⟩)))))
end
theorem Rep.below {w w':World}(hb:Below w.heap.size w w'):∀(n:Nat)(a:AV n)(v:Value),Rep w n a v->Rep w' n a v
 | 0,_,_,h=>h
 | n+1,_,_,h=>mD.below hb (Rep.below hb n) h
theorem Rep.grew {w w':World}(h:Ac w w'){n:Nat}{a:AV n}{v:Value}(r:Rep w n a v):Rep w' n a v:=r.below h.below n a v
theorem Rep.one {w:World}:∀{n:Nat} {a:AV n} {v:Value},Rep w n a v->v.oneCell'=true
 | 0,_,_,h=>absurd h id
 | n+1,a,v,h=>by
  rcases h with⟨rfl,rfl⟩|⟨b,rfl,rfl⟩|⟨i,rfl,rfl⟩|⟨s,rfl,rfl⟩|⟨s,rfl,rfl⟩|⟨es,b,rfl,rfl,_⟩|⟨ks,us,b,d,rfl,rfl,_⟩<;>rfl
theorem Ae {v:Value}(h:v.oneCell'=true)(a:Addr)(m:Mode)(w:World):Sem.run prog (store a v m) w=stored prog w a v m:=run_store _ w a _ m h
theorem Jw.len {α:Type}{w:World}{R:α->Value->Prop}{a:Option Addr}{len:Nat}{es:List α}(h:Jw w R a len es):len=es.length:=h.1
theorem Na (w:World):(Instr.typeAssert .nilIface 20 4 true).run prog w=.ok (.tuple #[.bool false,.bool false]) w:=by kernel_rfl
theorem Nb (v:Value)(w:World):(Instr.typeAssert (.iface 4 v) 20 4 false).run prog w=.ok v w:=by kernel_rfl
theorem Jq (v:Value)(w:World):(Instr.typeAssert (.iface 4 v) 20 4 true).run prog w=.ok (.tuple #[v,.bool true]) w:=by kernel_rfl
theorem Jr (v:Value)(w:World):(Instr.typeAssert (.iface 2 v) 20 4 true).run prog w=.ok (.tuple #[.bool false,.bool false]) w:=by kernel_rfl
theorem Fy (v:Value)(w:World):(Instr.typeAssert (.iface 119 v) 20 4 true).run prog w=.ok (.tuple #[.bool false,.bool false]) w:=by kernel_rfl
theorem Fz (v:Value)(w:World):(Instr.typeAssert (.iface 120 v) 20 4 true).run prog w=.ok (.tuple #[.bool false,.bool false]) w:=by kernel_rfl
theorem Ga (v:Value)(w:World):(Instr.typeAssert (.iface 121 v) 20 4 true).run prog w=.ok (.tuple #[.bool false,.bool false]) w:=by kernel_rfl
theorem Gb (v:Value)(w:World):(Instr.typeAssert (.iface 125 v) 20 4 true).run prog w=.ok (.tuple #[.bool false,.bool false]) w:=by kernel_rfl
theorem Ln (w:World):(Instr.typeAssert .nilIface 20 2 true).run prog w=.ok (.tuple #[.int .i64 0,.bool false]) w:=by kernel_rfl
theorem Nc (v:Value)(w:World):(Instr.typeAssert (.iface 2 v) 20 2 false).run prog w=.ok v w:=by kernel_rfl
theorem I6 (v:Value)(w:World):(Instr.typeAssert (.iface 4 v) 20 2 true).run prog w=.ok (.tuple #[.int .i64 0,.bool false]) w:=by kernel_rfl
theorem I7 (v:Value)(w:World):(Instr.typeAssert (.iface 2 v) 20 2 true).run prog w=.ok (.tuple #[v,.bool true]) w:=by kernel_rfl
theorem Fe (v:Value)(w:World):(Instr.typeAssert (.iface 119 v) 20 2 true).run prog w=.ok (.tuple #[.int .i64 0,.bool false]) w:=by kernel_rfl
theorem Ff (v:Value)(w:World):(Instr.typeAssert (.iface 120 v) 20 2 true).run prog w=.ok (.tuple #[.int .i64 0,.bool false]) w:=by kernel_rfl
theorem Fg (v:Value)(w:World):(Instr.typeAssert (.iface 121 v) 20 2 true).run prog w=.ok (.tuple #[.int .i64 0,.bool false]) w:=by kernel_rfl
theorem Fh (v:Value)(w:World):(Instr.typeAssert (.iface 125 v) 20 2 true).run prog w=.ok (.tuple #[.int .i64 0,.bool false]) w:=by kernel_rfl
theorem Hr (w:World):(Instr.typeAssert .nilIface 20 119 true).run prog w=.ok (.tuple #[.string ⟨#[]⟩,.bool false]) w:=by kernel_rfl
theorem Hs (v:Value)(w:World):(Instr.typeAssert (.iface 119 v) 20 119 false).run prog w=.ok v w:=by kernel_rfl
theorem Gc (v:Value)(w:World):(Instr.typeAssert (.iface 4 v) 20 119 true).run prog w=.ok (.tuple #[.string ⟨#[]⟩,.bool false]) w:=by kernel_rfl
theorem Gd (v:Value)(w:World):(Instr.typeAssert (.iface 2 v) 20 119 true).run prog w=.ok (.tuple #[.string ⟨#[]⟩,.bool false]) w:=by kernel_rfl
theorem Ea (v:Value)(w:World):(Instr.typeAssert (.iface 119 v) 20 119 true).run prog w=.ok (.tuple #[v,.bool true]) w:=by kernel_rfl
theorem Eb (v:Value)(w:World):(Instr.typeAssert (.iface 120 v) 20 119 true).run prog w=.ok (.tuple #[.string ⟨#[]⟩,.bool false]) w:=by kernel_rfl
theorem Ec (v:Value)(w:World):(Instr.typeAssert (.iface 121 v) 20 119 true).run prog w=.ok (.tuple #[.string ⟨#[]⟩,.bool false]) w:=by kernel_rfl
theorem Ed (v:Value)(w:World):(Instr.typeAssert (.iface 125 v) 20 119 true).run prog w=.ok (.tuple #[.string ⟨#[]⟩,.bool false]) w:=by kernel_rfl
theorem Ht (w:World):(Instr.typeAssert .nilIface 20 120 true).run prog w=.ok (.tuple #[.string ⟨#[]⟩,.bool false]) w:=by kernel_rfl
theorem Hu (v:Value)(w:World):(Instr.typeAssert (.iface 120 v) 20 120 false).run prog w=.ok v w:=by kernel_rfl
theorem Ge (v:Value)(w:World):(Instr.typeAssert (.iface 4 v) 20 120 true).run prog w=.ok (.tuple #[.string ⟨#[]⟩,.bool false]) w:=by kernel_rfl
theorem Gf (v:Value)(w:World):(Instr.typeAssert (.iface 2 v) 20 120 true).run prog w=.ok (.tuple #[.string ⟨#[]⟩,.bool false]) w:=by kernel_rfl
theorem Ee (v:Value)(w:World):(Instr.typeAssert (.iface 119 v) 20 120 true).run prog w=.ok (.tuple #[.string ⟨#[]⟩,.bool false]) w:=by kernel_rfl
theorem Ef (v:Value)(w:World):(Instr.typeAssert (.iface 120 v) 20 120 true).run prog w=.ok (.tuple #[v,.bool true]) w:=by kernel_rfl
theorem Eg (v:Value)(w:World):(Instr.typeAssert (.iface 121 v) 20 120 true).run prog w=.ok (.tuple #[.string ⟨#[]⟩,.bool false]) w:=by kernel_rfl
theorem Eh (v:Value)(w:World):(Instr.typeAssert (.iface 125 v) 20 120 true).run prog w=.ok (.tuple #[.string ⟨#[]⟩,.bool false]) w:=by kernel_rfl
theorem Gw (w:World):(Instr.typeAssert .nilIface 20 121 true).run prog w=.ok (.tuple #[.pointer none,.bool false]) w:=by kernel_rfl
theorem Hv (v:Value)(w:World):(Instr.typeAssert (.iface 121 v) 20 121 false).run prog w=.ok v w:=by kernel_rfl
theorem Fj (v:Value)(w:World):(Instr.typeAssert (.iface 4 v) 20 121 true).run prog w=.ok (.tuple #[.pointer none,.bool false]) w:=by kernel_rfl
theorem Fk (v:Value)(w:World):(Instr.typeAssert (.iface 2 v) 20 121 true).run prog w=.ok (.tuple #[.pointer none,.bool false]) w:=by kernel_rfl
theorem Dq (v:Value)(w:World):(Instr.typeAssert (.iface 119 v) 20 121 true).run prog w=.ok (.tuple #[.pointer none,.bool false]) w:=by kernel_rfl
theorem Dr (v:Value)(w:World):(Instr.typeAssert (.iface 120 v) 20 121 true).run prog w=.ok (.tuple #[.pointer none,.bool false]) w:=by kernel_rfl
theorem Ds (v:Value)(w:World):(Instr.typeAssert (.iface 121 v) 20 121 true).run prog w=.ok (.tuple #[v,.bool true]) w:=by kernel_rfl
theorem Dt (v:Value)(w:World):(Instr.typeAssert (.iface 125 v) 20 121 true).run prog w=.ok (.tuple #[.pointer none,.bool false]) w:=by kernel_rfl
theorem Gx (w:World):(Instr.typeAssert .nilIface 20 125 true).run prog w=.ok (.tuple #[.pointer none,.bool false]) w:=by kernel_rfl
theorem Hw (v:Value)(w:World):(Instr.typeAssert (.iface 125 v) 20 125 false).run prog w=.ok v w:=by kernel_rfl
theorem Fl (v:Value)(w:World):(Instr.typeAssert (.iface 4 v) 20 125 true).run prog w=.ok (.tuple #[.pointer none,.bool false]) w:=by kernel_rfl
theorem Fm (v:Value)(w:World):(Instr.typeAssert (.iface 2 v) 20 125 true).run prog w=.ok (.tuple #[.pointer none,.bool false]) w:=by kernel_rfl
theorem Du (v:Value)(w:World):(Instr.typeAssert (.iface 119 v) 20 125 true).run prog w=.ok (.tuple #[.pointer none,.bool false]) w:=by kernel_rfl
theorem Dv (v:Value)(w:World):(Instr.typeAssert (.iface 120 v) 20 125 true).run prog w=.ok (.tuple #[.pointer none,.bool false]) w:=by kernel_rfl
theorem Dw (v:Value)(w:World):(Instr.typeAssert (.iface 121 v) 20 125 true).run prog w=.ok (.tuple #[.pointer none,.bool false]) w:=by kernel_rfl
theorem Dx (v:Value)(w:World):(Instr.typeAssert (.iface 125 v) 20 125 true).run prog w=.ok (.tuple #[v,.bool true]) w:=by kernel_rfl
theorem follows:prog.follows .mixedOrders=true:=by kernel_rfl
def Rq:(n:Nat)->AV n->Nat
 | 0,_=>0
 | _+1,a=>Ag.kind a
section
attribute [local go_sem] Na Nb Jq Jr Fy Fz Ga Gb Ln Nc I6 I7 Fe Ff Fg Fh Hr Hs Gc Gd Ea Eb Ec Ed Ht Hu Ge Gf Ee Ef Eg Eh Gw Hv Fj Fk Dq Dr Ds Dt Gx Hw Fl Fm Du Dv Dw Dx
theorem cD (n:Nat)(a:AV n)(v:Value)(w:World)(h:Rep w n a v):Calls prog 38 #[v] w fun e w'=>e=.returned (.int .i64 (Rq n a))/\w'=w:=by
 cases n with
 | zero=>exact absurd h id
 | succ n =>
  rcases h with⟨rfl,rfl⟩|⟨b,rfl,rfl⟩|⟨i,rfl,rfl⟩|⟨s,rfl,rfl⟩|⟨s,rfl,rfl⟩|⟨c,b,rfl,rfl,_⟩|⟨f,g,b,d,rfl,rfl,_⟩
  all_goals
   go_enter func38,ntmps38
   go_wp2
   go_ret
   exact⟨rfl,rfl⟩
theorem mE (n:Nat)(a:AV n)(v:Value)(w:World)(h:Rep w n a v):Calls prog 36 #[v] w fun e w'=>e=.returned (.int .i64 (wt n a))/\w'=w:=by
 cases n with
 | zero=>exact absurd h id
 | succ n =>
  rcases h with⟨rfl,rfl⟩|⟨b,rfl,rfl⟩|⟨i,rfl,rfl⟩|⟨s,rfl,rfl⟩|⟨s,rfl,rfl⟩|⟨l,b,rfl,rfl,a,g,f,c,k⟩|⟨p,q,b,d,rfl,rfl,o,m,a,g,f,c,k⟩
  rotate_left 5
  ·have j:=Ab c 1;clear c;go_enter func36,ntmps36
   go_wp2
   go_ret
   exact⟨rfl,rfl⟩
  ·have j:=Ab c 2;clear c;go_enter func36,ntmps36
   go_wp2
   go_ret
   exact⟨rfl,rfl⟩
  all_goals
   go_enter func36,ntmps36
   go_wp2
   go_ret
   exact⟨rfl,rfl⟩
theorem U5 (n:Nat)(a:AV n)(v:Value)(w:World)(h:Rep w n a v):Calls prog 14 #[.agg #[v]] w fun e w'=>e=.returned (.int .i64 (wt n a))/\Ac w w':=by
 have b:=fun(o:Obj)=>mE n a v (w.alloc o) (h.grew ((Ac.refl w).alloc o));go_enter func14,ntmps14
 go_wp2_with (go_at_call 36;refine(b _).mono ?_;rintro e w' ⟨rfl,rfl⟩)
 go_ret
 exact⟨rfl,(Ac.refl w).alloc _⟩
end
section
attribute [local go_sem] Na Nb Jq Jr Fy Fz Ga Gb Ln Nc I6 I7 Fe Ff Fg Fh Hr Hs Gc Gd Ea Eb Ec Ed Ht Hu Ge Gf Ee Ef Eg Eh Gw Hv Fj Fk Dq Dr Ds Dt Gx Hw Fl Fm Du Dv Dw Dx
def Nt (n:Nat):Prop:=∀(w:World)(a b:AV n)(va vb:Value),Rep w n a va->Rep w n b vb ->
 Calls prog 17 #[.agg #[va],.agg #[vb]] w fun e w'=>e=.returned (.int .i64 (Al n a b))/\Ac w w'
theorem Ye {α:Type}{c:α->α->Int}{es fs:List α}{k:Nat}{x y:α}(hx:es[k]?=some x)(hy:fs[k]?=some y) :
  Ew c (es.drop k) (fs.drop k)=A4 (c x y) (Ew c (es.drop (k+1)) (fs.drop (k+1))):=by
 obtain⟨d,a⟩:=List.getElem?_eq_some_iff.1 hx;obtain⟨e,b⟩:=List.getElem?_eq_some_iff.1 hy;rw[List.drop_eq_getElem_cons d,List.drop_eq_getElem_cons e,a,b];rfl
theorem Nd (n:Nat)(hC:Nt n)(w:World)(a1 a2:Option Addr)(l1 l2 c1 c2:Nat)(es fs:List (AV n))(h1:Jw w (Rep w n) a1 l1 es)(h2:Jw w (Rep w n) a2 l2 fs) :
  Calls prog 137 #[.slice a1 l1 c1,.slice a2 l2 c2,.func (.func 17) #[] #[]] w fun e w'=>e=.returned (.int .i64 (Ew (Al n) es fs))/\Ac w w':=by
 obtain⟨J,Y,y⟩:=h1;obtain⟨K,Z,z⟩:=h2;have C:Hid (l1=es.length):=J;have A:Hid (l2=fs.length):=K;clear J K;have O:Hid (Nt n):=hC;clear hC;go_enter func137,ntmps137
 go_wp2
 go_loopw [13] (fun i wr=>∃k:Nat,k<=l1/\k<=l2/\i=.int .i64 k/\Hid (Ac w wr)/\Hid (Ew (Al n) es fs=Ew (Al n) (es.drop k) (fs.drop k))) (fun i _=>l1-(intOf i).toNat)
 case atStart=>exact⟨0,Ae1 _,Ae1 _,rfl,Ac.refl w,by simp[Hid]⟩
 case round =>
  obtain⟨k,Q,R,rfl,b,r⟩:=hrel;by_cases F:k<l1
  ·have H:k<es.length:=by rw[<- C.out];exact F
   obtain⟨B,M,rfl,g,o⟩:=y.resolve_left (by omega);obtain⟨V,h,f⟩:=o k es[k] (List.getElem?_eq_getElem H);by_cases j:k<l2
   ·have L:k<fs.length:=by rw[<- A.out];exact j
    obtain⟨N,S,rfl,v,t⟩:=z.resolve_left (by omega);obtain⟨X,x,q⟩:=t k fs[k] (List.getElem?_eq_getElem L);have P:=(b.out.below.cell (p:=⟨B,M+k,none⟩) g).trans h;have g2:=(b.out.below.cell (p:=⟨N,S+k,none⟩) v).trans x;have T:B<wr.heap.size:=Ad8 g b.out.below.size;have s2:N<wr.heap.size:=Ad8 v b.out.below.size;have s:=Ye (c:=Al n) (List.getElem?_eq_getElem H) (List.getElem?_eq_getElem L);have s:Hid (_=_):=s;have d:=fun(W:World) (hW:Ac w W)=>O.out W es[k] fs[k] V X (f.grew hW) (q.grew hW);have a:Hid (∀(W:World)(hW:Ac w W),_):=d;have I:=Ae f.one;have U:=Ae q.one;clear d o t h x f q y z;generalize Al n es[k] fs[k]=cv at a s;by_cases D:cv=0
    ·subst D;go_wp2_with (go_at_call 17;refine(a.out _ ((b.out.alloc _).alloc _)).mono ?_;rintro e w' ⟨rfl,u⟩;have E:Hid (Ac w w'):=((b.out.alloc _).alloc _).trans u;clear u)
     go_roundw
     case rel=>exact⟨k+1,by omega,by omega,by go_num,by assumption,by show Hid (_=_);rw[r.out,s.out];rfl⟩
     case measure=>simp[intOf];omega
    ·have hb:(cv==0)=false:=by simp[D]
     have m:Hid (Ew (Al n) es fs=cv):=by show _=_;rw[r.out,s.out];simp[A4,D]
     go_wp2_with (go_at_call 17;refine(a.out _ ((b.out.alloc _).alloc _)).mono ?_;rintro e w' ⟨rfl,u⟩;have E:Hid (Ac w w'):=((b.out.alloc _).alloc _).trans u;clear u)
     go_ret
     exact⟨by rw[m.out];rfl,by assumption⟩
   ·have G:k=l2:=by omega
    have m:Hid (Ew (Al n) es fs=1):=by
     show _=_;rw[r.out,List.drop_eq_getElem_cons H,List.drop_of_length_le (l:=fs) (by rw[<- A.out];omega)];rfl
    have P:=(b.out.below.cell (p:=⟨B,M+k,none⟩) g).trans h;have T:B<wr.heap.size:=Ad8 g b.out.below.size;have I:=Ae f.one;clear o h f y z G;go_wp2_with fail
    go_ret
    exact⟨by rw[m.out];rfl,b.out.alloc _⟩
  ·have G:k=l1:=by omega
   subst G;by_cases j:k<l2
   ·have m:Hid (Ew (Al n) es fs=-1):=by
     show _=_;rw[r.out,List.drop_of_length_le (l:=es) (by rw[<- C.out];omega),List.drop_eq_getElem_cons (l:=fs) (by rw[<- A.out];omega)];rfl
    clear y z;go_wp2_with fail
    go_ret
    exact⟨by rw[m.out];rfl,b.out⟩
   ·have m:Hid (Ew (Al n) es fs=0):=by
     show _=_;rw[r.out,List.drop_of_length_le (l:=es) (by rw[<- C.out];omega),List.drop_of_length_le (l:=fs) (by rw[<- A.out];omega)];rfl
    clear y z;go_wp2_with fail
    go_ret
    exact⟨by rw[m.out];rfl,b.out⟩
theorem mF {α:Type}{c:α->α->Int}{a b:Ag α}(h:Lib.compareInt a.kind b.kind≠0):Nm c a b=Lib.compareInt a.kind b.kind:=by
 simp only[Nm,A4,if_neg h]
theorem Bl (y:Int):A4 0 y=y:=if_pos rfl
theorem Ky (x:Int):A4 x 0=x:=by unfold A4;split<;>simp_all
theorem qB {α:Type}(c:α->α->Int)(a b:List α):Nm c (Bt a) (Bt b)=Es c a b:=by
 show A4 0 (A4 0 (A4 0 (A4 (Es c a b) 0)))=_;rw[Bl,Bl,Bl,Ky]
theorem uV {α:Type}(c:α->α->Int)(a b k v:List α):Nm c (Dd a k) (Dd b v)=A4 (Es c a b) (Es c k v):=by
 show A4 0 (A4 0 (A4 0 (A4 (Es c a b) (Es c k v))))=_;rw[Bl,Bl,Bl]
theorem qC {α:Type}(c:α->α->Int)(a b:Int):Nm c (Cu a) (Cu b)=Lib.compareInt a b:=by
 show A4 0 (A4 (Lib.compareInt a b) (A4 0 (A4 0 0)))=_;rw[Bl,Bl,Bl,Ky]
theorem mG {α:Type}(c:α->α->Int)(a b:List UInt8):Nm c (Dm a) (Dm b)=Lib.compareBytes a b:=by
 show A4 0 (A4 0 (A4 (Lib.compareBytes a b) (A4 0 0)))=_;rw[Bl,Bl,Bl,Ky]
theorem mH {α:Type}(c:α->α->Int)(a b:List UInt8):Nm c (D9 a) (D9 b)=Lib.compareBytes a b:=by
 show A4 0 (A4 0 (A4 (Lib.compareBytes a b) (A4 0 0)))=_;rw[Bl,Bl,Bl,Ky]
theorem mI {α:Type}(c:α->α->Int)(a b:Bool):Nm c (Bj a) (Bj b)=if a=b then 0 else if b then -1 else 1:=by
 cases a<;>cases b<;>rfl
theorem U6 (a b:Int)(w:World):Calls prog 37 #[.int .i64 a,.int .i64 b] w fun e w'=>e=.returned (.int .i64 (Lib.compareInt a b))/\w'=w:=by
 by_cases d:a<b
 ·have c:Hid (Lib.compareInt a b=-1):=by simp[Hid,Lib.compareInt,d]
  go_enter func37,ntmps37
  go_wp2
  go_ret
  exact⟨by rw[c.out];rfl,rfl⟩
 ·by_cases f:b<a
  ·have c:Hid (Lib.compareInt a b=1):=by simp[Hid,Lib.compareInt,d,f]
   go_enter func37,ntmps37
   go_wp2
   go_ret
   exact⟨by rw[c.out];rfl,rfl⟩
  ·have c:Hid (Lib.compareInt a b=0):=by simp[Hid,Lib.compareInt,d,f]
   go_enter func37,ntmps37
   go_wp2
   go_ret
   exact⟨by rw[c.out];rfl,rfl⟩
theorem Z7 (a b:Int)(w:World):Calls prog 77 #[.int .i64 a,.int .i64 b] w fun e w'=>e=.returned (.int .i64 (Lib.compareInt a b))/\w'=w:=by
 by_cases d:a<b
 ·have c:Hid (Lib.compareInt a b=-1):=by simp[Hid,Lib.compareInt,d]
  go_enter func77,ntmps77
  go_wp2
  go_ret
  exact⟨by rw[c.out];rfl,rfl⟩
 ·by_cases f:b<a
  ·have c:Hid (Lib.compareInt a b=1):=by simp[Hid,Lib.compareInt,d,f]
   go_enter func77,ntmps77
   go_wp2
   go_ret
   exact⟨by rw[c.out];rfl,rfl⟩
  ·have c:Hid (Lib.compareInt a b=0):=by simp[Hid,Lib.compareInt,d,f]
   go_enter func77,ntmps77
   go_wp2
   go_ret
   exact⟨by rw[c.out];rfl,rfl⟩
theorem cE (a b:Bool)(w:World):Calls prog 76 #[.bool a,.bool b] w fun e w'=>e=.returned (.int .i64 (if a=b then 0 else if b then -1 else 1))/\w'=w:=by
 cases a<;>cases b
 all_goals
  go_enter func76,ntmps76
  go_wp2
  go_ret
  exact⟨rfl,rfl⟩
theorem Kx.one {α:Type}{w:World}{R:α->Value->Prop}{wta:α->Nat}{b:Nat}{es fs:List α}(hR:∀x y v,R x v->R y v->x=y)(h1:Kx w R wta b es)(h2:Kx w R wta b fs):es=fs:=by
 obtain⟨a,h,r,s,g⟩:=h1;obtain⟨A,m,j,c,d⟩:=h2;rw[s] at c;simp at c;obtain⟨⟨rfl,rfl,rfl⟩,_⟩:=c;obtain⟨B,_,u⟩:=g;obtain⟨C,_,z⟩:=d;apply List.ext_getElem?;intro i;by_cases D:i<h
 ·obtain⟨p,o,rfl,_,n⟩:=u.resolve_left (by omega);obtain⟨F,E,e,_,q⟩:=z.resolve_left (by omega);simp only[Option.some.injEq,Addr.mk.injEq,and_true] at e;obtain⟨rfl,rfl⟩:=e;have k:i<es.length:=by omega
  have l:i<fs.length:=by omega
  rw[List.getElem?_eq_getElem k,List.getElem?_eq_getElem l];obtain⟨v,t,g⟩:=n i _ (List.getElem?_eq_getElem k);obtain⟨G,f,d⟩:=q i _ (List.getElem?_eq_getElem l);rw[t] at f;simp only[Option.some.injEq] at f;subst f;rw[hR _ _ _ g d]
 ·rw[List.getElem?_eq_none (by omega),List.getElem?_eq_none (by omega)]
theorem Xm.one {α:Type}{w:World}{R:α->Value->Prop}{num:α->Option Int}{wta:α->Nat}{b d d':Nat}{ks us ks' us':List α}(hR:∀x y v,R x v->R y v->x=y)(h1:Xm w R num wta b d ks us)(h2:Xm w R num wta b d' ks' us'):ks=ks'/\us=us':=by
 obtain⟨B,_,a,h,u,r,j⟩:=h1;obtain⟨C,_,D,q,l,c,k⟩:=h2;rw[r] at c;simp at c;obtain⟨rfl,⟨rfl,rfl,rfl⟩,_⟩:=c;refine⟨B.one hR C,?_⟩;obtain⟨E,_,j⟩:=j;obtain⟨F,_,k⟩:=k;apply List.ext_getElem?;intro i;by_cases G:i<h
 ·obtain⟨p,o,rfl,_,s⟩:=j.resolve_left (by omega);obtain⟨I,H,e,_,t⟩:=k.resolve_left (by omega);simp only[Option.some.injEq,Addr.mk.injEq,and_true] at e;obtain⟨rfl,rfl⟩:=e;have m:i<us.length:=by omega
  have n:i<us'.length:=by omega
  rw[List.getElem?_eq_getElem m,List.getElem?_eq_getElem n];obtain⟨v,A,z⟩:=s i _ (List.getElem?_eq_getElem m);obtain⟨J,f,g⟩:=t i _ (List.getElem?_eq_getElem n);rw[A] at f;simp only[Option.some.injEq] at f;subst f;rw[hR _ _ _ z g]
 ·rw[List.getElem?_eq_none (by omega),List.getElem?_eq_none (by omega)]
theorem Ac8 {w:World}:∀(n:Nat)(a b:AV n)(v:Value),Rep w n a v->Rep w n b v->a=b
 | 0,a,_,_,_,_=>Empty.elim a
 | n+1,a,b,v,ha,hb=>by
  have H:=Ac8 (w:=w) n;rcases ha with⟨rfl,rfl⟩|⟨b1,rfl,rfl⟩|⟨i1,rfl,rfl⟩|⟨s1,rfl,rfl⟩|⟨s1,rfl,rfl⟩|⟨es1,p1,rfl,rfl,h1⟩|⟨ks1,us1,p1,d1,rfl,rfl,h1⟩ <;>
  rcases hb with⟨rfl,e⟩|⟨b2,rfl,e⟩|⟨i2,rfl,e⟩|⟨s2,rfl,e⟩|⟨s2,rfl,e⟩|⟨es2,p2,rfl,e,h2⟩|⟨ks2,us2,p2,d2,rfl,e,h2⟩ <;>
  simp at e
  ·rfl
  ·rw[e]
  ·rw[e]
  ·rw[e]
  ·rw[e]
  ·subst e;rw[h1.one H h2]
  ·subst e;obtain⟨q1,q2⟩:=h1.one H h2;rw[q1,q2]
end
section
attribute [local go_sem] Na Nb Jq Jr Fy Fz Ga Gb Ln Nc I6 I7 Fe Ff Fg Fh Hr Hs Gc Gd Ea Eb Ec Ed Ht Hu Ge Gf Ee Ef Eg Eh Gw Hv Fj Fk Dq Dr Ds Dt Gx Hw Fl Fm Du Dv Dw Dx
theorem cG:prog.underlying 121=some (.pointer 124):=underlying121
theorem cH:prog.underlying 125=some (.pointer 130):=underlying125
theorem kY:∃j,prog.info? 124=some j/\j.size≠0:=by
 have h:(prog.info? 124).map (fun i=>i.size)=some 2:=by kernel_rfl
 cases e:prog.info? 124 with
 | none=>rw[e] at h;simp at h
 | some j=>rw[e] at h;simp at h;exact⟨j,rfl,by omega⟩
theorem kZ:∃j,prog.info? 130=some j/\j.size≠0:=by
 have h:(prog.info? 130).map (fun i=>i.size)=some 4:=by kernel_rfl
 cases e:prog.info? 130 with
 | none=>rw[e] at h;simp at h
 | some j=>rw[e] at h;simp at h;exact⟨j,rfl,by omega⟩
theorem Nf (n:Nat)(hC:Nt n)(w:World)(b1 b2:Nat)(es fs:List (AV n))(h1:Kx w (Rep w n) (wt n) b1 es)(h2:Kx w (Rep w n) (wt n) b2 fs) :
  Calls prog 79 #[.pointer (some ⟨b1,0,none⟩),.pointer (some ⟨b2,0,none⟩)] w fun e w'=>e=.returned (.int .i64 (Es (Al n) es fs))/\Ac w w':=by
 have S:Hid (Nt n):=hC;clear hC;by_cases J:b1=b2
 ·subst J;have t:Hid (Es (Al n) es fs=0):=by rw[h1.one (Ac8 n) h2];exact(Kd (ord n)).self _
  clear h1 h2;obtain⟨j,p,_⟩:=kY;have A:=fun W=>run_eql_ptr_same (P:=prog) W ⟨b1,0,none⟩ cG p;go_enter func79,ntmps79
  go_wp2_with fail
  go_ret
  exact⟨by rw[t.out];rfl,Ac.refl w⟩
 ·obtain⟨D,m,V,q,B⟩:=h1;obtain⟨F,o,X,r,C⟩:=h2;have L:=Ab q 0;have M:=Ab r 0;have i:=Aa q;have k:=Aa r;obtain⟨j,p,K⟩:=kY;have l:=run_eql_ptr_other (P:=prog) w (a:=⟨b1,0,none⟩) (b:=⟨b2,0,none⟩) cG p K (fun h=>J (congrArg Addr.block h)) q r;clear q r p K;have H:=B.1;have I:=C.1;have g:=fun W=>U6 m o W;have E:Hid (Es (Al n) es fs=A4 (Lib.compareInt m o) (Ew (Al n) es fs)):=by rw[H,I];rfl
  have u:=cell_grown (w:=w) (a:=⟨b1,0,none⟩) i L;have y:=cell_grown (w:=w) (a:=⟨b2,0,none⟩) k M;have c:Hid (∀W,_):=g;have T:Hid (Jw w _ D m es):=B;have U:Hid (Jw w _ F o fs):=C;clear B C H I g;generalize Lib.compareInt m o=d at E c;have Z:=follows;have f:=fun(W:World) (hW:Ac w W)=>Nd n S.out W D F m o V X es fs (T.out.below hW.below fun x v=>Rep.below hW.below n x v) (U.out.below hW.below fun x v=>Rep.below hW.below n x v);have s:Hid (∀(W:World)(hW:Ac w W),_):=f;clear f;by_cases z:d=0
  ·subst z;go_enter func79,ntmps79
   go_wp2_with fail
   go_quiet_grown (first|(go_at_call 37;refine Ae3 ((c.out _).mono fun e W h=>⟨h.1,by rw[h.2];exact Ac.refl _⟩)))
   have G:Hid (Ac w (grow (w.drewN nq) osq)):=⟨nq,osq,rfl⟩;have N:=u nq osq;have O:=y nq osq;have Q:b1<(grow (w.drewN nq) osq).heap.size:=Ad8 i G.out.below.size;have R:b2<(grow (w.drewN nq) osq).heap.size:=Ad8 k G.out.below.size;clear u y L M;generalize grow (w.drewN nq) osq=W1 at G N O Q R |-;clear nq osq l;have u:=cell_grown (w:=W1) (a:=⟨b1,0,none⟩) Q N;have y:=cell_grown (w:=W1) (a:=⟨b2,0,none⟩) R O;go_wp2_with fail
   go_quiet_grown (first|(go_at_call 137;refine Ae3 (s.out _ (G.out.grown _ _))))
   go_wp2_with fail
   go_ret
   exact⟨by rw[E.out,Bl];rfl,G.out.grown _ _⟩
  ·have Y:(d==0)=false:=by simp[z]
   have t:Hid (Es (Al n) es fs=d):=by show _=_;rw[E.out];simp[A4,z]
   go_enter func79,ntmps79
   go_wp2_with fail
   go_quiet_grown (first|(go_at_call 37;refine Ae3 ((c.out _).mono fun e W h=>⟨h.1,by rw[h.2];exact Ac.refl _⟩)))
   go_wp2_with fail
   go_ret
   exact⟨by rw[t.out];rfl,(Ac.refl w).grown _ _⟩
theorem Nu (n:Nat)(hC:Nt n)(w:World)(b1 b2 d1 d2:Nat)(ks us ks' us':List (AV n))(h1:Xm w (Rep w n) (Au n) (wt n) b1 d1 ks us)(h2:Xm w (Rep w n) (Au n) (wt n) b2 d2 ks' us') :
  Calls prog 80 #[.pointer (some ⟨b1,0,none⟩),.pointer (some ⟨b2,0,none⟩)] w fun e w'=>e=.returned (.int .i64 (A4 (Es (Al n) ks ks') (Es (Al n) us us')))/\Ac w w':=by
 have y:Hid (Nt n):=hC;clear hC;by_cases B:b1=b2
 ·subst B;have i:Hid (A4 (Es (Al n) ks ks') (Es (Al n) us us')=0):=by
   obtain⟨Y,Z⟩:=h1.one (Ac8 n) h2;rw[Y,Z,(Kd (ord n)).self,(Kd (ord n)).self];rfl
  clear h1 h2;obtain⟨j,p,_⟩:=kZ;have u:=fun W=>run_eql_ptr_same (P:=prog) W ⟨b1,0,none⟩ cH p;go_enter func80,ntmps80
  go_wp2_with fail
  go_ret
  exact⟨by rw[i.out];rfl,Ac.refl w⟩
 ·obtain⟨O,lk,T,l1,V,q,M⟩:=h1;obtain⟨Q,a0,U,l2,X,r,N⟩:=h2;obtain⟨I,F⟩:=Lf q;obtain⟨J,H⟩:=Lf r;have f:=Aa q;have g:=Aa r;obtain⟨j,p,C⟩:=kZ;have m:=run_eql_ptr_other (P:=prog) w (a:=⟨b1,0,none⟩) (b:=⟨b2,0,none⟩) cH p C (fun h=>B (congrArg Addr.block h)) q r;clear q r p C;have l:=fun(W:World) (hW:Ac w W)=>Nf n y.out W d1 d2 ks ks' (O.below hW.below fun x v=>Rep.below hW.below n x v) (Q.below hW.below fun x v=>Rep.below hW.below n x v);have k:=fun(W:World) (hW:Ac w W)=>Nd n y.out W T U l1 l2 V X us us' (M.below hW.below fun x v=>Rep.below hW.below n x v) (N.below hW.below fun x v=>Rep.below hW.below n x v);have s:Hid (∀(W:World)(hW:Ac w W),_):=k;have c:Hid (∀(W:World)(hW:Ac w W),_):=l;have o:Hid (Es (Al n) ks ks'=0->Es (Al n) us us'=Ew (Al n) us us'):=by
   intro h;have:=congrArg List.length ((kW (Em n) ks ks').1 h);unfold Es;rw[(Md _ _).2 (by omega),Bl]
  clear k l O Q M N;generalize Es (Al n) ks ks'=d at c o |-;have z:=cell_grown (w:=w) (a:=⟨b1,0,none⟩) f I;have A:=cell_grown (w:=w) (a:=⟨b2,0,none⟩) g J;have D:=cell_grown (w:=w) (a:=⟨b1,1,none⟩) f F;have E:=cell_grown (w:=w) (a:=⟨b2,1,none⟩) g H;clear I J F H;have mo:=follows;by_cases t:d=0
  ·subst t;have i:Hid (A4 0 (Es (Al n) us us')=Ew (Al n) us us'):=by show _=_;rw[Bl];exact o.out rfl
   clear o;go_enter func80,ntmps80
   go_wp2_with fail
   go_quiet_grown (first|(go_at_call 79;refine Ae3 (c.out _ ((Ac.refl w).grown _ _))))
   have G:Hid (Ac w (grow (w.drewN nq) osq)):=⟨nq,osq,rfl⟩;have K:=D nq osq;have L:=E nq osq;have R:b1<(grow (w.drewN nq) osq).heap.size:=Ad8 f G.out.below.size;have S:b2<(grow (w.drewN nq) osq).heap.size:=Ad8 g G.out.below.size;clear z A D E;generalize grow (w.drewN nq) osq=W1 at G K L R S |-;clear nq osq m;have z:=cell_grown (w:=W1) (a:=⟨b1,1,none⟩) R K;have A:=cell_grown (w:=W1) (a:=⟨b2,1,none⟩) S L;go_wp2_with fail
   go_quiet_grown (first|(go_at_call 137;refine Ae3 (s.out _ (G.out.grown _ _))))
   go_wp2_with fail
   go_ret
   exact⟨by rw[i.out];rfl,G.out.grown _ _⟩
  ·have hd:(d==0)=false:=by simp[t]
   have i:Hid (A4 d (Es (Al n) us us')=d):=by show _=_;simp[A4,t]
   clear o;go_enter func80,ntmps80
   go_wp2_with fail
   go_quiet_grown (first|(go_at_call 79;refine Ae3 (c.out _ ((Ac.refl w).grown _ _))))
   go_wp2_with fail
   go_ret
   exact⟨by rw[i.out];rfl,(Ac.refl w).grown _ _⟩
end
section
attribute [local go_sem] Na Nb Jq Jr Fy Fz Ga Gb Ln Nc I6 I7 Fe Ff Fg Fh Hr Hs Gc Gd Ea Eb Ec Ed Ht Hu Ge Gf Ee Ef Eg Eh Gw Hv Fj Fk Dq Dr Ds Dt Gx Hw Fl Fm Du Dv Dw Dx
theorem U7 (a b:ByteArray)(w:World):Calls prog 78 #[.string a,.string b] w fun e w'=>e=.returned (.int .i64 (Lib.compareBytes a.data.toList b.data.toList))/\w'=w :=
 Tryz.strings_Compare a b w
theorem Rr (n:Nat)(hC:Nt n)(w:World)(a b:Ag (AV n))(va vb:Value)(ha:Rep w (n+1) a va)(hb:Rep w (n+1) b vb)(hk:a.kind=b.kind) :
  Calls prog 39 #[va,vb] w fun e w'=>e=.returned (.int .i64 (Nm (Al n) a b))/\Ac w w':=by
 have u:Hid (Nt n):=hC;clear hC;rcases ha with⟨rfl,rfl⟩|⟨v,rfl,rfl⟩|⟨x,rfl,rfl⟩|⟨m,rfl,rfl⟩|⟨m,rfl,rfl⟩|⟨c,s,rfl,rfl,g⟩|⟨k,p,s,A,rfl,rfl,g⟩ <;>
 rcases hb with⟨rfl,rfl⟩|⟨r,rfl,rfl⟩|⟨y,rfl,rfl⟩|⟨o,rfl,rfl⟩|⟨o,rfl,rfl⟩|⟨f,t,rfl,rfl,i⟩|⟨l,q,t,B,rfl,rfl,i⟩ <;>
 first|(exfalso;simp[Ar,Bj,Cu,Dm,D9,Bt,Dd] at hk;done)|clear hk
 ·go_enter func39,ntmps39
  go_wp2_with fail
  go_ret
  exact⟨rfl,Ac.refl w⟩
 ·rw[mI];have h:=cE v r w;generalize (if v=r then(0:Int) else if r=true then -1 else 1)=d at h |-;have H:Hid (Calls _ _ _ _ _):=h;clear h;go_enter func39,ntmps39
  go_wp2_with (go_at_call 76;refine H.out.mono ?_;rintro e w' ⟨rfl,rfl⟩)
  go_ret
  exact⟨rfl,Ac.refl _⟩
 ·rw[qC];have h:=Z7 x y w;generalize Lib.compareInt x y=d at h |-;have H:Hid (Calls _ _ _ _ _):=h;clear h;go_enter func39,ntmps39
  go_wp2_with (go_at_call 77;refine H.out.mono ?_;rintro e w' ⟨rfl,rfl⟩)
  go_ret
  exact⟨rfl,Ac.refl _⟩
 ·rw[mG];have h:=U7 m o w;generalize Lib.compareBytes m.data.toList o.data.toList=d at h |-;have H:Hid (Calls _ _ _ _ _):=h;clear h;go_enter func39,ntmps39
  go_wp2_with (go_at_call 78;refine H.out.mono ?_;rintro e w' ⟨rfl,rfl⟩)
  go_ret
  exact⟨rfl,Ac.refl _⟩
 ·rw[mH];have h:=U7 m o w;generalize Lib.compareBytes m.data.toList o.data.toList=d at h |-;have H:Hid (Calls _ _ _ _ _):=h;clear h;go_enter func39,ntmps39
  go_wp2_with (go_at_call 78;refine H.out.mono ?_;rintro e w' ⟨rfl,rfl⟩)
  go_ret
  exact⟨rfl,Ac.refl _⟩
 ·rw[qB];have h:=Nf n u.out w s t c f g i;generalize Es (Al n) c f=d at h |-;have H:Hid (Calls _ _ _ _ _):=h;clear h g i;go_enter func39,ntmps39
  go_wp2_with (go_at_call 79;refine H.out.mono ?_;rintro e w' ⟨rfl,j⟩;have z:Hid (Ac w w'):=j;clear j)
  go_ret
  exact⟨rfl,by assumption⟩
 ·rw[uV];have h:=Nu n u.out w s t A B k p l q g i;generalize A4 (Es (Al n) k l) (Es (Al n) p q)=d at h |-;have H:Hid (Calls _ _ _ _ _):=h;clear h g i;go_enter func39,ntmps39
  go_wp2_with (go_at_call 80;refine H.out.mono ?_;rintro e w' ⟨rfl,j⟩;have z:Hid (Ac w w'):=j;clear j)
  go_ret
  exact⟨rfl,by assumption⟩
theorem mJ (w:World)(va vb:Value)(t:TypeId):((w.alloc (.cells #[va] t)).alloc (.cells #[vb] t)).cell? ⟨w.heap.size,0,none⟩=some va/\((w.alloc (.cells #[va] t)).alloc (.cells #[vb] t)).cell? ⟨w.heap.size+1,0,none⟩=some vb/\((w.alloc (.cells #[va] t)).alloc (.cells #[vb] t)).heap.size=w.heap.size+2:=by
 simp
theorem Z8 (w:World)(va vb:Value)(k1 k2:Nat)(d r:Int)(st1:va.oneCell'=true)(st2:vb.oneCell'=true)
  (hr1:∀W:World,Ac w W->Calls prog 38 #[va] W fun e w'=>e=.returned (.int .i64 k1)/\w'=W)
  (hr2:∀W:World,Ac w W->Calls prog 38 #[vb] W fun e w'=>e=.returned (.int .i64 k2)/\w'=W)
  (hci:∀W:World,Calls prog 37 #[.int .i64 k1,.int .i64 k2] W fun e w'=>e=.returned (.int .i64 d)/\w'=W)
  (hca:d=0->∀W:World,Ac w W->Calls prog 39 #[va,vb] W fun e w'=>e=.returned (.int .i64 r)/\Ac W w') :
  Calls prog 17 #[.agg #[va],.agg #[vb]] w fun e w'=>e=.returned (.int .i64 (A4 d r))/\Ac w w':=by
 have HR1:Hid (∀(W:World),Ac w W->_):=hr1;have HR2:Hid (∀(W:World),Ac w W->_):=hr2;have HCI:Hid (∀W,_):=hci;have c:Hid (d=0->_):=hca;clear hr1 hr2 hci hca;have st1:=Ae st1;have st2:=Ae st2;have x:=follows;obtain⟨g,i,n⟩:=mJ w va vb 23;have G0:Hid (Ac w ((w.alloc (.cells #[va] 23)).alloc (.cells #[vb] 23))):=((Ac.refl w).alloc _).alloc _;have j:w.heap.size<((w.alloc (.cells #[va] 23)).alloc (.cells #[vb] 23)).heap.size:=by omega
 have k:w.heap.size+1<((w.alloc (.cells #[va] 23)).alloc (.cells #[vb] 23)).heap.size:=by omega
 by_cases p:d=0
 ·subst p;have o:Hid (A4 0 r=r):=Bl r;have b:=c.out rfl;have b:Hid (∀(W:World),Ac w W->_):=b;clear c;go_enter func17,ntmps17
  go_wp2_with fail
  generalize (w.alloc (.cells #[va] 23)).alloc (.cells #[vb] 23)=W0 at g i n G0 j k |-;have l:=cell_grown (w:=W0) (a:=⟨w.heap.size,0,none⟩) j g;have m:=cell_grown (w:=W0) (a:=⟨w.heap.size+1,0,none⟩) k i;clear n;go_quiet_grown (first
   | (go_at_call_of 38 (va);refine Ae3 ((HR1.out _ (G0.out.grown _ _)).mono fun e W h=>⟨h.1,by rw[h.2];exact Ac.refl _⟩))
   | (go_at_call_of 38 (vb);refine Ae3 ((HR2.out _ (G0.out.grown _ _)).mono fun e W h=>⟨h.1,by rw[h.2];exact Ac.refl _⟩))
   | (go_at_call 37;refine Ae3 ((HCI.out _).mono fun e W h=>⟨h.1,by rw[h.2];exact Ac.refl _⟩)))
  have f:Hid (Ac w (grow (W0.drewN nq) osq)):=G0.out.grown _ _;have s:=l nq osq;have t:=m nq osq;clear l m g i j k;generalize grow (W0.drewN nq) osq=W1 at f s t |-;clear nq osq;go_wp2_with (go_at_call 39;refine(b.out _ f.out).mono ?_;rintro e w' ⟨rfl,q⟩;have u:Hid (Ac w w'):=f.out.trans q;clear q)
  go_ret
  exact⟨by rw[o.out];rfl,by assumption⟩
 ·have v:(d==0)=false:=by simp[p]
  have o:Hid (A4 d r=d):=by show _=_;simp[A4,p]
  clear c;go_enter func17,ntmps17
  go_wp2_with fail
  generalize (w.alloc (.cells #[va] 23)).alloc (.cells #[vb] 23)=W0 at g i n G0 j k |-;have l:=cell_grown (w:=W0) (a:=⟨w.heap.size,0,none⟩) j g;have m:=cell_grown (w:=W0) (a:=⟨w.heap.size+1,0,none⟩) k i;clear n;go_quiet_grown (first
   | (go_at_call_of 38 (va);refine Ae3 ((HR1.out _ (G0.out.grown _ _)).mono fun e W h=>⟨h.1,by rw[h.2];exact Ac.refl _⟩))
   | (go_at_call_of 38 (vb);refine Ae3 ((HR2.out _ (G0.out.grown _ _)).mono fun e W h=>⟨h.1,by rw[h.2];exact Ac.refl _⟩))
   | (go_at_call 37;refine Ae3 ((HCI.out _).mono fun e W h=>⟨h.1,by rw[h.2];exact Ac.refl _⟩)))
  have f:Hid (Ac w (grow (W0.drewN nq) osq)):=G0.out.grown _ _;clear l m g i j k;generalize grow (W0.drewN nq) osq=W1 at f |-;clear nq osq;go_wp2_with fail
  go_ret
  exact⟨by rw[o.out];rfl,f.out⟩
theorem Z9 (n:Nat)(hC:Nt n):Nt (n+1):=by
 intro w a b f g c d;have e:Al (n+1) a b=A4 (Lib.compareInt (Rq (n+1) a) (Rq (n+1) b)) (Nm (Al n) a b):=by
  show Nm (Al n) a b=_;by_cases h:Lib.compareInt (Rq (n+1) a) (Rq (n+1) b)=0
  ·rw[h,Bl]
  ·simp only[A4,if_neg h];exact mF h
 rw[e];refine Z8 w f g _ _ _ _ c.one d.one (fun W hW=>cD (n+1) a f W (c.grew hW)) (fun W hW=>cD (n+1) b g W (d.grew hW)) (fun W=>U6 _ _ W) ?_;intro i W hW;have j:=(Md _ _).1 i;exact Rr n hC W a b f g (c.grew hW) (d.grew hW) (by simp only[Rq] at j;omega)
theorem Ia:∀n,Nt n
 | 0=>fun _ a=>Empty.elim a
 | n+1=>Z9 n (Ia n)
theorem Qm (n:Nat)(w:World)(a b:AV n)(va vb:Value)(ha:Rep w n a va)(hb:Rep w n b vb) :
  Calls prog 194 #[.agg #[va],.agg #[vb]] w fun e w'=>e=.returned (.bool (Al n a b==0))/\Ac w w':=by
 have f:=fun(W:World) (hW:Ac w W)=>Ia n W a b va vb (ha.grew hW) (hb.grew hW);have c:Hid (∀(W:World),Ac w W->_):=f;have h:=Ae ha.one;have i:=Ae hb.one;clear f ha hb;generalize Al n a b=d at c |-;go_enter func194,ntmps194
 go_wp2_with (go_at_call 17;refine(c.out _ (((Ac.refl w).alloc _).alloc _)).mono ?_;rintro e w' ⟨rfl,g⟩;have j:Hid (Ac w w'):=(((Ac.refl w).alloc _).alloc _).trans g;clear g)
 go_ret
 exact⟨rfl,by assumption⟩
end
theorem Tc (c:UInt8):C8 c=(decide (97<=(c.toNat:Int)/\(c.toNat:Int)<=122)||decide (65<=(c.toNat:Int)/\(c.toNat:Int)<=90)):=by
 rw[Bool.eq_iff_iff];simp[C8,UInt8.le_iff_toNat_le];omega
theorem P6 (c:UInt8):Ay c=decide (48<=(c.toNat:Int)/\(c.toNat:Int)<=57):=by
 rw[Bool.eq_iff_iff];simp[Ay,UInt8.le_iff_toNat_le];omega
theorem gI (x:Int)(w:World):Calls prog 160 #[.int .u8 x] w fun e w'=>e=.returned (.bool (decide (97<=x/\x<=122)||decide (65<=x/\x<=90)))/\w'=w:=by
 have a:∀b,(decide (97<=x/\x<=122)||decide (65<=x/\x<=90))=b->(decide (97<=x/\x<=122)||decide (65<=x/\x<=90))=b:=fun _ h=>h;rcases(show x<65\/(65<=x/\x<=90)\/(90<x/\x<97)\/(97<=x/\x<=122)\/122<x from by omega) with h|h|h|h|h
 ·rw[a false (by simp;omega)];clear a;have c:¬97<=x:=by omega
  have f:¬65<=x:=by omega
  go_enter func160,ntmps160
  go_wp2
  go_ret
  exact⟨rfl,rfl⟩
 ·rw[a true (by simp;omega)];clear a;obtain⟨d,g⟩:=h;have c:¬97<=x:=by omega
  go_enter func160,ntmps160
  go_wp2
  go_ret
  exact⟨rfl,rfl⟩
 ·rw[a false (by simp;omega)];clear a;have c:¬97<=x:=by omega
  have f:65<=x:=by omega
  have d:¬x<=90:=by omega
  clear h;go_enter func160,ntmps160
  go_wp2
  go_ret
  exact⟨rfl,rfl⟩
 ·rw[a true (by simp;omega)];clear a;obtain⟨d,g⟩:=h;go_enter func160,ntmps160
  go_wp2
  go_ret
  exact⟨rfl,rfl⟩
 ·rw[a false (by simp;omega)];clear a;have c:97<=x:=by omega
  have f:65<=x:=by omega
  have d:¬x<=90:=by omega
  have g:¬x<=122:=by omega
  clear h;go_enter func160,ntmps160
  go_wp2
  go_ret
  exact⟨rfl,rfl⟩
theorem mK (x:Int)(w:World):Calls prog 162 #[.int .u8 x] w fun e w'=>e=.returned (.bool (decide (48<=x/\x<=57)))/\w'=w:=by
 have a:∀b,decide (48<=x/\x<=57)=b->decide (48<=x/\x<=57)=b:=fun _ h=>h;rcases(show x<48\/(48<=x/\x<=57)\/57<x from by omega) with h|h|h
 ·rw[a false (by simp;omega)];clear a;have c:¬48<=x:=by omega
  clear h;go_enter func162,ntmps162
  go_wp2
  go_ret
  exact⟨rfl,rfl⟩
 ·rw[a true (by simp;omega)];clear a;obtain⟨c,d⟩:=h;go_enter func162,ntmps162
  go_wp2
  go_ret
  exact⟨rfl,rfl⟩
 ·rw[a false (by simp;omega)];clear a;have c:48<=x:=by omega
  have d:¬x<=57:=by omega
  clear h;go_enter func162,ntmps162
  go_wp2
  go_ret
  exact⟨rfl,rfl⟩
theorem U8 (c:UInt8)(w:World):Calls prog 160 #[.int .u8 c.toNat] w fun e w'=>e=.returned (.bool (C8 c))/\w'=w:=by
 rw[Tc];exact gI _ w
theorem Rs (c:UInt8)(w:World):Calls prog 162 #[.int .u8 c.toNat] w fun e w'=>e=.returned (.bool (Ay c))/\w'=w:=by
 rw[P6];exact mK _ w
theorem mL (x:Int)(b1 b2:Bool)(w:World)(h1:Calls prog 160 #[.int .u8 x] w fun e w'=>e=.returned (.bool b1)/\w'=w)(h2:Calls prog 162 #[.int .u8 x] w fun e w'=>e=.returned (.bool b2)/\w'=w) :
  Calls prog 255 #[.int .u8 x] w fun e w'=>e=.returned (.bool (b1||b2||decide (x=95)))/\w'=w:=by
 have a:Hid (Calls _ _ _ _ _):=h1;have b:Hid (Calls _ _ _ _ _):=h2;clear h1 h2;cases b1 with
 | true =>
  go_enter func255,ntmps255
  go_wp2_with (go_at_call 160;refine a.out.mono ?_;rintro e w' ⟨rfl,rfl⟩)
  go_ret
  exact⟨rfl,rfl⟩
 | false =>
  cases b2 with
  | true =>
   go_enter func255,ntmps255
   go_wp2_with (first|(go_at_call 160;refine a.out.mono ?_;rintro e w' ⟨rfl,rfl⟩)|(go_at_call 162;refine b.out.mono ?_;rintro e w' ⟨rfl,rfl⟩))
   go_ret
   exact⟨rfl,rfl⟩
  | false =>
   by_cases h:x=95
   ·rw[decide_eq_true h];have c:(x==95)=true:=by simp[h]
    clear h;go_enter func255,ntmps255
    go_wp2_with (first|(go_at_call 160;refine a.out.mono ?_;rintro e w' ⟨rfl,rfl⟩)|(go_at_call 162;refine b.out.mono ?_;rintro e w' ⟨rfl,rfl⟩))
    go_ret
    exact⟨rfl,rfl⟩
   ·rw[decide_eq_false h];have c:(x==95)=false:=by simp[h]
    clear h;go_enter func255,ntmps255
    go_wp2_with (first|(go_at_call 160;refine a.out.mono ?_;rintro e w' ⟨rfl,rfl⟩)|(go_at_call 162;refine b.out.mono ?_;rintro e w' ⟨rfl,rfl⟩))
    go_ret
    exact⟨rfl,rfl⟩
theorem J1 (c:UInt8)(k:Nat)(hk:k<256):(c==UInt8.ofNat k)=decide ((c.toNat:Int)=k):=by
 rw[Bool.eq_iff_iff];simp[<- UInt8.toNat_inj];omega
theorem qD (c:UInt8)(w:World):Calls prog 255 #[.int .u8 c.toNat] w fun e w'=>e=.returned (.bool (C9 c))/\w'=w:=by
 have e:C9 c=(C8 c||Ay c||decide ((c.toNat:Int)=95)):=by
  unfold C9;congr 1;exact J1 c 95 (by decide)
 rw[e];exact mL _ _ _ w (U8 c w) (Rs c w)
def Gy (c:UInt8):Bool:=c==32||c==9||c==10
theorem mM (x:Int)(w:World):Calls prog 117 #[.int .u8 x] w fun e w'=>e=.returned (.bool (decide (x=32)||decide (x=9)||decide (x=10)))/\w'=w:=by
 rcases(show x=32\/x=9\/x=10\/(x≠32/\x≠9/\x≠10) from by omega) with rfl|rfl|rfl|⟨a,b,c⟩
 ·go_enter func117,ntmps117
  go_wp2
  go_ret
  exact⟨rfl,rfl⟩
 ·go_enter func117,ntmps117
  go_wp2
  go_ret
  exact⟨rfl,rfl⟩
 ·go_enter func117,ntmps117
  go_wp2
  go_ret
  exact⟨rfl,rfl⟩
 ·rw[decide_eq_false a,decide_eq_false b,decide_eq_false c];have d:(x==32)=false:=by simp[a]
  have f:(x==9)=false:=by simp[b]
  have g:(x==10)=false:=by simp[c]
  clear a b c;go_enter func117,ntmps117
  go_wp2
  go_ret
  exact⟨rfl,rfl⟩
theorem mN (c:UInt8)(w:World):Calls prog 117 #[.int .u8 c.toNat] w fun e w'=>e=.returned (.bool (Gy c))/\w'=w:=by
 have e:Gy c=(decide ((c.toNat:Int)=32)||decide ((c.toNat:Int)=9)||decide ((c.toNat:Int)=10)):=by
  unfold Gy
  congr 1
  ·congr 1
   ·exact J1 c 32 (by decide)
   ·exact J1 c 9 (by decide)
  ·exact J1 c 10 (by decide)
 rw[e];exact mM _ w
def A5 (l:List UInt8):Nat:=(l.takeWhile C9).length
theorem Gz (l:List UInt8):A5 l<=l.length:=List.Sublist.length_le (List.takeWhile_sublist _)
theorem Il (p:UInt8->Bool)(l:List UInt8)(k:Nat)(c:UInt8)(hk:k<=(l.takeWhile p).length)(hc:l[k]?=some c) :
  (p c=true->k+1<=(l.takeWhile p).length)/\(p c=false->(l.takeWhile p).length=k):=by
 induction l generalizing k with
 | nil=>simp at hc
 | cons x l ih =>
  cases k with
  | zero =>
   simp only[List.getElem?_cons_zero,Option.some.injEq] at hc;subst hc;constructor
   ·intro h;simp[h]
   ·intro h;simp[h]
  | succ k =>
   have e:p x=true:=by
    cases d:p x with
    | true=>rfl
    | false=>simp[d] at hk
   simp only[List.getElem?_cons_succ] at hc;simp only[List.takeWhile_cons,e,if_true,List.length_cons] at hk |-;obtain⟨a,b⟩:=ih k (by omega) hc;exact⟨fun h=>by have:=a h;omega,fun h=>by have:=b h;omega⟩
theorem lA (s:ByteArray)(w:World)(hs:s.size<=4294967296):Calls prog 161 #[.string s] w fun e w'=>e=.returned (.int .i64 (A5 s.data.toList))/\w'=w:=by
 have q:=Gz s.data.toList;have u:s.data.toList.length=s.size:=by simp
 have p:Hid (∀c W,Calls prog 255 #[.int .u8 (UInt8.toNat c)] W _):=qD;obtain⟨N,l⟩:∃N,A5 s.data.toList=N:=⟨_,rfl⟩;have n:Hid (A5 s.data.toList=N):=l;rw[l] at q |-;clear l;have v:=follows;go_enter func161,ntmps161
 go_wp2_with fail
 go_loopw [3] (fun i wr=>∃k:Nat,k<=N/\i=.int .i64 k/\Hid (wr=w)) (fun i _=>s.size-(intOf i).toNat)
 case atStart=>exact⟨0,Ae1 _,rfl,rfl⟩
 case round =>
  obtain⟨k,t,rfl,j⟩:=hrel;by_cases r:k<s.size
  ·have m:=Il C9 s.data.toList k s[k] (by have:=n.out;unfold A5 at this;omega) (by rw[List.getElem?_eq_getElem (by omega)];rfl);have f:=p.out s[k];obtain⟨b,o⟩:∃b,C9 s[k]=b:=⟨_,rfl⟩;rw[o] at f m;have g:Hid (∀W,Calls prog 255 #[.int .u8 (UInt8.toNat s[k])] W _):=f;have a:(b=true->k+1<=N)/\(b=false->N=k):=by
    have:=n.out;unfold A5 at this;rw[<- this];exact m
   clear f m o;cases b with
   | true =>
    have d:=a.1 rfl;clear a;go_wp2_with (go_at_call 255;refine(g.out _).mono ?_;rintro e w' ⟨rfl,rfl⟩)
    go_roundw
    case rel=>exact⟨k+1,d,by go_num,j⟩
    case measure=>simp[intOf];omega
   | false =>
    have d:=a.2 rfl;clear a;have h:Hid (N=k):=d;clear d;go_wp2_with (go_at_call 255;refine(g.out _).mono ?_;rintro e w' ⟨rfl,rfl⟩)
    go_ret
    exact⟨by rw[h.out];rfl,j.out⟩
  ·have h:Hid (N=k):=by show _=_;omega
   go_wp2_with fail
   go_ret
   exact⟨by rw[h.out];rfl,j.out⟩
def Ci:List UInt8->Nat->Nat×Nat
 | [],i=>(5,i)
 | c::r,i=>if c==34 then(3,i+1) else if Le c then Ci r (i+1) else(5,i)
theorem U9 (l:List UInt8)(k:Nat)(c:UInt8)(h:l[k]?=some c):Ci (l.drop k) k=if c==34 then(3,k+1) else if Le c then Ci (l.drop (k+1)) (k+1) else(5,k):=by
 obtain⟨b,a⟩:=List.getElem?_eq_some_iff.1 h;rw[List.drop_eq_getElem_cons b,a];rfl
theorem Mg (c:UInt8):(c==34)=decide ((c.toNat:Int)=34)/\Le c=(decide (32<=(c.toNat:Int))&&decide ((c.toNat:Int)<=126)&&decide ((c.toNat:Int)≠34)&&decide ((c.toNat:Int)≠92)):=by
 refine⟨J1 c 34 (by decide),?_⟩;rw[Bool.eq_iff_iff];simp[Le,UInt8.le_iff_toNat_le,<- UInt8.toNat_inj];omega
theorem mO (s:ByteArray)(w:World)(hs:s.size<=4294967296)(h1:1<=s.size):Calls prog 166 #[.string s] w fun e w'=>e=.returned (.tuple #[.int .i64 (Ci (s.data.toList.drop 1) 1).2,.bool (decide ((Ci (s.data.toList.drop 1) 1).1=3))])/\w'=w:=by
 have G:s.data.toList.length=s.size:=by simp
 obtain⟨d,l,u⟩:∃d l,Ci (s.data.toList.drop 1) 1=(d,l):=⟨_,_,rfl⟩;rw[u];have t:Hid (Ci (s.data.toList.drop 1) 1=(d,l)):=u;clear u;obtain⟨A,o⟩:∃b,decide (d=3)=b:=⟨_,rfl⟩;show Calls prog 166 #[.string s] w fun e w'=>e=.returned (.tuple #[.int .i64 l,.bool (decide (d=3))])/\w'=w;rw[o];have f:Hid (decide (d=3)=A):=o;clear o;go_enter func166,ntmps166
 go_wp2_with fail
 go_loop [4] (fun i=>∃k:Nat,1<=k/\k<=s.size/\i=.int .i64 k/\Hid (Ci (s.data.toList.drop k) k=(d,l))) (fun i=>s.size-(intOf i).toNat)
 case atStart=>exact⟨1,Ad9 _,h1,rfl,t⟩
 case round =>
  obtain⟨k,D,F,rfl,r⟩:=hrel;by_cases E:k<s.size
  ·have p:=U9 s.data.toList k s[k] (by rw[List.getElem?_eq_getElem (by omega)];rfl);rw[r.out,(Mg s[k]).1,(Mg s[k]).2] at p;have a:Hid (_=_):=p;clear p r t;rcases(show(s[k].toNat:Int)=34\/((s[k].toNat:Int)≠34/\(s[k].toNat:Int)<32)\/((s[k].toNat:Int)≠34/\126<(s[k].toNat:Int))\/(s[k].toNat:Int)=92\/((s[k].toNat:Int)≠34/\(s[k].toNat:Int)≠92/\32<=(s[k].toNat:Int)/\(s[k].toNat:Int)<=126) from by omega) with h|⟨j,q⟩|⟨j,q⟩|h|⟨j,q,y,z⟩
   ·have g:Hid (d=3/\l=k+1):=by
     have:=a.out;simp[h] at this;exact this
    have v:((s[k].toNat:Int)==34)=true:=by simp[h]
    clear a h;go_wp2_with fail
    go_ret2
    obtain⟨m,n⟩:=g.out;have c:=f.out;subst m n;simp at c;subst c;exact⟨rfl,rfl⟩
   ·have g:Hid (d=5/\l=k):=by
     have:=a.out;simp[j,show ¬32<=(s[k].toNat:Int) from by omega] at this;exact this
    have v:((s[k].toNat:Int)==34)=false:=by simp[j]
    clear a j;go_wp2_with fail
    go_ret2
    obtain⟨m,n⟩:=g.out;have c:=f.out;subst m n;simp at c;subst c;exact⟨rfl,rfl⟩
   ·have g:Hid (d=5/\l=k):=by
     have:=a.out;simp[j,show ¬(s[k].toNat:Int)<=126 from by omega] at this;exact this
    have v:((s[k].toNat:Int)==34)=false:=by simp[j]
    have x:¬(s[k].toNat:Int)<32:=by omega
    clear a j;go_wp2_with fail
    go_ret2
    obtain⟨m,n⟩:=g.out;have c:=f.out;subst m n;simp at c;subst c;exact⟨rfl,rfl⟩
   ·have g:Hid (d=5/\l=k):=by
     have:=a.out;simp[h] at this;exact this
    have h1:((s[k].toNat:Int)==34)=false:=by simp[h]
    have x:¬(s[k].toNat:Int)<32:=by omega
    have B:¬126<(s[k].toNat:Int):=by omega
    have C:((s[k].toNat:Int)==92)=true:=by simp[h]
    clear a h;go_wp2_with fail
    go_ret2
    obtain⟨m,n⟩:=g.out;have c:=f.out;subst m n;simp at c;subst c;exact⟨rfl,rfl⟩
   ·have g:Hid (Ci (s.data.toList.drop (k+1)) (k+1)=(d,l)):=by
     have:=a.out;simp[j,q,y,z] at this;exact this.symm
    have h1:((s[k].toNat:Int)==34)=false:=by simp[j]
    have x:¬(s[k].toNat:Int)<32:=by omega
    have B:¬126<(s[k].toNat:Int):=by omega
    have C:((s[k].toNat:Int)==92)=false:=by simp[q]
    clear a j q y z;go_wp2_with fail
    go_round
    case rel=>exact⟨k+1,by omega,by omega,by go_num,g⟩
    case measure=>simp[intOf];omega
  ·have g:Hid (d=5/\l=s.size):=by
    have:=r.out;rw[List.drop_of_length_le (by omega)] at this;simp[Ci] at this;exact⟨this.1.symm,by omega⟩
   clear r t;go_wp2_with fail
   go_ret2
   obtain⟨m,n⟩:=g.out;have c:=f.out;subst m n;simp at c;subst c;exact⟨rfl,rfl⟩
def De (l:List UInt8):Nat×Nat :=
 if l.headD 0=48/\1<A5 l then(5,A5 l) else if (l.take (A5 l)).all Ay then(2,A5 l) else(5,A5 l)
def Ap (l:List UInt8)(k:Nat):UInt8:=l.getD k 0
theorem Hy {l:List UInt8}{k:Nat}(h:k<l.length):l[k]?=some (Ap l k):=by
 simp[Ap,List.getD,List.getElem?_eq_getElem h]
theorem mP (w:World)(s:ByteArray)(N cap k:Nat)(f:Nat×Nat)(hN:N<=s.size)(hk:k<N) :
  (w.alloc (.cells (bytesRow (s.extract 0 N) cap) 5 f)).cell? ⟨w.heap.size,k,none⟩=some (.int .u8 ((Ap s.data.toList k).toNat:Int)):=by
 have e:(s.extract 0 N).data.size=N:=by
  have:(s.extract 0 N).size=N:=by simp[ByteArray.size_extract];omega
  simpa using this
 have a:=bytesRow_at (s.extract 0 N) cap k (by omega);have b:(w.alloc (.cells (bytesRow (s.extract 0 N) cap) 5 f)).heap[w.heap.size]?=some (.cells (bytesRow (s.extract 0 N) cap) 5 f):=by
  show(w.heap.push _)[w.heap.size]?=_;simp
 rw[Ab b k,a];have c:(s.extract 0 N).data[k]=Ap s.data.toList k:=by
  have:s.data.toList[k]?=some (Ap s.data.toList k):=Hy (by simp;omega);simp only[Array.getElem?_toList] at this;have d:=(Array.getElem?_eq_some_iff.1 this).2;rw[<- d];simp[ByteArray.data_extract]
 rw[c]
def aA (l:List UInt8):Bool:=(l.take (A5 l)).all Ay&&(decide (A5 l=1)||(decide (1<A5 l)&&!decide ((Ap l 0).toNat=48)))
theorem Va (s:ByteArray)(w:World)(hs:s.size<=4294967296)(h1:1<=s.size):Calls prog 163 #[.string s] w fun e w'=>e=.returned (.tuple #[.int .i64 (A5 s.data.toList),.bool (aA s.data.toList)])/\Ac w w':=by
 have T:s.data.toList.length=s.size:=by simp
 have Q:=Gz s.data.toList;have g:=lA s w hs;obtain⟨B,E⟩:∃B,aA s.data.toList=B:=⟨_,rfl⟩;rw[E];have m:Hid (aA s.data.toList=B):=E;clear E;unfold aA at m;generalize A5 s.data.toList=N at Q g m;have d:Hid (Calls _ _ _ _ _):=g;clear g;have K:Ap s.data.toList 0=s[0]:=by
  have:=Hy (l:=s.data.toList) (k:=0) (by omega);rw[List.getElem?_eq_getElem (by omega)] at this;simp only[Option.some.injEq] at this;rw[<- this];rfl
 rw[K] at m;clear K;have t:=fun w s=>run_bytes_of_string (P:=prog) w 9 74 5 s underlying9 underlying74 underlying5;have L:min N s.size=N:=by omega
 have a:=fun cap f k hk=>mP w s N cap k f (by omega) hk;have x:Hid (∀c W,Calls prog 162 #[.int .u8 (UInt8.toNat c)] W _):=Rs;have y:Hid (∀k,k<N->(s.data.toList.take (k+1)).all Ay=((s.data.toList.take k).all Ay&&Ay (Ap s.data.toList k))):=by
  intro k hk;rw[List.take_add_one,Hy (by omega),List.all_append];simp
 have u:Hid (∀k,k<N->Ay (Ap s.data.toList k)=false->(s.data.toList.take N).all Ay=false):=by
  intro k hk S;rw[List.all_eq_false];exact⟨Ap s.data.toList k,Ae4 (i:=k) (by rw[List.getElem?_take];simp[hk,Hy (show k<s.data.toList.length by omega)]),by simp[S]⟩
 generalize J:s.data.toList.take N=tN at m u;have H:Hid (s.data.toList.take N=tN):=J;clear J;have U:=follows;go_enter func163,ntmps163
 go_wp2_with (go_at_call 161;refine d.out.mono ?_;rintro e w' ⟨rfl,rfl⟩)
 generalize grownCap _ N 0 5=cap;go_loop [14] (fun i=>∃k:Nat,k<=N/\i=.int .i64 k/\Hid ((s.data.toList.take k).all Ay=true)) (fun i=>N-(intOf i).toNat)
 case atStart=>exact⟨0,Ae1 _,rfl,by simp[Hid]⟩
 case round =>
  obtain⟨k,hk,rfl,C⟩:=hrel;by_cases p:k<N
  ·have v:=y.out k p;have F:=u.out k p;have R:=fun f=>a cap f k p;have n:=x.out (Ap s.data.toList k);rw[C.out,Bool.true_and] at v;generalize Ay (Ap s.data.toList k)=b at v F n;have r:Hid (∀W,Calls prog 162 #[.int .u8 (UInt8.toNat (Ap s.data.toList k))] W _):=n;have z:Hid (_=b):=v;have A:Hid (b=false->_):=F;clear v F n y u x a d t;cases b with
   | true =>
    go_wp2_with (go_at_call 162;refine(r.out _).mono ?_;rintro e w' ⟨rfl,rfl⟩)
    go_round
    case rel=>exact⟨k+1,by omega,by go_num,z⟩
    case measure=>simp[intOf];omega
   | false =>
    have h:Hid (B=false):=by
     have:=m.out;rw[A.out rfl] at this;exact this.symm
    go_wp2_with (go_at_call 162;refine(r.out _).mono ?_;rintro e w' ⟨rfl,rfl⟩)
    go_ret2
    have j:=h.out;subst j;exact⟨rfl,((Ac.refl _).alloc _).drew⟩
  ·obtain rfl:k=N:=by omega
   have h:Hid (B=(decide (k=1)||(decide (1<k)&&!decide (s[0].toNat=48)))):=by
    have:=m.out;rw[<- H.out,C.out,Bool.true_and] at this;exact this.symm
   clear y u x a d t m H C;rcases(show k=0\/k=1\/(1<k/\(s[0].toNat:Int)=48)\/(1<k/\(s[0].toNat:Int)≠48) from by omega) with q|q|⟨q,G⟩|⟨q,G⟩
   ·have o:Hid (B=false):=by show _=_;rw[h.out,q];rfl
    have D:((k:Int)==1)=false:=by simp;omega
    have I:decide ((1:Int)<(k:Int))=false:=by simp;omega
    clear h q;go_wp2_with fail
    go_quiet (fail)
    go_wp2_with fail
    go_ret2
    have j:=o.out;subst j;exact⟨rfl,(((Ac.refl _).alloc _).drew).drewN _⟩
   ·have o:Hid (B=true):=by show _=_;rw[h.out,q];rfl
    have D:((k:Int)==1)=true:=by simp;omega
    clear h q;go_wp2_with fail
    go_quiet (fail)
    go_wp2_with fail
    go_ret2
    have j:=o.out;subst j;exact⟨rfl,(((Ac.refl _).alloc _).drew).drewN _⟩
   ·have o:Hid (B=false):=by
     show _=_;rw[h.out,decide_eq_false (by omega),decide_eq_true q,decide_eq_true (show s[0].toNat=48 by omega)];rfl
    have D:((k:Int)==1)=false:=by simp;omega
    have I:decide ((1:Int)<(k:Int))=true:=by simp;omega
    have M:0<s.size:=h1;have O:((s[0].toNat:Int) != 48)=false:=by simp;omega
    clear h G q;go_wp2_with fail
    go_quiet (fail)
    go_wp2_with fail
    go_ret2
    have j:=o.out;subst j;exact⟨rfl,(((Ac.refl _).alloc _).drew).drewN _⟩
   ·have o:Hid (B=true):=by
     show _=_;rw[h.out,decide_eq_false (by omega),decide_eq_true q,decide_eq_false (show ¬s[0].toNat=48 by omega)];rfl
    have D:((k:Int)==1)=false:=by simp;omega
    have I:decide ((1:Int)<(k:Int))=true:=by simp;omega
    have M:0<s.size:=h1;have O:((s[0].toNat:Int) != 48)=true:=by simp;omega
    clear h G q;go_wp2_with fail
    go_quiet (fail)
    go_wp2_with fail
    go_ret2
    have j:=o.out;subst j;exact⟨rfl,(((Ac.refl _).alloc _).drew).drewN _⟩
theorem Rt (c n:Int)(b:Bool)(w:World):Calls prog 164 #[.int .i64 c,.int .i64 n,.bool b] w fun e w'=>e=.returned (.tuple #[.int .i64 (if b then c else 5),.int .i64 n])/\w'=w:=by
 cases b with
 | true =>
  rw[if_pos rfl];go_enter func164,ntmps164
  go_wp2
  go_ret2
  exact⟨rfl,rfl⟩
 | false =>
  rw[if_neg (by simp)];go_enter func164,ntmps164
  go_wp2
  go_ret2
  exact⟨rfl,rfl⟩
theorem uW {l:List UInt8}(h:1<=l.length)(hd:Ay (Ap l 0)=true):1<=A5 l:=by
 cases l with
 | nil=>simp at h
 | cons x l =>
  have a:C9 x=true:=by
   have:Ay x=true:=hd;simp[C9,this]
  simp[A5,a]
theorem Vb {l:List UInt8}(h:1<=l.length)(hd:Ay (Ap l 0)=true):De l=(if aA l then 2 else 5,A5 l):=by
 have f:=uW h hd;have c:l.headD 0=Ap l 0:=by cases l<;>rfl
 have a:(Ap l 0=48)↔(Ap l 0).toNat=48:=by rw[<- UInt8.toNat_inj];simp
 unfold De aA;rw[c];by_cases q:Ap l 0=48/\1<A5 l
 ·rw[if_pos q,decide_eq_false (show ¬A5 l=1 by omega),decide_eq_true (a.1 q.1)];simp
 ·rw[if_neg q];have:(decide (A5 l=1)||(decide (1<A5 l)&&!decide ((Ap l 0).toNat=48)))=true:=by
   by_cases d:A5 l=1
   ·simp[d]
   ·have b:1<A5 l:=by omega
    have e:¬(Ap l 0).toNat=48:=fun r=>q ⟨a.2 r,b⟩;simp[b,e]
  rw[this,Bool.and_true];split<;>rfl
def Po (l:List UInt8):Nat×Nat :=
 if l.length<2\/(Ap l 1).toNat<49\/57<(Ap l 1).toNat then(5,1) else((De (l.drop 1)).1,(De (l.drop 1)).2+1)
theorem Vc (l:List UInt8):(De l).2<=l.length:=by
 unfold De;repeat' split
 all_goals exact Gz l
theorem Df (s:ByteArray)(i j:Nat):(s.extract i j).data.toList=(s.data.toList.take j).drop i:=by
 simp[ByteArray.data_extract,List.drop_take]
theorem aB (s:ByteArray)(w:World)(hs:s.size<=4294967296)(h1:1<=s.size):Calls prog 165 #[.string s] w fun e w'=>e=.returned (.tuple #[.int .i64 (Po s.data.toList).1,.int .i64 (Po s.data.toList).2])/\Ac w w':=by
 have B:s.data.toList.length=s.size:=by simp
 obtain⟨g,h,q⟩:∃g h,Po s.data.toList=(g,h):=⟨_,_,rfl⟩;rw[q];have b:Hid (Po s.data.toList=(g,h)):=q;clear q;unfold Po at b;by_cases y:s.size<2
 ·have c:Hid (g=5/\h=1):=by
   have:=b.out;rw[if_pos (.inl (by omega))] at this;simp at this;exact⟨this.1.symm,this.2.symm⟩
  clear b;go_enter func165,ntmps165
  go_wp2_with fail
  go_ret2
  obtain⟨d,f⟩:=c.out;subst d f;exact⟨rfl,Ac.refl _⟩
 ·have j:Ap s.data.toList 1=s[1]:=by
   have:=Hy (l:=s.data.toList) (k:=1) (by omega);rw[List.getElem?_eq_getElem (by omega)] at this;simp only[Option.some.injEq] at this;rw[<- this];rfl
  rw[j] at b;by_cases z:(s[1].toNat:Int)<49
  ·have c:Hid (g=5/\h=1):=by
    have:=b.out;rw[if_pos (.inr (.inl (by omega)))] at this;simp at this;exact⟨this.1.symm,this.2.symm⟩
   clear b j;go_enter func165,ntmps165
   go_wp2_with fail
   go_ret2
   obtain⟨d,f⟩:=c.out;subst d f;exact⟨rfl,Ac.refl _⟩
  ·by_cases A:57<(s[1].toNat:Int)
   ·have c:Hid (g=5/\h=1):=by
     have:=b.out;rw[if_pos (.inr (.inr (by omega)))] at this;simp at this;exact⟨this.1.symm,this.2.symm⟩
    clear b j;go_enter func165,ntmps165
    go_wp2_with fail
    go_ret2
    obtain⟨d,f⟩:=c.out;subst d f;exact⟨rfl,Ac.refl _⟩
   ·have m:=Va (s.extract 1 s.size) w (by simp;omega) (by simp;omega);have v:(s.extract 1 s.size).data.toList=s.data.toList.drop 1:=by
     rw[Df,List.take_of_length_le (by omega)]
    have p:1<=(s.data.toList.drop 1).length:=by simp;omega
    have n:Ay (Ap (s.data.toList.drop 1) 0)=true:=by
     have:Ap (s.data.toList.drop 1) 0=s[1]:=by rw[<- j];simp[Ap,List.getD]
     rw[this,P6];simp;omega
    rw[v] at m;have i:=Gz (s.data.toList.drop 1);have a:Hid (((if aA (s.data.toList.drop 1) then 2 else 5),A5 (s.data.toList.drop 1)+1)=(g,h)):=by
     have:=b.out;rw[if_neg (by omega),Vb p n] at this;exact this
    clear b j v p n;generalize aA (s.data.toList.drop 1)=q1 at a m;generalize A5 (s.data.toList.drop 1)=q2 at a m i;have t:Hid (Calls _ _ _ _ _):=m;have u:Hid (∀W:World,_):=fun W=>Rt 2 ((q2:Int)+1) q1 W;have C:q2<=s.size:=by simp at i;omega
    clear m i;cases q1 with
    | true =>
     have c:Hid (g=2/\h=q2+1):=by
      have:=a.out;simp at this;exact⟨this.1.symm,this.2.symm⟩
     clear a;go_enter func165,ntmps165
     go_wp2_with (first|(go_at_call 163;refine t.out.mono ?_;rintro e w' ⟨rfl,o⟩;have x:Hid (Ac w w'):=o;clear o)|(go_at_call 164;refine(u.out _).mono ?_;rintro e w' ⟨rfl,r⟩;cases r))
     go_ret2
     obtain⟨d,f⟩:=c.out;subst d f;exact⟨by go_num,by assumption⟩
    | false =>
     have c:Hid (g=5/\h=q2+1):=by
      have:=a.out;simp at this;exact⟨this.1.symm,this.2.symm⟩
     clear a;go_enter func165,ntmps165
     go_wp2_with (first|(go_at_call 163;refine t.out.mono ?_;rintro e w' ⟨rfl,o⟩;have x:Hid (Ac w w'):=o;clear o)|(go_at_call 164;refine(u.out _).mono ?_;rintro e w' ⟨rfl,r⟩;cases r))
     go_ret2
     obtain⟨d,f⟩:=c.out;subst d f;exact⟨by go_num,by assumption⟩
def Kz (l:List UInt8):Nat×Nat :=
 if Lib.hasPrefix l [60,60] then(4,2) else if Lib.hasPrefix l [62,62] then(4,2) else if 0<=Lib.indexByte [123,125,91,93,44,58] (Ap l 0) then(4,1) else(5,1)
def Fa (l:List UInt8):Nat×Nat :=
 if l.length=0 then(0,0)
 else if C8 (Ap l 0) then(1,A5 l)
 else if Ay (Ap l 0) then De l
 else if (Ap l 0).toNat=45 then Po l
 else if (Ap l 0).toNat=34 then Ci (l.drop 1) 1
 else Kz l
theorem Ib (s:ByteArray)(k:Nat)(h:k<s.size):Ap s.data.toList k=s[k]:=by
 have a:s.data.toList.length=s.size:=by simp
 have:=Hy (l:=s.data.toList) (k:=k) (by omega);rw[List.getElem?_eq_getElem (by omega)] at this;simp only[Option.some.injEq] at this;rw[<- this];rfl
theorem J5:∀(l:List UInt8)(i:Nat),(Ci l i).1=3\/(Ci l i).1=5
 | [],_=>.inr rfl
 | c::r,i=>by
  have:=J5 r (i+1);simp only[Ci]
  repeat' split
  all_goals first|exact .inl rfl|exact .inr rfl|exact this
theorem cI (s:ByteArray)(w:World)(h:s.size=0):Calls prog 118 #[.string s] w fun e w'=>e=.returned (.tuple #[.int .i64 0,.int .i64 0])/\w'=w:=by
 have a:s=⟨#[]⟩:=by
  have:s.data.size=0:=by simpa using h
  cases s;simp_all
 subst a;go_enter func118,ntmps118
 go_wp2_with fail
 go_ret2
 exact⟨rfl,rfl⟩
theorem gJ (s:ByteArray)(w:World)(h0:0<s.size)(b1 b2:Bool)(r1 r2:Nat)
  (hL:Calls prog 160 #[.int .u8 (s[0].toNat:Int)] w fun e w'=>e=.returned (.bool b1)/\w'=w)
  (hD:Calls prog 162 #[.int .u8 (s[0].toNat:Int)] w fun e w'=>e=.returned (.bool b2)/\w'=w)
  (h1:b1=true->Calls prog 161 #[.string s] w fun e w'=>e=.returned (.int .i64 r2)/\w'=w) (h1':b1=true->r1=1)
  (h2:b1=false->b2=true->∃b:Bool,r1=(if b then 2 else 5)/\Calls prog 163 #[.string s] w fun e w'=>e=.returned (.tuple #[.int .i64 r2,.bool b])/\Ac w w')
  (h3:b1=false->b2=false->(s[0].toNat:Int)=45->Calls prog 165 #[.string s] w fun e w'=>e=.returned (.tuple #[.int .i64 r1,.int .i64 r2])/\Ac w w')
  (h4:b1=false->b2=false->(s[0].toNat:Int)≠45->(s[0].toNat:Int)=34->∃b:Bool,r1=(if b then 3 else 5)/\Calls prog 166 #[.string s] w fun e w'=>e=.returned (.tuple #[.int .i64 r2,.bool b])/\w'=w)
  (h5:b1=false->b2=false->(s[0].toNat:Int)≠45->(s[0].toNat:Int)≠34->Kz s.data.toList=(r1,r2)) :
  Calls prog 118 #[.string s] w fun e w'=>e=.returned (.tuple #[.int .i64 r1,.int .i64 r2])/\Ac w w':=by
 have h:Hid (Calls _ _ _ _ _):=hL;have j:Hid (Calls _ _ _ _ _):=hD;clear hL hD;have G:s.toList.isEmpty=false:=by
  rw[ByteArray.toList_eq];cases q:s.data.toList with
  | nil =>
   have:s.data.toList.length=s.size:=by simp
   rw[q] at this;simp at this;omega
  | cons a l=>rfl
 cases b1 with
 | true =>
  have i:Hid (Calls _ _ _ _ _):=h1 rfl;have F:Hid (r1=1):=h1' rfl;clear h1 h1' h2 h3 h4 h5;go_enter func118,ntmps118
  go_wp2_with (first|(go_at_call 160;refine h.out.mono ?_;rintro e w' ⟨rfl,c⟩;cases c)|(go_at_call 161;refine i.out.mono ?_;rintro e w' ⟨rfl,c⟩;cases c))
  go_ret2
  exact⟨by rw[F.out];rfl,Ac.refl _⟩
 | false =>
  clear h1 h1';cases b2 with
  | true =>
   obtain⟨b,B,C⟩:=h2 rfl rfl;have i:Hid (Calls _ _ _ _ _):=C;have A:Hid (∀W:World,_):=fun W=>Rt 2 (r2:Int) b W;have f:Hid (r1=if b then 2 else 5):=B;clear h2 h3 h4 h5 C B;cases b with
   | true =>
    go_enter func118,ntmps118
    go_wp2_with (first|(go_at_call 160;refine h.out.mono ?_;rintro e w' ⟨rfl,c⟩;cases c)|(go_at_call 162;refine j.out.mono ?_;rintro e w' ⟨rfl,c⟩;cases c)|(go_at_call 163;refine i.out.mono ?_;rintro e w' ⟨rfl,p⟩;have D:Hid (Ac w w'):=p;clear p)|(go_at_call 164;refine(A.out _).mono ?_;rintro e w' ⟨rfl,c⟩;cases c))
    go_ret2
    rw[f.out];exact⟨rfl,by assumption⟩
   | false =>
    go_enter func118,ntmps118
    go_wp2_with (first|(go_at_call 160;refine h.out.mono ?_;rintro e w' ⟨rfl,c⟩;cases c)|(go_at_call 162;refine j.out.mono ?_;rintro e w' ⟨rfl,c⟩;cases c)|(go_at_call 163;refine i.out.mono ?_;rintro e w' ⟨rfl,p⟩;have D:Hid (Ac w w'):=p;clear p)|(go_at_call 164;refine(A.out _).mono ?_;rintro e w' ⟨rfl,c⟩;cases c))
    go_ret2
    rw[f.out];exact⟨rfl,by assumption⟩
  | false =>
   clear h2;have h3:=h3 rfl rfl;have h4:=h4 rfl rfl;have h5:=h5 rfl rfl;by_cases x:(s[0].toNat:Int)=45
   ·have i:Hid (Calls _ _ _ _ _):=h3 x;have q:((s[0].toNat:Int)==45)=true:=by simp[x]
    clear h3 h4 h5 x;go_enter func118,ntmps118
    go_wp2_with (first|(go_at_call 160;refine h.out.mono ?_;rintro e w' ⟨rfl,c⟩;cases c)|(go_at_call 162;refine j.out.mono ?_;rintro e w' ⟨rfl,c⟩;cases c)|(go_at_call 165;refine i.out.mono ?_;rintro e w' ⟨rfl,p⟩;have D:Hid (Ac w w'):=p;clear p))
    go_ret2
    exact⟨rfl,by assumption⟩
   ·have h4:=h4 x;have h5:=h5 x;clear h3;have q:((s[0].toNat:Int)==45)=false:=by simp[x]
    clear x;by_cases y:(s[0].toNat:Int)=34
    ·obtain⟨b,B,C⟩:=h4 y;have i:Hid (Calls _ _ _ _ _):=C;have A:Hid (∀W:World,_):=fun W=>Rt 3 (r2:Int) b W;have f:Hid (r1=if b then 3 else 5):=B;have H:((s[0].toNat:Int)==34)=true:=by simp[y]
     clear h4 h5 y C B;cases b with
     | true =>
      go_enter func118,ntmps118
      go_wp2_with (first|(go_at_call 160;refine h.out.mono ?_;rintro e w' ⟨rfl,c⟩;cases c)|(go_at_call 162;refine j.out.mono ?_;rintro e w' ⟨rfl,c⟩;cases c)|(go_at_call 166;refine i.out.mono ?_;rintro e w' ⟨rfl,c⟩;cases c)|(go_at_call 164;refine(A.out _).mono ?_;rintro e w' ⟨rfl,c⟩;cases c))
      go_ret2
      rw[f.out];exact⟨rfl,Ac.refl _⟩
     | false =>
      go_enter func118,ntmps118
      go_wp2_with (first|(go_at_call 160;refine h.out.mono ?_;rintro e w' ⟨rfl,c⟩;cases c)|(go_at_call 162;refine j.out.mono ?_;rintro e w' ⟨rfl,c⟩;cases c)|(go_at_call 166;refine i.out.mono ?_;rintro e w' ⟨rfl,c⟩;cases c)|(go_at_call 164;refine(A.out _).mono ?_;rintro e w' ⟨rfl,c⟩;cases c))
      go_ret2
      rw[f.out];exact⟨rfl,Ac.refl _⟩
    ·have h5:=h5 y;have H:((s[0].toNat:Int)==34)=false:=by simp[y]
     clear h4 y;have m:=Tryz.strings_HasPrefix s ⟨#[60,60]⟩ w;have n:=Tryz.strings_HasPrefix s ⟨#[62,62]⟩ w;have g:=Tryz.strings_IndexByte ⟨#[123,125,91,93,44,58]⟩ (s[0].toNat:Int) w;rw[show((s[0].toNat:Int).toNat.toUInt8)=Ap s.data.toList 0 from by rw[Ib s 0 h0];simp] at g;unfold Kz at h5;simp only at m n g;generalize Lib.hasPrefix s.data.toList [60,60]=c1 at m h5;generalize Lib.hasPrefix s.data.toList [62,62]=c2 at n h5;generalize Lib.indexByte [123,125,91,93,44,58] (Ap s.data.toList 0)=d at g h5;have k:Hid (Calls _ _ _ _ _):=m;have t:Hid (Calls _ _ _ _ _):=n;have z:Hid (Calls _ _ _ _ _):=g;clear m n g;have o:Hid (_=(r1,r2)):=h5;clear h5;cases c1 with
     | true =>
      have r:Hid (r1=4/\r2=2):=by have:=o.out;simp at this;exact⟨this.1.symm,this.2.symm⟩
      clear o;go_enter func118,ntmps118
      go_wp2_with (first|(go_at_call 160;refine h.out.mono ?_;rintro e w' ⟨rfl,c⟩;cases c)|(go_at_call 162;refine j.out.mono ?_;rintro e w' ⟨rfl,c⟩;cases c)|(go_at_call 167;refine k.out.mono ?_;rintro e w' ⟨rfl,c⟩;cases c))
      go_ret2
      obtain⟨u,v⟩:=r.out;subst u v;exact⟨rfl,Ac.refl _⟩
     | false =>
      cases c2 with
      | true =>
       have r:Hid (r1=4/\r2=2):=by have:=o.out;simp at this;exact⟨this.1.symm,this.2.symm⟩
       clear o;go_enter func118,ntmps118
       go_wp2_with (first|(go_at_call 160;refine h.out.mono ?_;rintro e w' ⟨rfl,c⟩;cases c)|(go_at_call 162;refine j.out.mono ?_;rintro e w' ⟨rfl,c⟩;cases c))
       refine k.out.mono ?_;rintro e w' ⟨rfl,c⟩;cases c;go_wp2_with fail
       refine t.out.mono ?_;rintro e w' ⟨rfl,c⟩;cases c;go_wp2_with fail
       go_ret2
       obtain⟨u,v⟩:=r.out;subst u v;exact⟨rfl,Ac.refl _⟩
      | false =>
       by_cases E:0<=d
       ·have r:Hid (r1=4/\r2=1):=by have:=o.out;simp[E] at this;exact⟨this.1.symm,this.2.symm⟩
        clear o;go_enter func118,ntmps118
        go_wp2_with (first|(go_at_call 160;refine h.out.mono ?_;rintro e w' ⟨rfl,c⟩;cases c)|(go_at_call 162;refine j.out.mono ?_;rintro e w' ⟨rfl,c⟩;cases c))
        refine k.out.mono ?_;rintro e w' ⟨rfl,c⟩;cases c;go_wp2_with fail
        refine t.out.mono ?_;rintro e w' ⟨rfl,c⟩;cases c;go_wp2_with (go_at_call 168;refine z.out.mono ?_;rintro e w' ⟨rfl,c⟩;cases c)
        go_ret2
        obtain⟨u,v⟩:=r.out;subst u v;exact⟨rfl,Ac.refl _⟩
       ·have r:Hid (r1=5/\r2=1):=by have:=o.out;simp[E] at this;exact⟨this.1.symm,this.2.symm⟩
        clear o;go_enter func118,ntmps118
        go_wp2_with (first|(go_at_call 160;refine h.out.mono ?_;rintro e w' ⟨rfl,c⟩;cases c)|(go_at_call 162;refine j.out.mono ?_;rintro e w' ⟨rfl,c⟩;cases c))
        refine k.out.mono ?_;rintro e w' ⟨rfl,c⟩;cases c;go_wp2_with fail
        refine t.out.mono ?_;rintro e w' ⟨rfl,c⟩;cases c;go_wp2_with (go_at_call 168;refine z.out.mono ?_;rintro e w' ⟨rfl,c⟩;cases c)
        go_ret2
        obtain⟨u,v⟩:=r.out;subst u v;exact⟨rfl,Ac.refl _⟩
theorem Yf (s:ByteArray)(w:World)(hs:s.size<=4294967296):Calls prog 118 #[.string s] w fun e w'=>e=.returned (.tuple #[.int .i64 (Fa s.data.toList).1,.int .i64 (Fa s.data.toList).2])/\Ac w w':=by
 have f:s.data.toList.length=s.size:=by simp
 by_cases c:s.size=0
 ·have:Fa s.data.toList=(0,0):=by unfold Fa;rw[if_pos (by omega)]
  rw[this];exact(cI s w c).mono fun e w' h=>⟨h.1,by rw[h.2];exact Ac.refl _⟩
 ·have b:=Ib s 0 (by omega);unfold Fa;rw[if_neg (by omega),b];refine gJ s w (by omega) (C8 s[0]) (Ay s[0]) _ _ (U8 _ w) (Rs _ w) ?_ ?_ ?_ ?_ ?_ ?_
  ·intro h;rw[if_pos h];exact lA s w hs
  ·intro h;rw[if_pos h]
  ·intro h a;rw[if_neg (by simp[h]),if_pos a,Vb (by omega) (by rw[b];exact a)];exact⟨aA s.data.toList,rfl,Va s w hs (by omega)⟩
  ·intro h a q;rw[if_neg (by simp[h]),if_neg (by simp[a]),if_pos (by omega)];exact aB s w hs (by omega)
  ·intro h a q d;rw[if_neg (by simp[h]),if_neg (by simp[a]),if_neg (by omega),if_pos (by omega)];refine⟨decide ((Ci (s.data.toList.drop 1) 1).1=3),?_,mO s w hs (by omega)⟩;rcases J5 (s.data.toList.drop 1) 1 with q|q<;>rw[q]<;>rfl
  ·intro h a q d;rw[if_neg (by simp[h]),if_neg (by simp[a]),if_neg (by omega),if_neg (by omega)]
theorem uX {l v:List UInt8}{b:Bool}(H:Hid (Bw l=b))(h:(l==v)=true)(hv:Bw v=true):b=true:=by
 have:=eq_of_beq h;subst this;rw[<- H.out];exact hv
theorem yK {l:List UInt8}{b:Bool}(H:Hid (Bw l=b))(h:∀v∈Ct,(l==v)=false):b=false:=by
 rw[<- H.out];unfold Bw;rw[List.contains_eq_any_beq,List.any_eq_false];intro v a;rw[h v a];simp
theorem cJ {b:Bool}{p:Prop}(h:b=true)(h':b=false):p:=by rw[h] at h';simp at h'
theorem Xn:Ct=[[109,111,100,117,108,101],[99,111,110,115,116,97,110,116],[97,116,111,109,115],[115,121,109,109,101,116,114,105,99],[118,97,114,105,97,98,108,101],[100,101,102,105,110,101],[105,110,105,116],[97,99,116,105,111,110],[102,97,105,114],[119,101,97,107],[115,116,114,111,110,103],[105,110,118,97,114,105,97,110,116],[112,114,111,112,101,114,116,121],[97,110,100],[111,114],[110,111,116],[105,109,112,108,105,101,115],[105,102,102],[105,110],[117,110,105,111,110],[105,110,116,101,114],[109,105,110,117,115],[115,117,98,115,101,116],[112,111,119,101,114,115,101,116],[102,108,97,116,116,101,110],[100,111,109,97,105,110],[117,110,99,104,97,110,103,101,100],[101,110,97,98,108,101,100],[97,108,119,97,121,115],[101,118,101,110,116,117,97,108,108,121],[117,110,116,105,108],[108,101,97,100,115,116,111],[99,104,111,111,115,101],[97,108,108],[115,111,109,101],[101,97,99,104],[116,104,111,115,101],[102,117,110],[105,102],[116,104,101,110],[101,108,115,101],[108,101,116],[110,105,108],[116,114,117,101],[102,97,108,115,101],[115,105,122,101],[108,101,110],[104,101,97,100],[116,97,105,108],[97,112,112,101,110,100],[118,97,108,117,101,115],[115,101,113,115]]:=by decide +kernel
theorem Xo (s:ByteArray)(w:World)(b:Bool)(H:Hid (Bw s.toList=b)):Calls prog 169 #[.string s] w fun e w'=>e=.returned (.bool b)/\w'=w:=by
 go_enter func169,ntmps169
 go_wp2_with fail
 all_goals first
  | (exact cJ ‹(s.toList==_)=true› ‹(s.toList==_)=false›)
  | (
   have q:=uX H ‹(s.toList==_)=true› (by decide +kernel);subst q;go_ret
   exact⟨rfl,rfl⟩)
  | (
   have q:b=false:=by
    refine yK H ?_;rw[Xn];intro v a;simp only[List.mem_cons,List.not_mem_nil,or_false] at a;rcases a with rfl|rfl|rfl|rfl|rfl|rfl|rfl|rfl|rfl|rfl|rfl|rfl|rfl|rfl|rfl|rfl|rfl|rfl|rfl|rfl|rfl|rfl|rfl|rfl|rfl|rfl|rfl|rfl|rfl|rfl|rfl|rfl|rfl|rfl|rfl|rfl|rfl|rfl|rfl|rfl|rfl|rfl|rfl|rfl|rfl|rfl|rfl|rfl|rfl|rfl|rfl|rfl<;>assumption
   subst q;go_ret
   exact⟨rfl,rfl⟩)
theorem aC (s:ByteArray)(w:World):Calls prog 169 #[.string s] w fun e w'=>e=.returned (.bool (Bw s.data.toList))/\w'=w:=by
 refine Xo s w _ ?_;rw[ByteArray.toList_eq];exact rfl
end Go.Proofs.YtdpeliifdlhhkaaGreatDoor.Sx
