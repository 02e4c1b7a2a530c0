/- The number of an error, for expressions: errors.As, Told, and what compares it. -/
import Derived.Test.YtjbfcadeapphbaaGreatDoorF13
import Derived.WalkKit
import Derived.LaidEql
import Derived.Stop.Asserts
import Derived.RowKitTokens
namespace Go.Proofs.YtjbfcadeapphbaaGreatDoor.Sx
set_option maxRecDepth 100000
set_option maxHeartbeats 8000000
open Go.RowKit Go.Extern.Stop Go.Stop Go.Extern
theorem aY (t:Addr)(w:World):(ReflectliteValue.unpack (.iface 103 (.pointer (some t)))).run Tryz.prog w
  = .ok (.agg #[.pointer (some ⟨7,103,none⟩),.pointer (some ⟨w.heap.size,0,none⟩),.int .u64 150]) (w.alloc (.cells #[.pointer (some t)] 103)):=by kernel_rfl
theorem iN (a : Addr) (w : World) : (ReflectliteValue.methodAny (ReflectliteValue.valueError "reflectlite.Value.Type" 0) (fun t _ _ _ => ReflectliteType.toType t) #[.agg #[.pointer (some ⟨7, 103, none⟩), .pointer (some a), .int .u64 150]]).run Tryz.prog w
  = .ok (.iface 171 (.agg #[.pointer (some ⟨7,103,none⟩)])) w:=by kernel_rfl
theorem kN (h : Value) (w : World) : (Go.method 363 171 (.agg #[h]) "Kind").run Tryz.prog w = .ok (195, h) w := by kernel_rfl
theorem iO (w:World):((ReflectliteType.abiMethod fun t=>(fun a:Nat=>Value.int IntKind.u8 (a:Int)) <$> Rtype.kind t) #[.pointer (some ⟨7,103,none⟩)]).run Tryz.prog w=.ok (.int .u8 22) w:=by kernel_rfl
theorem iP (w:World):((ReflectliteType.abiMethod fun t=>(fun a:Nat=>Value.int IntKind.u8 (a:Int)) <$> Rtype.kind t) #[.pointer (some ⟨7,58,none⟩)]).run Tryz.prog w=.ok (.int .u8 2) w:=by kernel_rfl
theorem Th (a:Addr)(w:World):(ReflectliteValue.parts (.agg #[.pointer (some ⟨7,103,none⟩),.pointer (some a),.int .u64 150])).run Tryz.prog w=.ok (some (103,a,150)) w:=by kernel_rfl
theorem eY (a p:Addr)(W:World)(ha:W.cell? a=some (.pointer (some p))) :
  (ReflectliteValue.method (ReflectliteValue.valueError "reflectlite.Value.IsNil" 0) ReflectliteValue.isNil #[.agg #[.pointer (some ⟨7, 103, none⟩), .pointer (some a), .int .u64 150]]).run Tryz.prog W = .ok (.bool false) W := by
 show Sem.run Tryz.prog (ReflectliteValue.parts (.agg #[.pointer (some ⟨7,103,none⟩),.pointer (some a),.int .u64 150]) >>= _) W=_;simp only[Sem.run_bind,Th,Result.andThen];simp[ReflectliteValue.isNil,loadVar,isAgg,underlying,Tryz.underlying103,ha,Result.andThen]
theorem kO (h : Value) (w : World) : (Go.method 363 171 (.agg #[h]) "Elem").run Tryz.prog w = .ok (207, .agg #[h]) w := by kernel_rfl
theorem kP (h : Value) (w : World) : (Go.method 363 171 (.agg #[h]) "Implements").run Tryz.prog w = .ok (208, .agg #[h]) w := by kernel_rfl
theorem eZ (h : Value) (w : World) : (Go.method 363 171 (.agg #[h]) "AssignableTo").run Tryz.prog w = .ok (205, .agg #[h]) w := by kernel_rfl
theorem iQ (w:World):(ReflectliteType.method ReflectliteType.elem #[.agg #[.pointer (some ⟨7,103,none⟩)]]).run Tryz.prog w=.ok (.iface 171 (.agg #[.pointer (some ⟨7,58,none⟩)])) w:=by kernel_rfl
theorem iR (w : World) : (ReflectliteType.relation "Implements" ReflectliteType.implements_ #[.agg #[.pointer (some ⟨7, 58, none⟩)], .iface 171 (.agg #[.pointer (some ⟨7, 23, none⟩)])]).run Tryz.prog w = .ok (.bool true) w := by kernel_rfl
theorem iS (v:Value)(w:World):(ReflectliteType.typeOf #[.iface 58 v]).run Tryz.prog w=.ok (.iface 171 (.agg #[.pointer (some ⟨7,58,none⟩)])) w:=by kernel_rfl
theorem aZ (w : World) : (ReflectliteType.relation "AssignableTo" ReflectliteType.assignableTo #[.agg #[.pointer (some ⟨7, 58, none⟩)], .iface 171 (.agg #[.pointer (some ⟨7, 58, none⟩)])]).run Tryz.prog w = .ok (.bool true) w := by kernel_rfl
theorem bB (n:Int)(w:World):(ReflectliteValue.unpack (.iface 58 (.int .i64 n))).run Tryz.prog w
  = .ok (.agg #[.pointer (some ⟨7,58,none⟩),.pointer (some ⟨w.heap.size,0,none⟩),.int .u64 130]) (w.alloc (.cells #[.int .i64 n] 58)):=by kernel_rfl
theorem fA (w:World):(Rtype.elem? 103).run Tryz.prog w=.ok (some 58) w:=by kernel_rfl
theorem lZ (p:Addr)(w:World):(ReflectliteValue.mk 58 p ReflectliteValue.flagAddr).run Tryz.prog w=.ok (.agg #[.pointer (some ⟨7,58,none⟩),.pointer (some p),.int .u64 386]) w:=by kernel_rfl
theorem iT (a p:Addr)(W:World)(ha:W.cell? a=some (.pointer (some p))) :
  (ReflectliteValue.method (ReflectliteValue.valueError "reflectlite.Value.Elem" 0) ReflectliteValue.elem #[.agg #[.pointer (some ⟨7, 103, none⟩), .pointer (some a), .int .u64 150]]).run Tryz.prog W
   = .ok (.agg #[.pointer (some ⟨7,58,none⟩),.pointer (some p),.int .u64 386]) W:=by
 show Sem.run Tryz.prog (ReflectliteValue.parts (.agg #[.pointer (some ⟨7,103,none⟩),.pointer (some a),.int .u64 150]) >>= _) W=_;simp only[Sem.run_bind,Th,Result.andThen];simp[ReflectliteValue.elem,loadVar,isAgg,underlying,Tryz.underlying103,ha,Result.andThen,fA,lZ]
theorem fB (a:Addr)(w:World):(ReflectliteValue.parts (.agg #[.pointer (some ⟨7,58,none⟩),.pointer (some a),.int .u64 386])).run Tryz.prog w=.ok (some (58,a,386)) w:=by kernel_rfl
theorem fC (a:Addr)(w:World):(ReflectliteValue.parts (.agg #[.pointer (some ⟨7,58,none⟩),.pointer (some a),.int .u64 130])).run Tryz.prog w=.ok (some (58,a,130)) w:=by kernel_rfl
theorem fD (w:World):(Rtype.directlyAssignable 58 58).run Tryz.prog w=.ok true w:=by kernel_rfl
theorem kQ (ta b:Addr)(n:Int)(old:Value)(W:World)(hb:W.cell? b=some (.int .i64 n))(ht:W.cell? ta=some old)(hf:W.frozen? ta=false) :
  (ReflectliteValue.set #[.agg #[.pointer (some ⟨7,58,none⟩),.pointer (some ta),.int .u64 386],.agg #[.pointer (some ⟨7,58,none⟩),.pointer (some b),.int .u64 130]]).run Tryz.prog W
   = .ok (.tuple #[]) (W.setCell ta (.int .i64 n)):=by
 show Sem.run Tryz.prog (ReflectliteValue.parts (.agg #[.pointer (some ⟨7,58,none⟩),.pointer (some ta),.int .u64 386]) >>= fun _=>ReflectliteValue.parts (.agg #[.pointer (some ⟨7,58,none⟩),.pointer (some b),.int .u64 130]) >>= fun _=>_) W=_;simp only[Sem.run_bind,fB,fC,Result.andThen];simp[ReflectliteValue.flagAddr,loadVar,isAgg,underlying,Tryz.underlying58,hb,Result.andThen,fD,storeVar,Value.cells,storeCells,Addr.add];rw[run_store Tryz.prog W ta _ _ (by rfl)];simp[ht,hf]
theorem fE (n:Int)(t:Addr)(old:Value)(w:World)(hg:w.cell? ⟨0,0,none⟩=some (.iface 171 (.agg #[.pointer (some ⟨7,23,none⟩)])))(ht0:w.cell? t=some old)(hf0:w.frozen? t=false) :
  Calls Tryz.prog 52 #[.iface 58 (.int .i64 n),.iface 103 (.pointer (some t))] w fun ev w'=>ev=.returned (.bool true)/\w'=((((w.alloc (.cells #[.pointer (some t)] 103)).alloc (.cells #[.pointer (some ⟨7,103,none⟩),.pointer (some ⟨w.heap.size,0,none⟩),.int .u64 150] 141)).alloc (.cells #[.pointer (some ⟨7,103,none⟩),.pointer (some ⟨w.heap.size,0,none⟩),.int .u64 150] 141)).alloc (.cells #[.int .i64 n] 58)).setCell t (.int .i64 n):=by
 have y:=@run_callFunc_extern Tryz.prog 80 _ (fun args=>ReflectliteValue.unpack (args.getD 0 (.tuple #[]))) Tryz.func80 (by kernel_rfl) (by kernel_rfl) (by kernel_rfl) (by kernel_rfl);have z := @run_callFunc_extern Tryz.prog 81 _ (ReflectliteValue.methodAny (ReflectliteValue.valueError "reflectlite.Value.Type" 0) (fun t _ _ _ => ReflectliteType.toType t)) Tryz.func81 (by kernel_rfl) (by kernel_rfl) (by kernel_rfl) (by kernel_rfl);have A := @run_callFunc_extern Tryz.prog 82 _ (ReflectliteValue.method (ReflectliteValue.valueError "reflectlite.Value.IsNil" 0) ReflectliteValue.isNil) Tryz.func82 (by kernel_rfl) (by kernel_rfl) (by kernel_rfl) (by kernel_rfl);have j:=@run_callFunc_extern Tryz.prog 195 _ (ReflectliteType.abiMethod fun t=>do pure (.int .u8 (<- Rtype.kind t))) Tryz.func195 (by kernel_rfl) (by kernel_rfl) (by kernel_rfl) (by kernel_rfl);have l:=@run_callFunc_extern Tryz.prog 207 _ (ReflectliteType.method ReflectliteType.elem) Tryz.func207 (by kernel_rfl) (by kernel_rfl) (by kernel_rfl) (by kernel_rfl);have m := @run_callFunc_extern Tryz.prog 208 _ (ReflectliteType.relation "Implements" ReflectliteType.implements_) Tryz.func208 (by kernel_rfl) (by kernel_rfl) (by kernel_rfl) (by kernel_rfl);have f:=@run_callFunc_extern Tryz.prog 109 _ ReflectliteType.typeOf Tryz.func109 (by kernel_rfl) (by kernel_rfl) (by kernel_rfl) (by kernel_rfl);have k := @run_callFunc_extern Tryz.prog 205 _ (ReflectliteType.relation "AssignableTo" ReflectliteType.assignableTo) Tryz.func205 (by kernel_rfl) (by kernel_rfl) (by kernel_rfl) (by kernel_rfl);have g := @run_callFunc_extern Tryz.prog 110 _ (ReflectliteValue.method (ReflectliteValue.valueError "reflectlite.Value.Elem" 0) ReflectliteValue.elem) Tryz.func110 (by kernel_rfl) (by kernel_rfl) (by kernel_rfl) (by kernel_rfl);have i:=@run_callFunc_extern Tryz.prog 111 _ ReflectliteValue.set Tryz.func111 (by kernel_rfl) (by kernel_rfl) (by kernel_rfl) (by kernel_rfl);have H:=iS;have B:=eZ;have c:=aZ;have s:=bB;have v:=aY;have x:=iN;have E:=kN;have C:=kO;have D:=kP;have r:=iO;have q:=iP;have d:=iQ;have p:=iR;have F:=eY ⟨w.heap.size,0,none⟩ t ((w.alloc (.cells #[.pointer (some t)] 103)).alloc (.cells #[.pointer (some ⟨7,103,none⟩),.pointer (some ⟨w.heap.size,0,none⟩),.int .u64 150] 141)) (by simp);have b:0<w.heap.size:=by
  rcases Nat.eq_zero_or_pos w.heap.size with e|h
  ·simp[World.cell?,e] at hg
  ·exact h
 have o:((w.alloc (.cells #[.pointer (some t)] 103)).alloc (.cells #[.pointer (some ⟨7,103,none⟩),.pointer (some ⟨w.heap.size,0,none⟩),.int .u64 150] 141)).cell? ⟨0,0,none⟩=some (.iface 171 (.agg #[.pointer (some ⟨7,23,none⟩)])):=by
  rw[World.cell?_alloc_lt _ _ ⟨0,0,none⟩ (by simp),World.cell?_alloc_lt _ _ ⟨0,0,none⟩ b];exact hg
 have a:t.block<w.heap.size:=by
  rcases Nat.lt_or_ge t.block w.heap.size with h|h
  ·exact h
  ·simp[World.cell?,Array.getElem?_eq_none h] at ht0
 have u:=iT ⟨w.heap.size,0,none⟩ t (((w.alloc (.cells #[.pointer (some t)] 103)).alloc (.cells #[.pointer (some ⟨7,103,none⟩),.pointer (some ⟨w.heap.size,0,none⟩),.int .u64 150] 141)).alloc (.cells #[.pointer (some ⟨7,103,none⟩),.pointer (some ⟨w.heap.size,0,none⟩),.int .u64 150] 141)) (by rw[World.cell?_alloc_lt _ _ ⟨w.heap.size,0,none⟩ (by simp;omega)];simp);have G:=kQ t ⟨w.heap.size+1+1+1,0,none⟩ n old ((((w.alloc (.cells #[.pointer (some t)] 103)).alloc (.cells #[.pointer (some ⟨7,103,none⟩),.pointer (some ⟨w.heap.size,0,none⟩),.int .u64 150] 141)).alloc (.cells #[.pointer (some ⟨7,103,none⟩),.pointer (some ⟨w.heap.size,0,none⟩),.int .u64 150] 141)).alloc (.cells #[.int .i64 n] 58))
  (by rw[World.cell?_alloc_at _ _ _ _ (by simp)];rfl)
  (by rw[World.cell?_alloc_lt _ _ t (by simp;omega),World.cell?_alloc_lt _ _ t (by simp;omega),World.cell?_alloc_lt _ _ t (by simp;omega),World.cell?_alloc_lt _ _ t a];exact ht0)
  (by rw[World.frozen?_alloc_old _ _ t (by simp;omega),World.frozen?_alloc_old _ _ t (by simp;omega),World.frozen?_alloc_old _ _ t (by simp;omega),World.frozen?_alloc_old _ _ t (Nat.ne_of_lt a)];exact hf0)
 go_enter Tryz.func52,Tryz.ntmps52
 go_wp2
 refine wp_loop_rounds 1 ?_;rw[rounds_succ];go_wp2
 go_ret
 exact⟨rfl,rfl⟩
end Go.Proofs.YtjbfcadeapphbaaGreatDoor.Sx
namespace Go.Proofs.YtjbfcadeapphbaaGreatDoor.Sx
open Go.RowKit Go.Sort
structure Ky (w:World):Prop where
 env:6<w.heap.size/\(∃ev,w.cell? ⟨6,0,none⟩=some ev/\(ev=.nilIface\/∃te pe,ev=.iface te pe))/\∃ev,w.cell? ⟨5,0,none⟩=some ev/\(ev=.nilIface\/∃te pe,ev=.iface te pe)
 tab : Lib.TabIs Tryz.prog w "internal/strconv.uint64pow10" .u64 Lib.pow10Tab
 et:w.cell? ⟨0,0,none⟩=some (.iface 171 (.agg #[.pointer (some ⟨7,23,none⟩)]))
def Hs (f:FuncId)(args:Array Value)(w:World)(r:Value):Prop:=Calls Tryz.prog f args w fun e w'=>e=.returned r/\Below w.heap.size w w'
theorem fF {w:World}{v:Value}(h:w.cell? ⟨0,0,none⟩=some v):0<w.heap.size:=by
 rcases Nat.eq_zero_or_pos w.heap.size with a|b
 ·simp[World.cell?,a] at h
 ·exact b
theorem bC {w w':World}(hb:Below w.heap.size w w'){v:Value}(h:w.cell? ⟨0,0,none⟩=some v):w'.cell? ⟨0,0,none⟩=some v:=by
 have:=hb.block 0 (fF h);simp only[World.cell?] at h |-;rw[this];exact h
theorem Ky.below {w w':World}(h:Ky w)(hb:Below w.heap.size w w'):Ky w':=by
 obtain⟨a,⟨b,d,e⟩,c,f,g⟩:=h.env;exact⟨⟨Nat.lt_of_lt_of_le a hb.size,⟨b,(hb.cell (p:=⟨6,0,none⟩) a).trans d,e⟩,c,(hb.cell (p:=⟨5,0,none⟩) (by show 5<_;omega)).trans f,g⟩,K9 hb (by omega) h.tab,bC hb h.et⟩
theorem Ky.envF {w:World}(h:Ky w):Cd w w.heap.size:=⟨by have:=h.env.1;omega,h.env.1,h.env.2.1,by have:=h.env.1;omega,h.env.2.2⟩
theorem fG (w:World):Hs 22 #[.nilIface] w (.int .i64 0):=by
 unfold Hs;go_enter Tryz.func22,Tryz.ntmps22
 go_wp2_with fail
 go_ret
 exact⟨rfl,Below.refl _ _⟩
theorem Yf (c:Int)(w:World)(hE:Ky w):Hs 22 #[.iface 58 (.int .i64 c)] w (.int .i64 c):=by
 have f:Hid (Ad w (w.alloc (.cells #[.int .i64 0] 58))):=(Ad.refl w).alloc _;have b:Hid ((w.alloc (.cells #[.int .i64 0] 58)).heap[w.heap.size]?=some (.cells #[.int .i64 0] 58 (0,0))):=Af rfl;have a:Hid (Calls Tryz.prog 52 #[.iface 58 (.int .i64 c),.iface 103 (.pointer (some ⟨w.heap.size,0,none⟩))] (w.alloc (.cells #[.int .i64 0] 58)) _):=fE c ⟨w.heap.size,0,none⟩ (.int .i64 0) _ (hE.below f.out.below).et (Aa b.out 0) (Ab b.out 0);clear hE;unfold Hs;go_enter Tryz.func22,Tryz.ntmps22
 go_wp2_with fail
 refine a.out.mono ?_;rintro e k ⟨rfl,rfl⟩;generalize d:World.alloc (World.alloc (World.alloc (World.alloc (World.alloc w _) _) _) _) _=W;have g:Hid (Below w.heap.size w (W.setCell ⟨w.heap.size,0,none⟩ (.int .i64 c))):=by
  subst d;exact((((((Ad.refl w).alloc _).alloc _).alloc _).alloc _).alloc _ |>.setNew (Nat.le_refl _) _).below
 have h:W.heap[w.heap.size]?=some (.cells #[.int .i64 0] 58 (0,0)):=by
  subst d;exact Below.blockAt (((((Ad.refl _).alloc _).alloc _).alloc _).alloc _).below b.out
 have i:Hid ((W.setCell ⟨w.heap.size,0,none⟩ (.int .i64 c)).heap[w.heap.size]?=some (.cells #[.int .i64 c] 58 (0,0))):=Ag h 0 _;clear d h a f b;generalize W.setCell ⟨w.heap.size,0,none⟩ (.int .i64 c)=WZ at g i |-;have j:=Aa i.out 0;go_wp2_with fail
 go_ret
 exact⟨rfl,g.out⟩
theorem fH (w:World)(k:Nat):Hs 9 #[.nilIface,.int .i64 (k:Int)] w (.bool (decide (k=0))):=by
 have a:Hid (∀W,Hs 22 #[.nilIface] W (.int .i64 0)):=fG;unfold Hs;go_enter Tryz.func9,Tryz.ntmps9
 go_wp2_with fail
 refine Calls.mono (a.out w) ?_;rintro e f ⟨rfl,b⟩;have c:Hid (Below w.heap.size w f):=b;clear b a;go_wp2_with fail
 go_ret
 refine⟨?_,c.out⟩;by_cases h:k=0
 ·subst h;rfl
 ·have d:((0:Int)==(k:Int))=false:=by simp;omega
  simp[h,d]
theorem Yg (w:World)(c k:Nat)(hE:Ky w):Hs 9 #[.iface 58 (.int .i64 (c:Int)),.int .i64 (k:Int)] w (.bool (decide (c=k))):=by
 have a:Hid (Hs 22 #[.iface 58 (.int .i64 (c:Int))] w (.int .i64 (c:Int))):=Yf c w hE;clear hE;unfold Hs;go_enter Tryz.func9,Tryz.ntmps9
 go_wp2_with fail
 refine Calls.mono a.out ?_;rintro e g ⟨rfl,b⟩;have d:Hid (Below w.heap.size w g):=b;clear b a;go_wp2_with fail
 go_ret
 refine⟨?_,d.out⟩;by_cases h:c=k
 ·subst h;simp
 ·have f:((c:Int)==(k:Int))=false:=by simp;omega
  simp[h,f]
end Go.Proofs.YtjbfcadeapphbaaGreatDoor.Sx
