/- The number of an error, for expressions: errors.As, Told, and what compares it. -/
import Derived.Test.YthcndopglfkmiaaGreatDoorF15
import Derived.WalkKit
import Derived.LaidEql
import Derived.Stop.Asserts
import Derived.RowKitTokens
namespace Go.Proofs.YthcndopglfkmiaaGreatDoor.Sx
set_option maxRecDepth 100000
set_option maxHeartbeats 8000000
open Go.RowKit Go.Extern.Stop Go.Stop Go.Extern
theorem aS (t:Addr)(w:World):(ReflectliteValue.unpack (.iface 95 (.pointer (some t)))).run Tryz.prog w
  = .ok (.agg #[.pointer (some ⟨7,95,none⟩),.pointer (some ⟨w.heap.size,0,none⟩),.int .u64 150]) (w.alloc (.cells #[.pointer (some t)] 95)):=by kernel_rfl
theorem iH (a : Addr) (w : World) : (ReflectliteValue.methodAny (ReflectliteValue.valueError "reflectlite.Value.Type" 0) (fun t _ _ _ => ReflectliteType.toType t) #[.agg #[.pointer (some ⟨7, 95, none⟩), .pointer (some a), .int .u64 150]]).run Tryz.prog w
  = .ok (.iface 156 (.agg #[.pointer (some ⟨7,95,none⟩)])) w:=by kernel_rfl
theorem kH (h : Value) (w : World) : (Go.method 358 156 (.agg #[h]) "Kind").run Tryz.prog w = .ok (190, h) w := by kernel_rfl
theorem iI (w:World):((ReflectliteType.abiMethod fun t=>(fun a:Nat=>Value.int IntKind.u8 (a:Int)) <$> Rtype.kind t) #[.pointer (some ⟨7,95,none⟩)]).run Tryz.prog w=.ok (.int .u8 22) w:=by kernel_rfl
theorem iJ (w:World):((ReflectliteType.abiMethod fun t=>(fun a:Nat=>Value.int IntKind.u8 (a:Int)) <$> Rtype.kind t) #[.pointer (some ⟨7,62,none⟩)]).run Tryz.prog w=.ok (.int .u8 2) w:=by kernel_rfl
theorem Tc (a:Addr)(w:World):(ReflectliteValue.parts (.agg #[.pointer (some ⟨7,95,none⟩),.pointer (some a),.int .u64 150])).run Tryz.prog w=.ok (some (95,a,150)) w:=by kernel_rfl
theorem eS (a p:Addr)(W:World)(ha:W.cell? a=some (.pointer (some p))) :
  (ReflectliteValue.method (ReflectliteValue.valueError "reflectlite.Value.IsNil" 0) ReflectliteValue.isNil #[.agg #[.pointer (some ⟨7, 95, none⟩), .pointer (some a), .int .u64 150]]).run Tryz.prog W = .ok (.bool false) W := by
 show Sem.run Tryz.prog (ReflectliteValue.parts (.agg #[.pointer (some ⟨7,95,none⟩),.pointer (some a),.int .u64 150]) >>= _) W=_;simp only[Sem.run_bind,Tc,Result.andThen];simp[ReflectliteValue.isNil,loadVar,isAgg,underlying,Tryz.underlying95,ha,Result.andThen]
theorem kI (h : Value) (w : World) : (Go.method 358 156 (.agg #[h]) "Elem").run Tryz.prog w = .ok (202, .agg #[h]) w := by kernel_rfl
theorem kJ (h : Value) (w : World) : (Go.method 358 156 (.agg #[h]) "Implements").run Tryz.prog w = .ok (203, .agg #[h]) w := by kernel_rfl
theorem eT (h : Value) (w : World) : (Go.method 358 156 (.agg #[h]) "AssignableTo").run Tryz.prog w = .ok (200, .agg #[h]) w := by kernel_rfl
theorem iK (w:World):(ReflectliteType.method ReflectliteType.elem #[.agg #[.pointer (some ⟨7,95,none⟩)]]).run Tryz.prog w=.ok (.iface 156 (.agg #[.pointer (some ⟨7,62,none⟩)])) w:=by kernel_rfl
theorem iL (w : World) : (ReflectliteType.relation "Implements" ReflectliteType.implements_ #[.agg #[.pointer (some ⟨7, 62, none⟩)], .iface 156 (.agg #[.pointer (some ⟨7, 23, none⟩)])]).run Tryz.prog w = .ok (.bool true) w := by kernel_rfl
theorem iM (v:Value)(w:World):(ReflectliteType.typeOf #[.iface 62 v]).run Tryz.prog w=.ok (.iface 156 (.agg #[.pointer (some ⟨7,62,none⟩)])) w:=by kernel_rfl
theorem aT (w : World) : (ReflectliteType.relation "AssignableTo" ReflectliteType.assignableTo #[.agg #[.pointer (some ⟨7, 62, none⟩)], .iface 156 (.agg #[.pointer (some ⟨7, 62, none⟩)])]).run Tryz.prog w = .ok (.bool true) w := by kernel_rfl
theorem aU (n:Int)(w:World):(ReflectliteValue.unpack (.iface 62 (.int .i64 n))).run Tryz.prog w
  = .ok (.agg #[.pointer (some ⟨7,62,none⟩),.pointer (some ⟨w.heap.size,0,none⟩),.int .u64 130]) (w.alloc (.cells #[.int .i64 n] 62)):=by kernel_rfl
theorem eU (w:World):(Rtype.elem? 95).run Tryz.prog w=.ok (some 62) w:=by kernel_rfl
theorem lS (p:Addr)(w:World):(ReflectliteValue.mk 62 p ReflectliteValue.flagAddr).run Tryz.prog w=.ok (.agg #[.pointer (some ⟨7,62,none⟩),.pointer (some p),.int .u64 386]) w:=by kernel_rfl
theorem iN (a p:Addr)(W:World)(ha:W.cell? a=some (.pointer (some p))) :
  (ReflectliteValue.method (ReflectliteValue.valueError "reflectlite.Value.Elem" 0) ReflectliteValue.elem #[.agg #[.pointer (some ⟨7, 95, none⟩), .pointer (some a), .int .u64 150]]).run Tryz.prog W
   = .ok (.agg #[.pointer (some ⟨7,62,none⟩),.pointer (some p),.int .u64 386]) W:=by
 show Sem.run Tryz.prog (ReflectliteValue.parts (.agg #[.pointer (some ⟨7,95,none⟩),.pointer (some a),.int .u64 150]) >>= _) W=_;simp only[Sem.run_bind,Tc,Result.andThen];simp[ReflectliteValue.elem,loadVar,isAgg,underlying,Tryz.underlying95,ha,Result.andThen,eU,lS]
theorem eV (a:Addr)(w:World):(ReflectliteValue.parts (.agg #[.pointer (some ⟨7,62,none⟩),.pointer (some a),.int .u64 386])).run Tryz.prog w=.ok (some (62,a,386)) w:=by kernel_rfl
theorem eW (a:Addr)(w:World):(ReflectliteValue.parts (.agg #[.pointer (some ⟨7,62,none⟩),.pointer (some a),.int .u64 130])).run Tryz.prog w=.ok (some (62,a,130)) w:=by kernel_rfl
theorem eX (w:World):(Rtype.directlyAssignable 62 62).run Tryz.prog w=.ok true w:=by kernel_rfl
theorem kK (ta b:Addr)(n:Int)(old:Value)(W:World)(hb:W.cell? b=some (.int .i64 n))(ht:W.cell? ta=some old)(hf:W.frozen? ta=false) :
  (ReflectliteValue.set #[.agg #[.pointer (some ⟨7,62,none⟩),.pointer (some ta),.int .u64 386],.agg #[.pointer (some ⟨7,62,none⟩),.pointer (some b),.int .u64 130]]).run Tryz.prog W
   = .ok (.tuple #[]) (W.setCell ta (.int .i64 n)):=by
 show Sem.run Tryz.prog (ReflectliteValue.parts (.agg #[.pointer (some ⟨7,62,none⟩),.pointer (some ta),.int .u64 386]) >>= fun _=>ReflectliteValue.parts (.agg #[.pointer (some ⟨7,62,none⟩),.pointer (some b),.int .u64 130]) >>= fun _=>_) W=_;simp only[Sem.run_bind,eV,eW,Result.andThen];simp[ReflectliteValue.flagAddr,loadVar,isAgg,underlying,Tryz.underlying62,hb,Result.andThen,eX,storeVar,Value.cells,storeCells,Addr.add];rw[run_store Tryz.prog W ta _ _ (by rfl)];simp[ht,hf]
theorem eY (n:Int)(t:Addr)(old:Value)(w:World)(hg:w.cell? ⟨0,0,none⟩=some (.iface 156 (.agg #[.pointer (some ⟨7,23,none⟩)])))(ht0:w.cell? t=some old)(hf0:w.frozen? t=false) :
  Calls Tryz.prog 40 #[.iface 62 (.int .i64 n),.iface 95 (.pointer (some t))] w fun ev w'=>ev=.returned (.bool true)/\w'=((((w.alloc (.cells #[.pointer (some t)] 95)).alloc (.cells #[.pointer (some ⟨7,95,none⟩),.pointer (some ⟨w.heap.size,0,none⟩),.int .u64 150] 131)).alloc (.cells #[.pointer (some ⟨7,95,none⟩),.pointer (some ⟨w.heap.size,0,none⟩),.int .u64 150] 131)).alloc (.cells #[.int .i64 n] 62)).setCell t (.int .i64 n):=by
 have y:=@run_callFunc_extern Tryz.prog 69 _ (fun args=>ReflectliteValue.unpack (args.getD 0 (.tuple #[]))) Tryz.func69 (by kernel_rfl) (by kernel_rfl) (by kernel_rfl) (by kernel_rfl);have z := @run_callFunc_extern Tryz.prog 70 _ (ReflectliteValue.methodAny (ReflectliteValue.valueError "reflectlite.Value.Type" 0) (fun t _ _ _ => ReflectliteType.toType t)) Tryz.func70 (by kernel_rfl) (by kernel_rfl) (by kernel_rfl) (by kernel_rfl);have A := @run_callFunc_extern Tryz.prog 71 _ (ReflectliteValue.method (ReflectliteValue.valueError "reflectlite.Value.IsNil" 0) ReflectliteValue.isNil) Tryz.func71 (by kernel_rfl) (by kernel_rfl) (by kernel_rfl) (by kernel_rfl);have j:=@run_callFunc_extern Tryz.prog 190 _ (ReflectliteType.abiMethod fun t=>do pure (.int .u8 (<- Rtype.kind t))) Tryz.func190 (by kernel_rfl) (by kernel_rfl) (by kernel_rfl) (by kernel_rfl);have l:=@run_callFunc_extern Tryz.prog 202 _ (ReflectliteType.method ReflectliteType.elem) Tryz.func202 (by kernel_rfl) (by kernel_rfl) (by kernel_rfl) (by kernel_rfl);have m := @run_callFunc_extern Tryz.prog 203 _ (ReflectliteType.relation "Implements" ReflectliteType.implements_) Tryz.func203 (by kernel_rfl) (by kernel_rfl) (by kernel_rfl) (by kernel_rfl);have f:=@run_callFunc_extern Tryz.prog 98 _ ReflectliteType.typeOf Tryz.func98 (by kernel_rfl) (by kernel_rfl) (by kernel_rfl) (by kernel_rfl);have k := @run_callFunc_extern Tryz.prog 200 _ (ReflectliteType.relation "AssignableTo" ReflectliteType.assignableTo) Tryz.func200 (by kernel_rfl) (by kernel_rfl) (by kernel_rfl) (by kernel_rfl);have g := @run_callFunc_extern Tryz.prog 99 _ (ReflectliteValue.method (ReflectliteValue.valueError "reflectlite.Value.Elem" 0) ReflectliteValue.elem) Tryz.func99 (by kernel_rfl) (by kernel_rfl) (by kernel_rfl) (by kernel_rfl);have i:=@run_callFunc_extern Tryz.prog 100 _ ReflectliteValue.set Tryz.func100 (by kernel_rfl) (by kernel_rfl) (by kernel_rfl) (by kernel_rfl);have H:=iM;have B:=eT;have c:=aT;have s:=aU;have v:=aS;have x:=iH;have E:=kH;have C:=kI;have D:=kJ;have r:=iI;have q:=iJ;have d:=iK;have p:=iL;have F:=eS ⟨w.heap.size,0,none⟩ t ((w.alloc (.cells #[.pointer (some t)] 95)).alloc (.cells #[.pointer (some ⟨7,95,none⟩),.pointer (some ⟨w.heap.size,0,none⟩),.int .u64 150] 131)) (by simp);have b:0<w.heap.size:=by
  rcases Nat.eq_zero_or_pos w.heap.size with e|h
  ·simp[World.cell?,e] at hg
  ·exact h
 have o:((w.alloc (.cells #[.pointer (some t)] 95)).alloc (.cells #[.pointer (some ⟨7,95,none⟩),.pointer (some ⟨w.heap.size,0,none⟩),.int .u64 150] 131)).cell? ⟨0,0,none⟩=some (.iface 156 (.agg #[.pointer (some ⟨7,23,none⟩)])):=by
  rw[World.cell?_alloc_lt _ _ ⟨0,0,none⟩ (by simp),World.cell?_alloc_lt _ _ ⟨0,0,none⟩ b];exact hg
 have a:t.block<w.heap.size:=by
  rcases Nat.lt_or_ge t.block w.heap.size with h|h
  ·exact h
  ·simp[World.cell?,Array.getElem?_eq_none h] at ht0
 have u:=iN ⟨w.heap.size,0,none⟩ t (((w.alloc (.cells #[.pointer (some t)] 95)).alloc (.cells #[.pointer (some ⟨7,95,none⟩),.pointer (some ⟨w.heap.size,0,none⟩),.int .u64 150] 131)).alloc (.cells #[.pointer (some ⟨7,95,none⟩),.pointer (some ⟨w.heap.size,0,none⟩),.int .u64 150] 131)) (by rw[World.cell?_alloc_lt _ _ ⟨w.heap.size,0,none⟩ (by simp;omega)];simp);have G:=kK t ⟨w.heap.size+1+1+1,0,none⟩ n old ((((w.alloc (.cells #[.pointer (some t)] 95)).alloc (.cells #[.pointer (some ⟨7,95,none⟩),.pointer (some ⟨w.heap.size,0,none⟩),.int .u64 150] 131)).alloc (.cells #[.pointer (some ⟨7,95,none⟩),.pointer (some ⟨w.heap.size,0,none⟩),.int .u64 150] 131)).alloc (.cells #[.int .i64 n] 62))
  (by rw[World.cell?_alloc_at _ _ _ _ (by simp)];rfl)
  (by rw[World.cell?_alloc_lt _ _ t (by simp;omega),World.cell?_alloc_lt _ _ t (by simp;omega),World.cell?_alloc_lt _ _ t (by simp;omega),World.cell?_alloc_lt _ _ t a];exact ht0)
  (by rw[World.frozen?_alloc_old _ _ t (by simp;omega),World.frozen?_alloc_old _ _ t (by simp;omega),World.frozen?_alloc_old _ _ t (by simp;omega),World.frozen?_alloc_old _ _ t (Nat.ne_of_lt a)];exact hf0)
 go_enter Tryz.func40,Tryz.ntmps40
 go_wp2
 refine wp_loop_rounds 1 ?_;rw[rounds_succ];go_wp2
 go_ret
 exact⟨rfl,rfl⟩
end Go.Proofs.YthcndopglfkmiaaGreatDoor.Sx
namespace Go.Proofs.YthcndopglfkmiaaGreatDoor.Sx
open Go.RowKit Go.Sort
structure Ky (w:World):Prop where
 env:6<w.heap.size/\(∃ev,w.cell? ⟨6,0,none⟩=some ev/\(ev=.nilIface\/∃te pe,ev=.iface te pe))/\∃ev,w.cell? ⟨5,0,none⟩=some ev/\(ev=.nilIface\/∃te pe,ev=.iface te pe)
 tab : Lib.TabIs Tryz.prog w "internal/strconv.uint64pow10" .u64 Lib.pow10Tab
 et:w.cell? ⟨0,0,none⟩=some (.iface 156 (.agg #[.pointer (some ⟨7,23,none⟩)]))
def Hr (f:FuncId)(args:Array Value)(w:World)(r:Value):Prop:=Calls Tryz.prog f args w fun e w'=>e=.returned r/\Below w.heap.size w w'
theorem eZ {w:World}{v:Value}(h:w.cell? ⟨0,0,none⟩=some v):0<w.heap.size:=by
 rcases Nat.eq_zero_or_pos w.heap.size with a|b
 ·simp[World.cell?,a] at h
 ·exact b
theorem aV {w w':World}(hb:Below w.heap.size w w'){v:Value}(h:w.cell? ⟨0,0,none⟩=some v):w'.cell? ⟨0,0,none⟩=some v:=by
 have:=hb.block 0 (eZ h);simp only[World.cell?] at h |-;rw[this];exact h
theorem Ky.below {w w':World}(h:Ky w)(hb:Below w.heap.size w w'):Ky w':=by
 obtain⟨a,⟨b,d,e⟩,c,f,g⟩:=h.env;exact⟨⟨Nat.lt_of_lt_of_le a hb.size,⟨b,(hb.cell (p:=⟨6,0,none⟩) a).trans d,e⟩,c,(hb.cell (p:=⟨5,0,none⟩) (by show 5<_;omega)).trans f,g⟩,K8 hb (by omega) h.tab,aV hb h.et⟩
theorem Ky.envF {w:World}(h:Ky w):Cc w w.heap.size:=⟨by have:=h.env.1;omega,h.env.1,h.env.2.1,by have:=h.env.1;omega,h.env.2.2⟩
theorem fA (w:World):Hr 19 #[.nilIface] w (.int .i64 0):=by
 unfold Hr;go_enter Tryz.func19,Tryz.ntmps19
 go_wp2_with fail
 go_ret
 exact⟨rfl,Below.refl _ _⟩
theorem Xz (c:Int)(w:World)(hE:Ky w):Hr 19 #[.iface 62 (.int .i64 c)] w (.int .i64 c):=by
 have f:Hid (Ad w (w.alloc (.cells #[.int .i64 0] 62))):=(Ad.refl w).alloc _;have b:Hid ((w.alloc (.cells #[.int .i64 0] 62)).heap[w.heap.size]?=some (.cells #[.int .i64 0] 62 (0,0))):=Ag rfl;have a:Hid (Calls Tryz.prog 40 #[.iface 62 (.int .i64 c),.iface 95 (.pointer (some ⟨w.heap.size,0,none⟩))] (w.alloc (.cells #[.int .i64 0] 62)) _):=eY c ⟨w.heap.size,0,none⟩ (.int .i64 0) _ (hE.below f.out.below).et (Aa b.out 0) (Ab b.out 0);clear hE;unfold Hr;go_enter Tryz.func19,Tryz.ntmps19
 go_wp2_with fail
 refine a.out.mono ?_;rintro e k ⟨rfl,rfl⟩;generalize d:World.alloc (World.alloc (World.alloc (World.alloc (World.alloc w _) _) _) _) _=W;have g:Hid (Below w.heap.size w (W.setCell ⟨w.heap.size,0,none⟩ (.int .i64 c))):=by
  subst d;exact((((((Ad.refl w).alloc _).alloc _).alloc _).alloc _).alloc _ |>.setNew (Nat.le_refl _) _).below
 have h:W.heap[w.heap.size]?=some (.cells #[.int .i64 0] 62 (0,0)):=by
  subst d;exact Below.blockAt (((((Ad.refl _).alloc _).alloc _).alloc _).alloc _).below b.out
 have i:Hid ((W.setCell ⟨w.heap.size,0,none⟩ (.int .i64 c)).heap[w.heap.size]?=some (.cells #[.int .i64 c] 62 (0,0))):=Af h 0 _;clear d h a f b;generalize W.setCell ⟨w.heap.size,0,none⟩ (.int .i64 c)=WZ at g i |-;have j:=Aa i.out 0;go_wp2_with fail
 go_ret
 exact⟨rfl,g.out⟩
theorem fB (w:World)(k:Nat):Hr 8 #[.nilIface,.int .i64 (k:Int)] w (.bool (decide (k=0))):=by
 have a:Hid (∀W,Hr 19 #[.nilIface] W (.int .i64 0)):=fA;unfold Hr;go_enter Tryz.func8,Tryz.ntmps8
 go_wp2_with fail
 refine Calls.mono (a.out w) ?_;rintro e f ⟨rfl,b⟩;have c:Hid (Below w.heap.size w f):=b;clear b a;go_wp2_with fail
 go_ret
 refine⟨?_,c.out⟩;by_cases h:k=0
 ·subst h;rfl
 ·have d:((0:Int)==(k:Int))=false:=by simp;omega
  simp[h,d]
theorem Ya (w:World)(c k:Nat)(hE:Ky w):Hr 8 #[.iface 62 (.int .i64 (c:Int)),.int .i64 (k:Int)] w (.bool (decide (c=k))):=by
 have a:Hid (Hr 19 #[.iface 62 (.int .i64 (c:Int))] w (.int .i64 (c:Int))):=Xz c w hE;clear hE;unfold Hr;go_enter Tryz.func8,Tryz.ntmps8
 go_wp2_with fail
 refine Calls.mono a.out ?_;rintro e g ⟨rfl,b⟩;have d:Hid (Below w.heap.size w g):=b;clear b a;go_wp2_with fail
 go_ret
 refine⟨?_,d.out⟩;by_cases h:c=k
 ·subst h;simp
 ·have f:((c:Int)==(k:Int))=false:=by simp;omega
  simp[h,f]
end Go.Proofs.YthcndopglfkmiaaGreatDoor.Sx
