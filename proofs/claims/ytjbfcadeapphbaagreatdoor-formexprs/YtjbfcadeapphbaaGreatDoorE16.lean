/- The writer: names that go through something. -/
import Derived.Test.YtjbfcadeapphbaaGreatDoorE08
import Derived.Lib.AppendStr
import Derived.Lib.UnsafeStr
import Derived.Lib.LaidTab
import Derived.Lib.OthersKept
import Derived.Lib.OwnKind
import Derived.Shelf.Strings.Builder1
import Derived.Deep.Cut
import Derived.Test.YtjbfcadeapphbaaGreatDoorE09
import Derived.Deep.RegionHeld3
namespace Go.Proofs.YtjbfcadeapphbaaGreatDoor.Sx
set_option maxRecDepth 100000
set_option maxHeartbeats 2000000
open Go.RowKit Go.Sort
theorem eQ:(Tryz.prog.info? 5).map (fun i=>(i.zero,i.size,i.bytes))=some (some (.int .u8 0),1,1):=by kernel_rfl
def dD:Go.Shelf.Ren:=⟨fun|240=>95|276=>131|n=>n,fun|0=>0|4=>4|9=>9|20=>20|70=>40|72=>43|37=>41|5=>5|164=>138|n=>n,fun|n=>n⟩
theorem dR:Lays.n240 Tryz.prog dD:={
 mixed:=by kernel_rfl
 f240:=Tryz.func95.trans (congrArg some (by kernel_rfl))
 f276:=Tryz.func131.trans (congrArg some (by kernel_rfl))
 t0:=Tryz.underlying0
 a0:=Tryz.isAgg0
 z0:=Tryz.sizeOf0
 v0:=Tryz.zeroValue0
 t4:=Tryz.underlying4
 a4:=Tryz.isAgg4
 z4:=Tryz.sizeOf4
 v4:=Tryz.zeroValue4
 t9:=Tryz.underlying9
 a9:=Tryz.isAgg9
 z9:=Tryz.sizeOf9
 v9:=Tryz.zeroValue9
 t20:=Tryz.underlying20
 a20:=Tryz.isAgg20
 z20:=Tryz.sizeOf20
 v20:=Tryz.zeroValue20
 t70:=Tryz.underlying40
 a70:=Tryz.isAgg40
 z70:=Tryz.sizeOf40
 v70:=Tryz.zeroValue40
 t72:=Tryz.underlying43
 a72:=Tryz.isAgg43
 z72:=Tryz.sizeOf43
 v72:=Tryz.zeroValue43
 t164:=Tryz.underlying138
 a164:=Tryz.isAgg138
 z164:=Tryz.sizeOf138
 v164:=Tryz.zeroValue138 }
theorem ccX:Builder.X72 Tryz.prog dD:={
 sizeBuilder:=by kernel_rfl
 liesBuilder:=by kernel_rfl }
theorem cD (b:Nat)(w:World)(h0:w.cell? ⟨b,0,none⟩=some (.pointer (some ⟨b,0,none⟩))) :
  Calls Tryz.prog 95 #[.pointer (some ⟨b,0,none⟩)] w fun e w'=>e=.returned (.tuple #[])/\w'=w:=Any.Builder_copyCheck_used dR ccX b w h0
theorem Sc:(Tryz.prog.info? 43).map (·.size)=some 2:=by kernel_rfl
theorem Sd:liesAt Tryz.prog Tryz.prog.depth 45 (2 / Tryz.prog.cellsOf 45) 0 43 1=true:=by kernel_rfl
theorem aI (b:Nat)(w:World)(h0:w.cell? ⟨b,0,none⟩=some (.pointer none))(hsh:w.shape? b=some (45,2))(hfz:w.frozen? ⟨b,0,none⟩=false) :
  Calls Tryz.prog 95 #[.pointer (some ⟨b,0,none⟩)] w fun e w'=>e=.returned (.tuple #[])/\w'=w.setCell ⟨b,0,none⟩ (.pointer (some ⟨b,0,none⟩)):=by
 obtain⟨j,c,a⟩:=Option.map_eq_some_iff.1 Sc;go_enter Tryz.func95,Tryz.ntmps95
 go_wp2
 rw[Lib.run_to_unsafe w ⟨b,0,none⟩ Tryz.underlying40 Tryz.underlying138 c (by rw[a];decide) hsh (Nat.zero_lt_succ 1)];simp only[Result.andThen];rw[Oper.upon_value];go_wp2
 rw[run_callFunc_extern Tryz.func131 (by kernel_rfl) (by kernel_rfl) (by kernel_rfl) (e:=Extern.AbiNoEscape.same) (by kernel_rfl)];rw[Lib.run_noEscape];simp only[Result.andThen];rw[Oper.upon_value];go_wp2
 rw[Lib.run_from_unsafe w ⟨b,0,none⟩ Tryz.underlying138 Tryz.underlying40 c hsh Sd];simp only[Result.andThen];rw[Oper.upon_value];go_wp2
 go_end0
 exact⟨rfl,rfl⟩
theorem dS (B b:Nat)(bs:List Value)(w:World)(h:Lib.IsBuilder 45 5 B b bs w) :
  Calls Tryz.prog 95 #[.pointer (some ⟨b,0,none⟩)] w fun e w'=>e=.returned (.tuple #[])/\(Lib.BuilderAt 45 5 B b (.pointer (some ⟨b,0,none⟩)) bs w'/\Below B w w'/\Lib.OthersKept 5 (some b) w w'):=by
 rcases h with h|h
 ·refine(aI b w h.cell0 h.shape h.frozen0).mono ?_;rintro e w' ⟨rfl,rfl⟩;exact⟨rfl,h.used _,(Below.refl B w).setCell h.1 _,(Lib.OthersKept.refl _ _ w).setCell ⟨b,0,none⟩ rfl _⟩
 ·refine(cD b w h.cell0).mono ?_;rintro e w' ⟨rfl,rfl⟩;exact⟨rfl,h,Below.refl B _,Lib.OthersKept.refl _ _ _⟩
theorem dT (B b:Nat)(bs:List Value)(s:ByteArray)(w:World)(h:Lib.IsBuilder 45 5 B b bs w)(hlen:bs.length+s.size<=140737488355328)(hBw:B<=w.heap.size) :
  Calls Tryz.prog 63 #[.pointer (some ⟨b,0,none⟩),.string s] w fun e w'=>e=.returned (.tuple #[.int .i64 s.size,.nilIface])/\(Lib.BuilderAt 45 5 B b (.pointer (some ⟨b,0,none⟩)) (bs++Lib.strCells s) w'/\Below B w w'/\Lib.OthersKept 5 (some b) w w'):=by
 obtain⟨G,F,t,u,x⟩:=info_parts eQ;go_enter Tryz.func63,Tryz.ntmps63
 go_wp2_with fail
 refine(dS B b bs _ h).mono ?_;rintro e m ⟨rfl,E,l,o⟩;obtain⟨A,v,i,c,q⟩:=E;have I:m.cell? ⟨b,0,none⟩=some (.pointer (some ⟨b,0,none⟩)):=by rw[Lib.cell_of_heap i];rfl
 have J:m.cell? ⟨b,1,none⟩=some v:=by rw[Lib.cell_of_heap i];rfl
 go_wp2_with (at_builtin;refine Lib.wpList_append_own_string _ rfl _ _ 41 9 rfl B 5 G Tryz.underlying41 Tryz.underlying9 F t u x _ _ _ rfl c s rfl ?c3 ?c4 ?c5 ?_)
 case c3=>unfold maxLen;omega
 case c4=>omega
 case c5=>have:=l.size;omega
 intro H y d a _;have p:b<m.heap.size:=by
  rcases Nat.lt_or_ge b m.heap.size with n|n
  ·exact n
  ·simp[Array.getElem?_eq_none n] at i
 have f:y.heap[b]?=some (.cells #[.pointer (some ⟨b,0,none⟩),v] 45 (0,0)):=by
  rw[a.block b p (fun e=>q e.symm)];exact i
 have K:y.cell? ⟨b,0,none⟩=some (.pointer (some ⟨b,0,none⟩)):=by rw[Lib.cell_of_heap f];rfl
 have L:y.cell? ⟨b,1,none⟩=some v:=by rw[Lib.cell_of_heap f];rfl
 have M:=Lib.frozen_of_heap f 1;obtain⟨z,C,j,rfl⟩:∃z C j,H=.slice z C j:=by
  rcases d.2 with⟨r,_⟩|⟨g,j,D,r,_⟩
  ·exact⟨_,_,_,r⟩
  ·exact⟨_,_,_,r⟩
 go_wp2
 go_ret2
 refine⟨rfl,?_,?_,?_⟩
 ·exact Lib.BuilderAt.put A f (by simpa [Lib.strCells_length] using d) (by decide)
 ·exact(l.grown a (by have:=l.size;omega) (fun k hk=>(c.lt k hk).1)).setCell A _
 ·exact(o.grown a (fun g hg=>Lib.ownsRow_kind c g hg)).setCell _ rfl _
structure Bld (B b:Nat)(l:List UInt8)(w:World):Prop where
 is:Lib.IsBuilder 45 5 B b (Lib.byteCells l) w
 low:B<=w.heap.size
 tab : Lib.TabIs Tryz.prog w "internal/strconv.uint64pow10" .u64 Lib.pow10Tab
 glob:1<B
theorem Mp : Tryz.prog.globalNamed "internal/strconv.uint64pow10" = some 1 := by kernel_rfl
theorem aJ {w w':World}{B:Nat}{e:TypeId}{v:Value}{n:Nat}{xs:List Value}(h:w.ownsRow B e 1 v n xs)(hb:Below w.heap.size w w'):w'.ownsRow B e 1 v n xs:=by
 refine⟨h.1,?_⟩;rcases h.2 with q|⟨g,a,b,c,d,f,i⟩
 ·exact .inl q
 ·exact .inr ⟨g,a,b,c,d,Below.blockAt hb f,i⟩
theorem Wq {w w':World}{T e:TypeId}{B b:Nat}{p:Value}{bs:List Value}(h:Lib.BuilderAt T e B b p bs w)(hb:Below w.heap.size w w'):Lib.BuilderAt T e B b p bs w':=by
 obtain⟨a,v,c,d,f⟩:=h;exact⟨a,v,Below.blockAt hb c,aJ d hb,f⟩
theorem I8 {w w' : World} {B : Nat} (hb : Below B w w') (hg : 1 < B) (h : Lib.TabIs Tryz.prog w "internal/strconv.uint64pow10" .u64 Lib.pow10Tab) : Lib.TabIs Tryz.prog w' "internal/strconv.uint64pow10" .u64 Lib.pow10Tab := by
 unfold Lib.TabIs World.var? at h |-;rw[Mp] at h |-;simp only[Option.bind_some] at h |-;rw[hb.block 1 hg];exact h
theorem Bld.grew {B b:Nat}{l:List UInt8}{w w':World}(h:Bld B b l w)(hg:Ad w w'):Bld B b l w':=by
 have a:=hg.below;refine⟨?_,Nat.le_trans h.low a.size,I8 a (Nat.lt_of_lt_of_le h.glob h.low) h.tab,h.glob⟩;rcases h.is with q|q
 ·exact .inl (Wq q a)
 ·exact .inr (Wq q a)
theorem dU {B:Nat}{w w':World}(hg:Ad w w')(hl:B<=w.heap.size):Below B w w' :=
 ⟨hg.below.os,hg.below.tape,hg.below.output,hg.below.size,fun k hk=>hg.below.block k (Nat.lt_of_lt_of_le hk hl)⟩
theorem frB {B:Nat}{w w':World}(h:Below B w w'):Fr (·<B) w w':=⟨h.os,h.tape,h.output,h.size,fun i _ hp=>h.block i hp⟩
def Kp (B b:Nat)(w w':World):Prop:=Below B w w'/\Lib.OthersKept 5 (some b) w w'
theorem Kp.refl (B b:Nat)(w:World):Kp B b w w:=⟨Below.refl B w,Lib.OthersKept.refl _ _ _⟩
theorem Kp.trans {B b:Nat}{w1 w2 w3:World}(h:Kp B b w1 w2)(k:Kp B b w2 w3):Kp B b w1 w3:=⟨h.1.trans k.1,h.2.trans k.2⟩
theorem Kp.grew {B b:Nat}{w w':World}(hg:Ad w w')(hl:B<=w.heap.size):Kp B b w w':=⟨dU hg hl,fun _ _ h _ _=>Below.blockAt hg.below h⟩
theorem Bld.lt {B b:Nat}{l:List UInt8}{w:World}(h:Bld B b l w):b<w.heap.size:=by
 rcases h.is with q|q
 ·exact q.lt
 ·exact q.lt
theorem Kp.kept {B b k:Nat}{w w':World}(h:Kp B b w w'){vs:Array Value}{T:TypeId}(hT:T≠5)(hk:w.heap[k]?=some (.cells vs T (0,0)))(hb:k≠b):w'.heap[k]?=some (.cells vs T (0,0)) :=
 h.2 k _ hk (by simpa using hb) (fun c fz e=>by injection e with _ e2 _;exact absurd e2 hT)
def Af (B b:Nat)(l t:List UInt8)(w w':World):Prop:=Bld B b (l++t) w'/\Kp B b w w'
def Ar (B b:Nat)(l t:List UInt8)(w:World)(e:Ending)(w':World):Prop:=e=.returned (.tuple #[])/\Af B b l t w w'
theorem dV (B b:Nat)(l:List UInt8)(s:ByteArray)(w:World)(h:Bld B b l w)(hlen:l.length+s.size<=140737488355328) :
  Calls Tryz.prog 63 #[.pointer (some ⟨b,0,none⟩),.string s] w fun e w'=>(∃k:Nat,e=.returned (.tuple #[.int .i64 k,.nilIface]))/\Af B b l s.data.toList w w':=by
 refine(dT B b (Lib.byteCells l) s w h.is (by rw[Lib.byteCells_length];exact hlen) h.low).mono ?_;rintro e w' ⟨rfl,c,a,d⟩;exact⟨⟨_,rfl⟩,⟨.inr (by rw[Lib.byteCells_append];exact c),Nat.le_trans h.low a.size,I8 a h.glob h.tab,h.glob⟩,a,d⟩
def Dc (ss:List ByteArray):List UInt8:=ss.flatMap fun s=>s.data.toList
theorem Om (ss:List ByteArray)(k:Nat)(s:ByteArray)(h:ss[k]?=some s):Dc (ss.take (k+1))=Dc (ss.take k)++s.data.toList:=by
 rw[List.take_add_one,h];simp[Dc]
theorem cE (ss:List ByteArray)(k:Nat):(Dc (ss.take k)).length<=(Dc ss).length:=by
 have:Dc ss=Dc (ss.take k)++Dc (ss.drop k):=by unfold Dc;rw[<- List.flatMap_append,List.take_append_drop]
 rw[this,List.length_append];omega
theorem Af.nil {B b:Nat}{l:List UInt8}{w:World}(h:Bld B b l w):Af B b l [] w w:=⟨by rw[List.append_nil];exact h,Kp.refl _ _ _⟩
theorem Af.trans {B b:Nat}{l s t:List UInt8}{w1 w2 w3:World}(h:Af B b l s w1 w2)(k:Af B b (l++s) t w2 w3):Af B b l (s++t) w1 w3:=⟨by rw[<- List.append_assoc];exact k.1,h.2.trans k.2⟩
theorem aK (B b g c:Nat)(l:List UInt8)(w:World)(ss:List ByteArray)(n:Nat)(hn:n=ss.length)(hn9:n<=1000)(hrow:w.heap[g]?=some (.cells (ss.map Value.string).toArray 9 (0,0)))(hgb:g≠b)(hB:Bld B b l w)(hlen:l.length+(Dc ss).length<=140737488355328) :
  Calls Tryz.prog 30 #[.pointer (some ⟨b,0,none⟩),.slice (some ⟨g,0,none⟩) n c] w (Ar B b l (Dc ss) w):=by
 have p:Hid (w.heap[g]?=_):=hrow;have A:Hid (Bld B b l w):=hB;have h:Hid (n=ss.length):=hn;have j:Hid (Af B b l (Dc (ss.take 0)) w w):=Af.nil hB;clear hrow hB hn;go_enter Tryz.func30,Tryz.ntmps30
 go_wp2_with fail
 go_loopw [8] (fun i wr=>∃k:Nat,k<=n/\i=.int .i64 k/\Hid (Af B b l (Dc (ss.take k)) w wr)) (fun i _=>n-(intOf i).toNat)
 case atStart=>exact⟨0,Nat.zero_le _,rfl,j⟩
 case round =>
  clear j;obtain⟨k,D,rfl,a⟩:=hrel;by_cases y:k<n
  ·obtain⟨s,d⟩:∃s,ss[k]?=some s:=⟨_,List.getElem?_eq_getElem (by have:=h.out;omega)⟩;have f:=a.out.2.kept (by decide) p.out hgb;have C:wr.cell? ⟨g,k,none⟩=some (.string s):=by
    rw[Aa f];simp[d]
   have x:g<wr.heap.size:=Ab f;have t:Hid (Calls _ _ _ _ _):=dV B b (l++Dc (ss.take k)) s wr a.out.1 (by
    have v:=cE ss (k+1);rw[Om ss k s d,List.length_append] at v;rw[List.length_append];have:s.data.toList.length=s.size:=by simp
    omega)
   have r:Hid (Dc (ss.take (k+1))=_):=Om ss k s d;clear d f;go_wp2_with (go_at_call 63;refine t.out.mono ?_;rintro e z ⟨⟨q,rfl⟩,o⟩;have u:Hid (Af B b l (Dc (ss.take (k+1))) w z):=(by show Af _ _ _ _ _ _;rw[r.out];exact a.out.trans o);clear o)
   go_roundw
   case rel=>exact⟨k+1,by omega,by go_num,u⟩
   case measure=>simp[intOf];omega
  ·obtain rfl:k=n:=by omega
   have m:ss.take k=ss:=List.take_of_length_le (by have:=h.out;omega);rw[m] at a;clear m;go_wp2_with fail
   go_end0
   exact⟨rfl,a.out⟩
theorem Ax (B b:Nat)(l:List UInt8)(w:World)(vs:Array Value)(ss:List ByteArray)(n:Nat)(T:List UInt8)(hvs:vs=(ss.map Value.string).toArray)(hn:n=ss.length)(hn9:n<=1000)(hT:T=Dc ss)(hB:Bld B b l w)(hlen:l.length+T.length<=140737488355328) :
  Calls Tryz.prog 30 #[.pointer (some ⟨b,0,none⟩),.slice (some ⟨w.heap.size,0,none⟩) n n] (w.alloc (.cells vs 9)) (Ar B b l T w):=by
 subst hvs hT;have d:=hB.lt;refine(aK B b w.heap.size n l (w.alloc (.cells (ss.map Value.string).toArray 9)) ss n hn hn9 (Al rfl) (by omega) (hB.grew ((Ad.refl w).alloc _)) hlen).mono ?_;rintro e f ⟨rfl,a,c⟩;exact⟨rfl,a,(Kp.grew ((Ad.refl w).alloc _) hB.low).trans c⟩
end Go.Proofs.YtjbfcadeapphbaaGreatDoor.Sx
namespace Go.Proofs.YtjbfcadeapphbaaGreatDoor.Sx
set_option maxRecDepth 100000
set_option maxHeartbeats 1000000
open Go.RowKit Go.Sort
def C7 (op:List UInt8):Nat:=if Ah op≠0 then Ah op else if op=oAt\/op=Tz then 13 else if op=T0 then 12 else if op=Ig then 14 else Ci op
theorem Nn {op:List UInt8}{kids:List PX}{x:PX}(h:J4 op kids x):C7 op=x.rk:=by
 rcases h with⟨d,a,b,rfl,rfl⟩|⟨rfl,rfl⟩|⟨rfl,rfl⟩|⟨rfl,rfl⟩|⟨rfl,f,k,rfl,rfl⟩|⟨rfl,f,k,v,rfl,rfl⟩|⟨rfl,a,rfl,rfl⟩|⟨c,a,rfl,rfl⟩|⟨c,a,rfl,rfl⟩|⟨c,rfl⟩
 ·have:Ah op≠0:=by
   simp only[Dr,List.map_cons,List.map_nil,List.mem_cons,List.not_mem_nil,or_false] at d;rcases d with rfl|rfl|rfl|rfl|rfl|rfl|rfl|rfl|rfl|rfl|rfl|rfl|rfl|rfl|rfl|rfl|rfl|rfl|rfl|rfl|rfl|rfl|rfl|rfl|rfl<;>decide
  unfold C7;rw[if_pos this];rfl
 ·show C7 Z7=14;decide
 ·show C7 Z9=14;decide
 ·show C7 Ig=14;decide
 ·show C7 oAt=13;decide
 ·show C7 Tz=13;decide
 ·show C7 T0=12;decide
 ·show C7 op=6;simp only[De,List.mem_cons,List.not_mem_nil,or_false] at c;rcases c with rfl|rfl|rfl<;>decide
 ·show C7 op=12;simp only[Cx,List.mem_cons,List.not_mem_nil,or_false] at c;rcases c with rfl|rfl|rfl<;>decide
 ·show C7 op=14;simp only[B7,List.mem_cons,List.not_mem_nil,or_false] at c;rcases c with rfl|rfl|rfl|rfl|rfl|rfl|rfl<;>decide
theorem I9 (a b c:Value)(w:World):(Instr.field 130 (.agg #[a,b,c]) 0).run Tryz.prog w=.ok a w:=by kernel_rfl
attribute [local go_sem] I9
theorem Qd (w:World)(be sort at' len cap:Nat)(op nm:ByteArray)(n:Int)(pa:Option Addr)(he:Ak w be sort op nm n at' pa len cap) :
  Calls Tryz.prog 137 #[.pointer (some ⟨be,0,none⟩)] w fun e w'=>e=.returned (.int .i64 (C7 op.data.toList:Int))/\Ad w w':=by
 have x:Hid (Ak w be sort op nm n at' pa len cap):=he;have E:=Aa he 1;have s:Hid (Calls _ _ _ _ _):=Ga op w;have y:Hid (∀W:World,_):=fun W=>Dy op W;have a:op.toList=op.data.toList:=ByteArray.toList_eq op;clear he;have G:=follows;obtain⟨q,b⟩:∃q,C7 op.data.toList=q:=⟨_,rfl⟩;rw[b];have j:Hid (C7 op.data.toList=q):=b;clear b;by_cases o:Ah op.data.toList=0
 ·have d:Hid (Calls Tryz.prog 67 #[.string op] w fun e w'=>e=.returned (.agg #[.int .i64 (-1),.int .i64 0,.int .i64 0])/\Ad w w'):=by
   have:=s.out;unfold Ic at this;rw[if_pos o] at this;exact this
  have p:Hid (∀W,Ad w W->W.cell? ⟨be,1,none⟩=some (.string op)):=fun W g=>Aa (x.out.of (P:=fun _=>True) (Fr.grew g) trivial) 1;have b:=j.out;unfold C7 at b;rw[if_neg (by simpa using o)] at b;clear s o;cases i:(op.data.toList==oAt) with
  | true =>
   have A:(op.toList==[97,116])=true:=by rw[a];exact i
   rw[if_pos (.inl (eq_of_beq i))] at b;subst b;clear i a j;go_enter Tryz.func137,Tryz.ntmps137
   go_wp2_with (go_at_call 67;refine d.out.mono ?_;rintro e f ⟨rfl,c⟩;have t:=p.out f c;have h:Hid (Ad w f):=c;clear c)
   go_ret
   exact⟨rfl,h.out⟩
  | false =>
   have A:(op.toList==[97,116])=false:=by rw[a];exact i
   cases k:(op.data.toList==Tz) with
   | true =>
    have B:(op.toList==[112,117,116])=true:=by rw[a];exact k
    rw[if_pos (.inr (eq_of_beq k))] at b;subst b;clear i k a j;go_enter Tryz.func137,Tryz.ntmps137
    go_wp2_with (go_at_call 67;refine d.out.mono ?_;rintro e f ⟨rfl,c⟩;have t:=p.out f c;have h:Hid (Ad w f):=c;clear c)
    go_ret
    exact⟨rfl,h.out⟩
   | false =>
    have B:(op.toList==[112,117,116])=false:=by rw[a];exact k
    rw[if_neg (fun q=>by rcases q with q|q<;>simp[q] at i k)] at b;cases l:(op.data.toList==T0) with
    | true =>
     have C:(op.toList==[110,101,103])=true:=by rw[a];exact l
     rw[if_pos (eq_of_beq l)] at b;subst b;clear i k l a j;go_enter Tryz.func137,Tryz.ntmps137
     go_wp2_with (go_at_call 67;refine d.out.mono ?_;rintro e f ⟨rfl,c⟩;have t:=p.out f c;have h:Hid (Ad w f):=c;clear c)
     go_ret
     exact⟨rfl,h.out⟩
    | false =>
     have C:(op.toList==[110,101,103])=false:=by rw[a];exact l
     rw[if_neg (fun q=>by simp[q] at l)] at b;cases m:(op.data.toList==Ig) with
     | true =>
      have D:(op.toList==[102,117,110])=true:=by rw[a];exact m
      rw[if_pos (eq_of_beq m)] at b;subst b;clear i k l m a j;go_enter Tryz.func137,Tryz.ntmps137
      go_wp2_with (go_at_call 67;refine d.out.mono ?_;rintro e f ⟨rfl,c⟩;have t:=p.out f c;have h:Hid (Ad w f):=c;clear c)
      go_ret
      exact⟨rfl,h.out⟩
     | false =>
      have D:(op.toList==[102,117,110])=false:=by rw[a];exact m
      rw[if_neg (fun q=>by simp[q] at m)] at b;have u:Hid (Ci op.data.toList=q):=b;clear i k l m a j b;go_enter Tryz.func137,Tryz.ntmps137
      go_wp2_with (first|(go_at_call 67;refine d.out.mono ?_;rintro e f ⟨rfl,c⟩;have t:=p.out f c;have h:Hid (Ad w f):=c;clear c)|(go_at_call 65;refine(y.out _).mono ?_;rintro e H ⟨rfl,z⟩;cases z))
      go_ret
      exact⟨by rw[u.out];rfl,h.out⟩
 ·have d:Hid (Calls Tryz.prog 67 #[.string op] w fun e w'=>e=.returned (.agg #[.int .i64 (Ah op.data.toList:Int),.int .i64 (Ca (Ah op.data.toList):Int),.int .i64 (Bm (Ah op.data.toList):Int)])/\Ad w w'):=by
   have:=s.out;unfold Ic at this;rw[if_neg o] at this;exact this
  have b:=j.out;unfold C7 at b;rw[if_pos o] at b;obtain⟨v,r⟩:∃v,Ah op.data.toList=v:=⟨_,rfl⟩;rw[r] at d b;subst b;have F:((v:Int) != -1)=true:=by rw[bne_iff_ne];omega
  clear s o j r a;go_enter Tryz.func137,Tryz.ntmps137
  go_wp2_with (go_at_call 67;refine d.out.mono ?_;rintro e f ⟨rfl,c⟩;have h:Hid (Ad w f):=c;clear c)
  go_ret
  exact⟨rfl,h.out⟩
theorem cF (op nm:List UInt8)(a b:PX)(ho:op∈Hn\/op∈Cy):Ci op=(Cc op nm a b).rk:=by
 simp only[Hn,Cy,List.mem_cons,List.not_mem_nil,or_false] at ho;rcases ho with(rfl|rfl|rfl|rfl)|(rfl|rfl)<;>rfl
theorem Un (w:World)(be sort at' len cap:Nat)(op nm:ByteArray)(n:Int)(pa:Option Addr)(kids:List PX)(x:PX)(he:Ak w be sort op nm n at' pa len cap)(hm:K6 sort op.data.toList nm.data.toList n kids x) :
  Calls Tryz.prog 100 #[.pointer (some ⟨be,0,none⟩)] w fun e w'=>e=.returned (.int .i64 (x.rk:Int))/\Ad w w':=by
 have o:=Aa he 0;have p:=Aa he 1;have f:Hid (Calls _ _ _ _ _):=Qd w be sort at' len cap op nm n pa he;have k:Hid (Calls _ _ _ _ _):=Dy op w;clear he;have q:=follows;rcases hm with⟨rfl,-,-,rfl⟩|⟨rfl,rfl⟩|⟨rfl,rfl⟩|⟨rfl,rfl⟩|⟨rfl,rfl⟩|⟨rfl,rfl⟩|⟨rfl,rfl⟩|⟨rfl,rfl⟩|⟨rfl,a,b,c,rfl,rfl⟩|⟨rfl,a,b,rfl,rfl⟩|⟨rfl,h,a,b,rfl,rfl⟩|⟨l,d⟩
 case inr.inr.inr.inr.inr.inr.inr.inr.inr.inr.inl =>
  rw[<- cF _ nm.data.toList a b h];clear h;go_enter Tryz.func100,Tryz.ntmps100
  go_wp2_with (go_at_call 65;refine k.out.mono ?_;rintro e i ⟨rfl,m⟩;cases m)
  go_ret
  exact⟨rfl,Ad.refl _⟩
 case inr.inr.inr.inr.inr.inr.inr.inr.inr.inr.inr =>
  rw[<- Nn d];clear d;rcases l with rfl|rfl
  all_goals
   go_enter Tryz.func100,Tryz.ntmps100
   go_wp2_with (go_at_call 137;refine f.out.mono ?_;rintro e i ⟨rfl,g⟩;have j:Hid (Ad w i):=g;clear g)
   go_ret
   exact⟨rfl,j.out⟩
 all_goals
  go_enter Tryz.func100,Tryz.ntmps100
  go_wp2_with fail
  go_ret
  exact⟨rfl,Ad.refl _⟩
end Go.Proofs.YtjbfcadeapphbaaGreatDoor.Sx
namespace Go.Proofs.YtjbfcadeapphbaaGreatDoor.Sx
set_option maxRecDepth 100000
set_option maxHeartbeats 1000000
open Go.RowKit Go.Sort
def WrE (n:Nat):Prop:=∀(B b:Nat)(l:List UInt8)(w:World)(x:PX)(v:Value),Bi (·<B) w n x v->Bld B b l w->l.length+x.tx.length<=140737488355328->Calls Tryz.prog 15 #[.pointer (some ⟨b,0,none⟩),v] w (Ar B b l x.tx w)
theorem Bi.kp {B b n:Nat}{w w':World}{x:PX}{v:Value}(h:Bi (·<B) w n x v)(k:Kp B b w w'):Bi (·<B) w' n x v:=Bi.fr (frB k.1) (fun _ _ q=>q) n x v h
theorem Bh.kp {B b n:Nat}{w w':World}{a:Option Addr}{len:Nat}{es:List PX}(h:Bh (·<B) w (Bi (·<B) w n) a len es)(k:Kp B b w w'):Bh (·<B) w' (Bi (·<B) w' n) a len es:=Bh.fr (frB k.1) (fun _ _ h=>h.kp k) (fun _ _ q=>q) h
theorem Ak.kp {B b be sort at' len cap:Nat}{op nm:ByteArray}{n:Int}{pa:Option Addr}{w w':World}(h:Ak w be sort op nm n at' pa len cap)(k:Kp B b w w')(hb:be<B):Ak w' be sort op nm n at' pa len cap:=h.of (frB k.1) hb
theorem Af.kp {B b:Nat}{l t:List UInt8}{w w':World}(h:Af B b l t w w'):Kp B b w w':=h.2
theorem Af.grew {B b:Nat}{l t:List UInt8}{w w' w2:World}(h:Af B b l t w w')(g:Ad w' w2):Af B b l t w w2:=⟨h.1.grew g,h.2.trans (Kp.grew g h.1.low)⟩
theorem Af.put {B b:Nat}{l t s u:List UInt8}{w w1 w2:World}(h:Af B b l t w w1)(k:Af B b (l++t) s w1 w2)(e:t++s=u):Af B b l u w w2:=by rw[<- e];exact h.trans k
theorem Eb {n:Nat}(hW:WrE n)(B b:Nat)(l:List UInt8)(w:World)(x:PX)(v:Value)(q:Nat)(hx:Bi (·<B) w n x v)(hB:Bld B b l w)(hlen:l.length+(Ai x q).length<=140737488355328) :
  Calls Tryz.prog 66 #[.pointer (some ⟨b,0,none⟩),v,.int .i64 (q:Int)] w (Ar B b l (Ai x q) w):=by
 have C:Hid (Bi (·<B) w n x v):=hx;have L:Hid (Bld B b l w):=hB;have A:Hid (WrE n):=hW;obtain⟨g,rfl,o⟩:∃g,v=.pointer (some ⟨g,0,none⟩)/\Hid (Calls Tryz.prog 100 #[.pointer (some ⟨g,0,none⟩)] w fun e w'=>e=.returned (.int .i64 (x.rk:Int))/\Ad w w'):=by
  cases n with
  | zero=>exact absurd hx id
  | succ n =>
   obtain⟨g,k,I,H,i,a,J,z,u,j,rfl,M,F,N,G⟩:=hx;exact⟨g,rfl,Un w g k a z u I H i J j x F G⟩
 have p:Hid (Af B b l [] w w):=Af.nil hB;clear hx hB hW;unfold Ai at hlen |-;by_cases r:x.rk<q
 ·rw[if_pos r] at hlen |-;have y:¬(q:Int)<=(x.rk:Int):=by omega
  clear r;simp only[List.length_cons,List.length_append,List.length_nil] at hlen;go_enter Tryz.func66,Tryz.ntmps66
  go_wp2_with (go_at_call 100;refine o.out.mono ?_;rintro e m ⟨rfl,h⟩;have d:Hid (Af B b l [] w m):=p.out.grew h;clear h)
  refine(Ax B b (l++[]) m _ [⟨#[40]⟩] 1 [40] rfl rfl (by decide) rfl d.out.1 (by simp;omega)).mono ?_;rintro e s ⟨rfl,c⟩;have f:Hid (Af B b l [40] w s):=d.out.put c rfl;clear c d p o;go_wp2_with fail
  refine(A.out B b (l++[40]) s x _ (C.out.kp f.out.kp) f.out.1 (by simp;omega)).mono ?_;rintro e D ⟨rfl,c⟩;have t:Hid (Af B b l (40::x.tx) w D):=f.out.put c rfl;clear c f;go_wp2_with fail
  refine(Ax B b (l++(40::x.tx)) D _ [⟨#[41]⟩] 1 [41] rfl rfl (by decide) rfl t.out.1 (by simp;omega)).mono ?_;rintro e K ⟨rfl,c⟩;have E:Hid (Af B b l (40::(x.tx++[41])) w K):=t.out.put c rfl;clear c t;go_wp2_with fail
  go_end0
  exact⟨rfl,E.out⟩
 ·rw[if_neg r] at hlen |-;have y:(q:Int)<=(x.rk:Int):=by omega
  clear r;go_enter Tryz.func66,Tryz.ntmps66
  go_wp2_with (go_at_call 100;refine o.out.mono ?_;rintro e m ⟨rfl,h⟩;have d:Hid (Af B b l [] w m):=p.out.grew h;clear h)
  refine(A.out B b (l++[]) m x _ (C.out.kp d.out.kp) d.out.1 (by simp;omega)).mono ?_;rintro e s ⟨rfl,c⟩;have f:Hid (Af B b l x.tx w s):=d.out.put c rfl;clear c d p o;go_wp2_with fail
  refine bodyPost_ret (results_none rfl _ _ _) rfl ?_;exact⟨rfl,f.out⟩
def Gn (sep:Nat->List UInt8)(kids:List PX)(k:Nat):List UInt8:=Bd sep 0 ((kids.take k).map PX.tx)
theorem J9 (sep:Nat->List UInt8)(a:List UInt8):∀(l:List (List UInt8))(i:Nat),Bd sep i (l++[a])=Bd sep i l++(sep (i+l.length)++a)
 | [],i=>by simp[Bd]
 | c::l,i=>by
  have:=J9 sep a l (i+1);simp only[List.cons_append,Bd,List.length_cons] at this |-;rw[this,show i+1+l.length=i+(l.length+1) from by omega];simp
theorem Oo (sep:Nat->List UInt8)(kids:List PX)(k:Nat)(x:PX)(h:kids[k]?=some x):Gn sep kids (k+1)=Gn sep kids k++(sep k++x.tx):=by
 have a:=(List.getElem?_eq_some_iff.1 h).1;unfold Gn;rw[List.take_add_one,h,Option.toList_some,List.map_append,List.map_cons,List.map_nil,J9];simp only[List.length_map,List.length_take,Nat.zero_add];rw[show min k kids.length=k from by omega]
theorem Se (sep:Nat->List UInt8)(kids:List PX)(k:Nat)(h:kids.length<=k):Gn sep kids k=Bd sep 0 (kids.map PX.tx):=by
 unfold Gn;rw[List.take_of_length_le h]
theorem Mq (sep:Nat->List UInt8):∀(l m:List (List UInt8))(i:Nat),(Bd sep i l).length<=(Bd sep i (l++m)).length
 | [],m,i=>by simp[Bd]
 | c::l,m,i=>by
  have:=Mq sep l m (i+1);simp only[List.cons_append,Bd,List.length_append] at this |-;omega
theorem Wr (sep:Nat->List UInt8)(kids:List PX)(k:Nat):(Gn sep kids k).length<=(Bd sep 0 (kids.map PX.tx)).length:=by
 have:=Mq sep ((kids.take k).map PX.tx) ((kids.drop k).map PX.tx) 0;rw[<- List.map_append,List.take_append_drop] at this;exact this
theorem Ws {P:Nat->Prop}{w:World}{R:PX->Value->Prop}{a:Option Addr}{len:Nat}{es:List PX}(h:Bh P w R a len es){k:Nat}(hk:k<len):∃b off x v,a=some ⟨b,off,none⟩/\b<w.heap.size/\es[k]?=some x/\w.cell? ⟨b,off+k,none⟩=some v/\R x v:=by
 obtain⟨l,-,d⟩:=h;obtain⟨b,off,e,g,-,f⟩:=d.resolve_left (by omega);obtain⟨x,c⟩:∃x,es[k]?=some x:=⟨_,List.getElem?_eq_getElem (by omega)⟩;obtain⟨v,j,i⟩:=f k x c;exact⟨b,off,x,v,e,g,c,j,i⟩
theorem Bi.ptr {P:Nat->Prop}{w:World}{n:Nat}{x:PX}{v:Value}(h:Bi P w n x v):∃b,v=.pointer (some ⟨b,0,none⟩):=by
 obtain⟨b,a,-⟩:=Ae.ptr ⟨n,h⟩;exact⟨b,a⟩
theorem Ja {n:Nat}(hW:WrE n)(B b:Nat)(l:List UInt8)(w:World)(op cl:ByteArray)(pa:Option Addr)(len cap:Nat)(kids:List PX)(hr:Bh (·<B) w (Bi (·<B) w n) pa len kids)(hB:Bld B b l w)
  (hlen:l.length+(op.data.toList++(Cb kids++cl.data.toList)).length<=140737488355328) :
  Calls Tryz.prog 32 #[.pointer (some ⟨b,0,none⟩),.string op,.slice pa len cap,.string cl] w (Ar B b l (op.data.toList++(Cb kids++cl.data.toList)) w):=by
 have G:Hid (Bh (·<B) w (Bi (·<B) w n) pa len kids):=hr;have E:Hid (Bld B b l w):=hB;have z:Hid (WrE n):=hW;have F:Hid (len=kids.length):=hr.1;have K:len<=4294967296:=hr.2.1;have r:op.data.toList.length=op.size:=by simp
 have s:cl.data.toList.length=cl.size:=by simp
 simp only[List.length_append] at hlen;have u:Hid (l.length+(op.data.toList.length+((Cb kids).length+cl.data.toList.length))<=140737488355328):=hlen;clear hr hB hW hlen r s;go_enter Tryz.func32,Tryz.ntmps32
 go_wp2_with fail
 refine(Ax B b l w _ [op] 1 op.data.toList rfl rfl (by decide) (by simp[Dc]) E.out (by have:=u.out;omega)).mono ?_;rintro e O ⟨rfl,a⟩;have c:Hid (Af B b l (op.data.toList++Gn Co kids 0) w O):=by
  show Af _ _ _ _ _ _;rw[show Gn Co kids 0=[] from rfl,List.append_nil];exact a
 clear a;go_wp2_with fail
 go_loopw [16] (fun i wr=>∃k:Nat,k<=len/\i=.int .i64 k/\Hid (Af B b l (op.data.toList++Gn Co kids k) w wr)) (fun i _=>len-(intOf i).toNat)
 case atStart=>exact⟨0,Nat.zero_le _,rfl,c⟩
 case round =>
  clear c;obtain⟨k,R,rfl,c⟩:=hrel;by_cases y:k<len
  ·obtain⟨S,N,x,v,rfl,L,D,M,h⟩:=Ws (G.out.kp c.out.kp) y;obtain⟨Q,rfl⟩:=h.ptr;have t:Hid (Bi (·<B) wr n x _):=h;have j:=Oo Co kids k x D;have q:=Wr Co kids (k+1);have p:(Cb kids).length=(Bd Co 0 (kids.map PX.tx)).length:=rfl;rw[j,List.length_append,List.length_append,<- p] at q;have f:Hid (Gn Co kids (k+1)=_):=j;have J:=u.out;have d:Hid ((l++(op.data.toList++Gn Co kids k)).length+((Co k).length+x.tx.length)<=140737488355328):=by
    show _<=_;simp only[List.length_append];omega
   clear D h j q p J;by_cases A:k=0
   ·subst A;rw[Nat.add_zero] at M;go_wp2_with fail
    refine(z.out B b _ wr x _ t.out c.out.1 (by have:=d.out;omega)).mono ?_;rintro e m ⟨rfl,a⟩;have g:Hid (Af B b l (op.data.toList++Gn Co kids (0+1)) w m):=c.out.put a (by rw[f.out];simp[Co]);clear a c t f d;go_wp2_with fail
    go_roundw
    case rel=>exact⟨0+1,by omega,by go_num,g⟩
    case measure=>simp[intOf];omega
   ·have I:(0:Int)<(k:Int):=by omega
    have C:Co k=[44,32]:=by unfold Co;rw[if_neg A]
    rw[C] at d f;clear C;go_wp2_with fail
    refine(Ax B b _ wr _ [⟨#[44,32]⟩] 1 [44,32] rfl rfl (by decide) rfl c.out.1 (by have:=d.out;simp only[List.length_cons,List.length_nil] at this |-;omega)).mono ?_;rintro e m ⟨rfl,a⟩;have g:Hid (Af B b l ((op.data.toList++Gn Co kids k)++[44,32]) w m):=c.out.put a rfl;have o:Hid (Bi (·<B) m n x _):=t.out.kp a.kp;clear a c t;go_wp2_with fail
    refine(z.out B b _ m x _ o.out g.out.1 (by have:=d.out;simp only[List.length_append,List.length_cons,List.length_nil] at this |-;omega)).mono ?_;rintro e P ⟨rfl,a⟩;have H:Hid (Af B b l (op.data.toList++Gn Co kids (k+1)) w P):=g.out.put a (by rw[f.out];simp);clear a g o f d;go_wp2_with fail
    go_roundw
    case rel=>exact⟨k+1,by omega,by go_num,H⟩
    case measure=>simp[intOf];omega
  ·obtain rfl:k=len:=by omega
   rw[Se Co kids k (by have:=F.out;omega)] at c;go_wp2_with fail
   refine(Ax B b _ wr _ [cl] 1 cl.data.toList rfl rfl (by decide) (by simp[Dc]) c.out.1 (by have:=u.out;simp only[List.length_append,Cb] at this |-;omega)).mono ?_;rintro e m ⟨rfl,a⟩;have g:Hid (Af B b l (op.data.toList++(Cb kids++cl.data.toList)) w m):=c.out.put a (by simp[Cb]);clear a c;go_wp2_with fail
   go_end0
   exact⟨rfl,g.out⟩
theorem Np {n:Nat}(hW:WrE n)(B b:Nat)(l:List UInt8)(w:World)(pa:Option Addr)(len cap:Nat)(kids:List PX)(hr:Bh (·<B) w (Bi (·<B) w n) pa len kids)(hB:Bld B b l w)
  (hlen:l.length+(91::(Bd Cm 0 (kids.map PX.tx)++[93])).length<=140737488355328) :
  Calls Tryz.prog 68 #[.pointer (some ⟨b,0,none⟩),.slice pa len cap] w (Ar B b l (91::(Bd Cm 0 (kids.map PX.tx)++[93])) w):=by
 have H:Hid (Bh (·<B) w (Bi (·<B) w n) pa len kids):=hr;have F:Hid (Bld B b l w):=hB;have u:Hid (WrE n):=hW;have G:Hid (len=kids.length):=hr.1;have K:len<=4294967296:=hr.2.1;simp only[List.length_append,List.length_cons,List.length_nil] at hlen;have t:Hid (l.length+((Bd Cm 0 (kids.map PX.tx)).length+2)<=140737488355328):=by show _<=_;omega
 clear hr hB hW hlen;go_enter Tryz.func68,Tryz.ntmps68
 go_wp2_with fail
 refine(Ax B b l w _ [⟨#[91]⟩] 1 [91] rfl rfl (by decide) rfl F.out (by have:=t.out;simp;omega)).mono ?_;rintro e O ⟨rfl,a⟩;have f:Hid (Af B b l (91::Gn Cm kids 0) w O):=a;clear a;go_wp2_with fail
 go_loopw [11] (fun i wr=>∃k:Nat,k<=len/\i=.int .i64 k/\Hid (Af B b l (91::Gn Cm kids k) w wr)) (fun i _=>len-(intOf i).toNat)
 case atStart=>exact⟨0,Nat.zero_le _,rfl,f⟩
 case round =>
  clear f;obtain⟨k,Q,rfl,f⟩:=hrel;by_cases A:k<len
  ·obtain⟨R,N,x,v,rfl,L,E,M,m⟩:=Ws (H.out.kp f.out.kp) A;obtain⟨P,rfl⟩:=m.ptr;have p:Hid (Bi (·<B) wr n x _):=m;have o:=Oo Cm kids k x E;have s:=Wr Cm kids (k+1);rw[o,List.length_append,List.length_append] at s;have d:Hid (Gn Cm kids (k+1)=_):=o;have J:=t.out;have c:Hid ((l++(91::Gn Cm kids k)).length+((Cm k).length+x.tx.length)<=140737488355328):=by
    show _<=_;simp only[List.length_append,List.length_cons];omega
   clear E m o s J;by_cases q:k % 2=1
   ·have r:Cm k=[58,32]:=by unfold Cm;rw[if_pos q]
    rw[r] at c d;have D:(k:Int).tmod 2=1:=by rw[Int.tmod_eq_emod_of_nonneg (by omega)];omega
    clear r q;go_wp2_with fail
    refine(Ax B b _ wr _ [⟨#[58,32]⟩] 1 [58,32] rfl rfl (by decide) rfl f.out.1 (by have:=c.out;simp only[List.length_cons,List.length_nil] at this |-;omega)).mono ?_;rintro e j ⟨rfl,a⟩;have h:Hid (Af B b l ((91::Gn Cm kids k)++[58,32]) w j):=f.out.put a rfl;have g:Hid (Bi (·<B) j n x _):=p.out.kp a.kp;clear a f p;go_wp2_with fail
    refine(u.out B b _ j x _ g.out h.out.1 (by have:=c.out;simp only[List.length_append,List.length_cons,List.length_nil] at this |-;omega)).mono ?_;rintro e C ⟨rfl,a⟩;have y:Hid (Af B b l (91::Gn Cm kids (k+1)) w C):=h.out.put a (by rw[d.out];simp);clear a h g d c;go_wp2_with fail
    go_roundw
    case rel=>exact⟨k+1,by omega,by go_num,y⟩
    case measure=>simp[intOf];omega
   have D:(k:Int).tmod 2=0:=by rw[Int.tmod_eq_emod_of_nonneg (by omega)];omega
   by_cases z:k=0
   ·subst z;rw[Nat.add_zero] at M;clear D q;go_wp2_with fail
    refine(u.out B b _ wr x _ p.out f.out.1 (by have:=c.out;omega)).mono ?_;rintro e j ⟨rfl,a⟩;have h:Hid (Af B b l (91::Gn Cm kids (0+1)) w j):=f.out.put a (by rw[d.out];simp[Cm]);clear a f p d c;go_wp2_with fail
    go_roundw
    case rel=>exact⟨0+1,by omega,by go_num,h⟩
    case measure=>simp[intOf];omega
   ·have I:(0:Int)<(k:Int):=by omega
    have r:Cm k=[44,32]:=by unfold Cm;rw[if_neg q,if_neg z]
    rw[r] at c d;clear r q z;go_wp2_with fail
    refine(Ax B b _ wr _ [⟨#[44,32]⟩] 1 [44,32] rfl rfl (by decide) rfl f.out.1 (by have:=c.out;simp only[List.length_cons,List.length_nil] at this |-;omega)).mono ?_;rintro e j ⟨rfl,a⟩;have h:Hid (Af B b l ((91::Gn Cm kids k)++[44,32]) w j):=f.out.put a rfl;have g:Hid (Bi (·<B) j n x _):=p.out.kp a.kp;clear a f p;go_wp2_with fail
    refine(u.out B b _ j x _ g.out h.out.1 (by have:=c.out;simp only[List.length_append,List.length_cons,List.length_nil] at this |-;omega)).mono ?_;rintro e C ⟨rfl,a⟩;have y:Hid (Af B b l (91::Gn Cm kids (k+1)) w C):=h.out.put a (by rw[d.out];simp);clear a h g d c;go_wp2_with fail
    go_roundw
    case rel=>exact⟨k+1,by omega,by go_num,y⟩
    case measure=>simp[intOf];omega
  ·obtain rfl:k=len:=by omega
   rw[Se Cm kids k (by have:=G.out;omega)] at f;go_wp2_with fail
   refine(Ax B b _ wr _ [⟨#[93]⟩] 1 [93] rfl rfl (by decide) rfl f.out.1 (by have:=t.out;simp only[List.length_append,List.length_cons,List.length_nil] at this |-;omega)).mono ?_;rintro e j ⟨rfl,a⟩;have h:Hid (Af B b l (91::(Bd Cm 0 (kids.map PX.tx)++[93])) w j):=f.out.put a (by simp);clear a f;go_wp2_with fail
   go_end0
   exact⟨rfl,h.out⟩
theorem eR {B n:Nat}{w:World}{pa:Option Addr}{len:Nat}{a:PX}(h:Bh (·<B) w (Bi (·<B) w n) pa len [a]) :
  len=1/\∃pb off,pa=some ⟨pb,off,none⟩/\pb<B/\pb<w.heap.size/\∃x0,w.cell? ⟨pb,off,none⟩=some (.pointer (some ⟨x0,0,none⟩))/\Bi (·<B) w n a (.pointer (some ⟨x0,0,none⟩)):=by
 obtain⟨b,-,f⟩:=h;simp at b;obtain⟨pb,off,e,j,i,g⟩:=f.resolve_left (by omega);obtain⟨k,d,c⟩:=g 0 a rfl;obtain⟨x0,rfl⟩:=c.ptr;exact⟨b,pb,off,e,i,j,x0,d,c⟩
theorem aL {B n:Nat}{w:World}{pa:Option Addr}{len:Nat}{a b:PX}(h:Bh (·<B) w (Bi (·<B) w n) pa len [a,b]) :
  len=2/\∃pb off,pa=some ⟨pb,off,none⟩/\pb<B/\pb<w.heap.size/\∃x0,w.cell? ⟨pb,off,none⟩=some (.pointer (some ⟨x0,0,none⟩))/\Bi (·<B) w n a (.pointer (some ⟨x0,0,none⟩)) /\
   ∃x1,w.cell? ⟨pb,off+1,none⟩=some (.pointer (some ⟨x1,0,none⟩))/\Bi (·<B) w n b (.pointer (some ⟨x1,0,none⟩)):=by
 obtain⟨c,-,k⟩:=h;simp at c;obtain⟨pb,off,e,m,l,d⟩:=k.resolve_left (by omega);obtain⟨o,i,f⟩:=d 0 a rfl;obtain⟨x0,rfl⟩:=f.ptr;obtain⟨p,j,g⟩:=d 1 b rfl;obtain⟨x1,rfl⟩:=g.ptr;exact⟨c,pb,off,e,l,m,x0,i,f,x1,j,g⟩
theorem eS {B n:Nat}{w:World}{pa:Option Addr}{len:Nat}{a b c:PX}(h:Bh (·<B) w (Bi (·<B) w n) pa len [a,b,c]) :
  len=3/\∃pb off,pa=some ⟨pb,off,none⟩/\pb<B/\pb<w.heap.size/\∃x0,w.cell? ⟨pb,off,none⟩=some (.pointer (some ⟨x0,0,none⟩))/\Bi (·<B) w n a (.pointer (some ⟨x0,0,none⟩)) /\
   ∃x1,w.cell? ⟨pb,off+1,none⟩=some (.pointer (some ⟨x1,0,none⟩))/\Bi (·<B) w n b (.pointer (some ⟨x1,0,none⟩)) /\
   ∃x2,w.cell? ⟨pb,off+2,none⟩=some (.pointer (some ⟨x2,0,none⟩))/\Bi (·<B) w n c (.pointer (some ⟨x2,0,none⟩)):=by
 obtain⟨f,-,o⟩:=h;simp at f;obtain⟨pb,off,e,q,p,d⟩:=o.resolve_left (by omega);obtain⟨r,k,g⟩:=d 0 a rfl;obtain⟨x0,rfl⟩:=g.ptr;obtain⟨s,l,i⟩:=d 1 b rfl;obtain⟨x1,rfl⟩:=i.ptr;obtain⟨t,m,j⟩:=d 2 c rfl;obtain⟨x2,rfl⟩:=j.ptr;exact⟨f,pb,off,e,p,q,x0,k,g,x1,l,i,x2,m,j⟩
theorem Sf {n:Nat}(hW:WrE n)(B b be sort at' len cap:Nat)(l:List UInt8)(w:World)(op nm:ByteArray)(i:Int)(pa:Option Addr)(ka kb kc:PX)(he:Ak w be sort op nm i at' pa len cap)(hbe:be<B)(hr:Bh (·<B) w (Bi (·<B) w n) pa len [ka,kb,kc])(hB:Bld B b l w)
  (hlen:l.length+((dIf ka kb kc).tx).length<=140737488355328) :
  Calls Tryz.prog 33 #[.pointer (some ⟨b,0,none⟩),.pointer (some ⟨be,0,none⟩)] w (Ar B b l ((dIf ka kb kc).tx) w):=by
 have x:Hid (Ak w be sort op nm i at' pa len cap):=he;have D:Hid (WrE n):=hW;have HB:Hid (Bld B b l w):=hB;have A:Hid (Af B b l ([]:List UInt8) w w):=Af.nil hB;have q:Hid (l.length+((dIf ka kb kc).tx).length<=140737488355328):=hlen;obtain⟨rfl,C,v,H,u,U,X,I,L,Y,J,M,Z,K,N⟩:=eS hr;subst H;have E:Hid (Bi (·<B) w n _ _):=L;have c:Hid (∀W,Kp B b w W->W.cell? ⟨C,v,none⟩=some (.pointer (some ⟨X,0,none⟩))):=fun W k=>(World.cell?_of_block (w:=w) (k.1.block C u)).trans I;have F:Hid (Bi (·<B) w n _ _):=M;have d:Hid (∀W,Kp B b w W->W.cell? ⟨C,v+1,none⟩=some (.pointer (some ⟨Y,0,none⟩))):=fun W k=>(World.cell?_of_block (w:=w) (k.1.block C u)).trans J;have G:Hid (Bi (·<B) w n _ _):=N;have f:Hid (∀W,Kp B b w W->W.cell? ⟨C,v+2,none⟩=some (.pointer (some ⟨Z,0,none⟩))):=fun W k=>(World.cell?_of_block (w:=w) (k.1.block C u)).trans K;clear I L J M K N;clear he hW hB hr hlen;simp only[dIf] at q |-;go_enter Tryz.func33,Tryz.ntmps33
 have g:=Aa (x.out.kp A.out.kp hbe) 5;have m:=c.out _ A.out.kp;have o:=d.out _ A.out.kp;have p:=f.out _ A.out.kp;go_wp2_with fail
 clear g m o p;refine(Ax B b _ w _ [⟨#[105,102,32]⟩] 1 [105,102,32] rfl rfl (by decide) (by simp[Dc]) A.out.1 (by have j:=q.out;simp only[List.length_append,List.length_cons,List.length_nil] at j |-;omega)).mono ?_;rintro e O ⟨rfl,a⟩;have r:Hid (Af B b l (([]:List UInt8)++[105,102,32]) w O):=A.out.put a rfl;clear a;have g:=Aa (x.out.kp r.out.kp hbe) 5;have m:=c.out _ r.out.kp;have o:=d.out _ r.out.kp;have p:=f.out _ r.out.kp;go_wp2_with fail
 clear g m o p;refine(D.out B b _ O ka _ (E.out.kp r.out.kp) r.out.1 (by have j:=q.out;simp only[List.length_append,List.length_cons,List.length_nil] at j |-;omega)).mono ?_;rintro e P ⟨rfl,a⟩;have y:Hid (Af B b l ((([]:List UInt8)++[105,102,32])++ka.tx) w P):=r.out.put a rfl;clear a;have g:=Aa (x.out.kp y.out.kp hbe) 5;have m:=c.out _ y.out.kp;have o:=d.out _ y.out.kp;have p:=f.out _ y.out.kp;go_wp2_with fail
 clear g m o p;refine(Ax B b _ P _ [⟨#[32,116,104,101,110,32]⟩] 1 [32,116,104,101,110,32] rfl rfl (by decide) (by simp[Dc]) y.out.1 (by have j:=q.out;simp only[List.length_append,List.length_cons,List.length_nil] at j |-;omega)).mono ?_;rintro e Q ⟨rfl,a⟩;have s:Hid (Af B b l (((([]:List UInt8)++[105,102,32])++ka.tx)++[32,116,104,101,110,32]) w Q):=y.out.put a rfl;clear a;have g:=Aa (x.out.kp s.out.kp hbe) 5;have m:=c.out _ s.out.kp;have o:=d.out _ s.out.kp;have p:=f.out _ s.out.kp;go_wp2_with fail
 clear g m o p;refine(D.out B b _ Q kb _ (F.out.kp s.out.kp) s.out.1 (by have j:=q.out;simp only[List.length_append,List.length_cons,List.length_nil] at j |-;omega)).mono ?_;rintro e R ⟨rfl,a⟩;have z:Hid (Af B b l ((((([]:List UInt8)++[105,102,32])++ka.tx)++[32,116,104,101,110,32])++kb.tx) w R):=s.out.put a rfl;clear a;have g:=Aa (x.out.kp z.out.kp hbe) 5;have m:=c.out _ z.out.kp;have o:=d.out _ z.out.kp;have p:=f.out _ z.out.kp;go_wp2_with fail
 clear g m o p;refine(Ax B b _ R _ [⟨#[32,101,108,115,101,32]⟩] 1 [32,101,108,115,101,32] rfl rfl (by decide) (by simp[Dc]) z.out.1 (by have j:=q.out;simp only[List.length_append,List.length_cons,List.length_nil] at j |-;omega)).mono ?_;rintro e S ⟨rfl,a⟩;have t:Hid (Af B b l (((((([]:List UInt8)++[105,102,32])++ka.tx)++[32,116,104,101,110,32])++kb.tx)++[32,101,108,115,101,32]) w S):=z.out.put a rfl;clear a;have g:=Aa (x.out.kp t.out.kp hbe) 5;have m:=c.out _ t.out.kp;have o:=d.out _ t.out.kp;have p:=f.out _ t.out.kp;go_wp2_with fail
 clear g m o p;refine(D.out B b _ S kc _ (G.out.kp t.out.kp) t.out.1 (by have j:=q.out;simp only[List.length_append,List.length_cons,List.length_nil] at j |-;omega)).mono ?_;rintro e V ⟨rfl,a⟩;have T:Hid (Af B b l ((((((([]:List UInt8)++[105,102,32])++ka.tx)++[32,116,104,101,110,32])++kb.tx)++[32,101,108,115,101,32])++kc.tx) w V):=t.out.put a rfl;clear a;go_wp2_with fail
 go_end0
 exact⟨rfl,by have h:=T.out;simpa using h⟩
theorem Uo {n:Nat}(hW:WrE n)(B b be sort at' len cap:Nat)(l:List UInt8)(w:World)(op nm:ByteArray)(i:Int)(pa:Option Addr)(ka kb:PX)(he:Ak w be sort op nm i at' pa len cap)(hbe:be<B)(hr:Bh (·<B) w (Bi (·<B) w n) pa len [ka,kb])(hB:Bld B b l w)(ho:Ci op.data.toList=0)
  (hlen:l.length+(Ep op.data.toList nm.data.toList ka kb).length<=140737488355328) :
  Calls Tryz.prog 34 #[.pointer (some ⟨b,0,none⟩),.pointer (some ⟨be,0,none⟩)] w (Ar B b l (Ep op.data.toList nm.data.toList ka kb) w):=by
 have a:Hid (Ak w be sort op nm i at' pa len cap):=he;have G:Hid (WrE n):=hW;have X:Hid (Bld B b l w):=hB;have d:Hid (Af B b l ([]:List UInt8) w w):=Af.nil hB;have Y:=follows;have v:Hid (l.length+(Ep op.data.toList nm.data.toList ka kb).length<=140737488355328):=hlen;obtain⟨rfl,z,y,F,x,Q,U,H,J,V,I,K⟩:=aL hr;subst F;have A:Hid (Bi (·<B) w n _ _):=J;have f:Hid (∀W,Kp B b w W->W.cell? ⟨z,y,none⟩=some (.pointer (some ⟨U,0,none⟩))):=fun W k=>(World.cell?_of_block (w:=w) (k.1.block z x)).trans H;have C:Hid (Bi (·<B) w n _ _):=K;have g:Hid (∀W,Kp B b w W->W.cell? ⟨z,y+1,none⟩=some (.pointer (some ⟨V,0,none⟩))):=fun W k=>(World.cell?_of_block (w:=w) (k.1.block z x)).trans I;clear H J I K;clear he hW hB hr hlen;have O:Hid (Calls Tryz.prog 65 #[.string op] w fun e w'=>e=.returned (.int .i64 0)/\w'=w):=by have:=Dy op w;rw[ho] at this;exact this
 clear ho;simp only[Ep] at v |-;go_enter Tryz.func34,Tryz.ntmps34
 have m:=Aa (a.out.kp d.out.kp hbe) 1;have o:=Aa (a.out.kp d.out.kp hbe) 2;have p:=Aa (a.out.kp d.out.kp hbe) 5;have q:=f.out _ d.out.kp;have r:=g.out _ d.out.kp;go_wp2_with (go_at_call 65;refine O.out.mono ?_;rintro e Z ⟨rfl,c⟩;cases c)
 clear m o p q r;have m:=Aa (a.out.kp d.out.kp hbe) 1;have o:=Aa (a.out.kp d.out.kp hbe) 2;have p:=Aa (a.out.kp d.out.kp hbe) 5;have q:=f.out _ d.out.kp;have r:=g.out _ d.out.kp;have E:=Ab (a.out.kp d.out.kp hbe);have D:Hid (Af B b l ([]:List UInt8) w w.drew):=d.out.grew (Ad.refl _).drew;go_wp2_with fail
 go_region_held3 (fun w'=>w'.cell? ⟨be,1,none⟩=some (.string op)/\w'.cell? ⟨be,2,none⟩=some (.string nm)) (first|(constructor<;>assumption)|assumption|go_keep)
   ((go_at_call 30;refine(Ax B b _ w.drew _ [op,⟨#[32]⟩,nm,⟨#[32,105,110,32]⟩] 4 (op.data.toList++[32]++nm.data.toList++[32,105,110,32]) rfl rfl (by decide) (by simp[Dc]) D.out.1 (by have u:=v.out;simp only[List.length_append,List.length_cons,List.length_nil] at u |-;omega)).mono ?_;rintro e L ⟨rfl,c⟩;have j:Hid (Af B b l (([]:List UInt8)++(op.data.toList++[32]++nm.data.toList++[32,105,110,32])) w L):=D.out.put c rfl;have R:=Aa (a.out.kp j.out.kp hbe) 1;have S:=Aa (a.out.kp j.out.kp hbe) 2;clear c))
 clear E D R S m o p q r;have m:=Aa (a.out.kp j.out.kp hbe) 1;have o:=Aa (a.out.kp j.out.kp hbe) 2;have p:=Aa (a.out.kp j.out.kp hbe) 5;have q:=f.out _ j.out.kp;have r:=g.out _ j.out.kp;go_wp2_with fail
 clear m o p q r;refine(Eb G.out B b _ L ka _ 8 (A.out.kp j.out.kp) j.out.1 (by have u:=v.out;simp only[List.length_append,List.length_cons,List.length_nil] at u |-;omega)).mono ?_;rintro e M ⟨rfl,c⟩;have t:Hid (Af B b l ((([]:List UInt8)++(op.data.toList++[32]++nm.data.toList++[32,105,110,32]))++Ai ka 8) w M):=j.out.put c rfl;clear c;have m:=Aa (a.out.kp t.out.kp hbe) 1;have o:=Aa (a.out.kp t.out.kp hbe) 2;have p:=Aa (a.out.kp t.out.kp hbe) 5;have q:=f.out _ t.out.kp;have r:=g.out _ t.out.kp;go_wp2_with fail
 clear m o p q r;refine(Ax B b _ M _ [⟨#[32,58,32]⟩] 1 [32,58,32] rfl rfl (by decide) (by simp[Dc]) t.out.1 (by have u:=v.out;simp only[List.length_append,List.length_cons,List.length_nil] at u |-;omega)).mono ?_;rintro e N ⟨rfl,c⟩;have s:Hid (Af B b l (((([]:List UInt8)++(op.data.toList++[32]++nm.data.toList++[32,105,110,32]))++Ai ka 8)++[32,58,32]) w N):=t.out.put c rfl;clear c;have m:=Aa (a.out.kp s.out.kp hbe) 1;have o:=Aa (a.out.kp s.out.kp hbe) 2;have p:=Aa (a.out.kp s.out.kp hbe) 5;have q:=f.out _ s.out.kp;have r:=g.out _ s.out.kp;go_wp2_with fail
 clear m o p q r;refine(G.out B b _ N kb _ (C.out.kp s.out.kp) s.out.1 (by have u:=v.out;simp only[List.length_append,List.length_cons,List.length_nil] at u |-;omega)).mono ?_;rintro e T ⟨rfl,c⟩;have P:Hid (Af B b l ((((([]:List UInt8)++(op.data.toList++[32]++nm.data.toList++[32,105,110,32]))++Ai ka 8)++[32,58,32])++kb.tx) w T):=s.out.put c rfl;clear c;go_wp2_with fail
 go_end0
 exact⟨rfl,by have h:=P.out;simpa using h⟩
theorem aM {n:Nat}(hW:WrE n)(B b be sort at' len cap:Nat)(l:List UInt8)(w:World)(op nm:ByteArray)(i:Int)(pa:Option Addr)(ka kb:PX)(he:Ak w be sort op nm i at' pa len cap)(hbe:be<B)(hr:Bh (·<B) w (Bi (·<B) w n) pa len [ka,kb])(hB:Bld B b l w)(ho:Ci op.data.toList=14)
  (hlen:l.length+(123::(Ep op.data.toList nm.data.toList ka kb++[125])).length<=140737488355328) :
  Calls Tryz.prog 34 #[.pointer (some ⟨b,0,none⟩),.pointer (some ⟨be,0,none⟩)] w (Ar B b l (123::(Ep op.data.toList nm.data.toList ka kb++[125])) w):=by
 have a:Hid (Ak w be sort op nm i at' pa len cap):=he;have J:Hid (WrE n):=hW;have HB:Hid (Bld B b l w):=hB;have y:Hid (Af B b l ([]:List UInt8) w w):=Af.nil hB;have mo:=follows;have t:Hid (l.length+(123::(Ep op.data.toList nm.data.toList ka kb++[125])).length<=140737488355328):=hlen;obtain⟨rfl,C,A,H,z,U,Z,K,M,x1,L,N⟩:=aL hr;subst H;have D:Hid (Bi (·<B) w n _ _):=M;have d:Hid (∀W,Kp B b w W->W.cell? ⟨C,A,none⟩=some (.pointer (some ⟨Z,0,none⟩))):=fun W k=>(World.cell?_of_block (w:=w) (k.1.block C z)).trans K;have E:Hid (Bi (·<B) w n _ _):=N;have f:Hid (∀W,Kp B b w W->W.cell? ⟨C,A+1,none⟩=some (.pointer (some ⟨x1,0,none⟩))):=fun W k=>(World.cell?_of_block (w:=w) (k.1.block C z)).trans L;clear K M L N;clear he hW hB hr hlen;have S:Hid (Calls Tryz.prog 65 #[.string op] w fun e w'=>e=.returned (.int .i64 14)/\w'=w):=by have:=Dy op w;rw[ho] at this;exact this
 clear ho;simp only[Ep] at t |-;go_enter Tryz.func34,Tryz.ntmps34
 have g:=Aa (a.out.kp y.out.kp hbe) 1;have j:=Aa (a.out.kp y.out.kp hbe) 2;have m:=Aa (a.out.kp y.out.kp hbe) 5;have p:=d.out _ y.out.kp;have q:=f.out _ y.out.kp;go_wp2_with (go_at_call 65;refine S.out.mono ?_;rintro e w3 ⟨rfl,c⟩;cases c)
 clear g j m p q;refine(Ax B b _ w _ [⟨#[123]⟩] 1 [123] rfl rfl (by decide) (by simp[Dc]) y.out.1 (by have o:=t.out;simp only[List.length_append,List.length_cons,List.length_nil] at o |-;omega)).mono ?_;rintro e I ⟨rfl,c⟩;have u:Hid (Af B b l (([]:List UInt8)++[123]) w I):=y.out.put c rfl;clear c;have g:=Aa (a.out.kp u.out.kp hbe) 1;have j:=Aa (a.out.kp u.out.kp hbe) 2;have m:=Aa (a.out.kp u.out.kp hbe) 5;have p:=d.out _ u.out.kp;have q:=f.out _ u.out.kp;have G:=Ab (a.out.kp u.out.kp hbe);have F:Hid (Af B b l (([]:List UInt8)++[123]) w I.drew):=u.out.grew (Ad.refl _).drew;go_wp2_with fail
 go_region_held3 (fun w'=>w'.cell? ⟨be,1,none⟩=some (.string op)/\w'.cell? ⟨be,2,none⟩=some (.string nm)) (first|(constructor<;>assumption)|assumption|go_keep)
   ((go_at_call 30;refine(Ax B b _ I.drew _ [op,⟨#[32]⟩,nm,⟨#[32,105,110,32]⟩] 4 (op.data.toList++[32]++nm.data.toList++[32,105,110,32]) rfl rfl (by decide) (by simp[Dc]) F.out.1 (by have o:=t.out;simp only[List.length_append,List.length_cons,List.length_nil] at o |-;omega)).mono ?_;rintro e O ⟨rfl,c⟩;have r:Hid (Af B b l ((([]:List UInt8)++[123])++(op.data.toList++[32]++nm.data.toList++[32,105,110,32])) w O):=F.out.put c rfl;have V:=Aa (a.out.kp r.out.kp hbe) 1;have X:=Aa (a.out.kp r.out.kp hbe) 2;clear c))
 clear G F V X g j m p q;have g:=Aa (a.out.kp r.out.kp hbe) 1;have j:=Aa (a.out.kp r.out.kp hbe) 2;have m:=Aa (a.out.kp r.out.kp hbe) 5;have p:=d.out _ r.out.kp;have q:=f.out _ r.out.kp;go_wp2_with fail
 clear g j m p q;refine(Eb J.out B b _ O ka _ 8 (D.out.kp r.out.kp) r.out.1 (by have o:=t.out;simp only[List.length_append,List.length_cons,List.length_nil] at o |-;omega)).mono ?_;rintro e P ⟨rfl,c⟩;have v:Hid (Af B b l (((([]:List UInt8)++[123])++(op.data.toList++[32]++nm.data.toList++[32,105,110,32]))++Ai ka 8) w P):=r.out.put c rfl;clear c;have g:=Aa (a.out.kp v.out.kp hbe) 1;have j:=Aa (a.out.kp v.out.kp hbe) 2;have m:=Aa (a.out.kp v.out.kp hbe) 5;have p:=d.out _ v.out.kp;have q:=f.out _ v.out.kp;go_wp2_with fail
 clear g j m p q;refine(Ax B b _ P _ [⟨#[32,58,32]⟩] 1 [32,58,32] rfl rfl (by decide) (by simp[Dc]) v.out.1 (by have o:=t.out;simp only[List.length_append,List.length_cons,List.length_nil] at o |-;omega)).mono ?_;rintro e Q ⟨rfl,c⟩;have s:Hid (Af B b l ((((([]:List UInt8)++[123])++(op.data.toList++[32]++nm.data.toList++[32,105,110,32]))++Ai ka 8)++[32,58,32]) w Q):=v.out.put c rfl;clear c;have g:=Aa (a.out.kp s.out.kp hbe) 1;have j:=Aa (a.out.kp s.out.kp hbe) 2;have m:=Aa (a.out.kp s.out.kp hbe) 5;have p:=d.out _ s.out.kp;have q:=f.out _ s.out.kp;go_wp2_with fail
 clear g j m p q;refine(J.out B b _ Q kb _ (E.out.kp s.out.kp) s.out.1 (by have o:=t.out;simp only[List.length_append,List.length_cons,List.length_nil] at o |-;omega)).mono ?_;rintro e R ⟨rfl,c⟩;have x:Hid (Af B b l (((((([]:List UInt8)++[123])++(op.data.toList++[32]++nm.data.toList++[32,105,110,32]))++Ai ka 8)++[32,58,32])++kb.tx) w R):=s.out.put c rfl;clear c;have g:=Aa (a.out.kp x.out.kp hbe) 1;have j:=Aa (a.out.kp x.out.kp hbe) 2;have m:=Aa (a.out.kp x.out.kp hbe) 5;have p:=d.out _ x.out.kp;have q:=f.out _ x.out.kp;go_wp2_with fail
 clear g j m p q;refine(Ax B b _ R _ [⟨#[125]⟩] 1 [125] rfl rfl (by decide) (by simp[Dc]) x.out.1 (by have o:=t.out;simp only[List.length_append,List.length_cons,List.length_nil] at o |-;omega)).mono ?_;rintro e Y ⟨rfl,c⟩;have T:Hid (Af B b l ((((((([]:List UInt8)++[123])++(op.data.toList++[32]++nm.data.toList++[32,105,110,32]))++Ai ka 8)++[32,58,32])++kb.tx)++[125]) w Y):=x.out.put c rfl;clear c;go_wp2_with fail
 go_end0
 exact⟨rfl,by have h:=T.out;simpa using h⟩
theorem Ya {n:Nat}(hW:WrE n)(B b be sort at' len cap:Nat)(l:List UInt8)(w:World)(op nm:ByteArray)(i:Int)(pa:Option Addr)(ka kb:PX)(he:Ak w be sort op nm i at' pa len cap)(hbe:be<B)(hr:Bh (·<B) w (Bi (·<B) w n) pa len [ka,kb])(hB:Bld B b l w)(ho:op.data.toList∈Hn\/op.data.toList∈Cy)
  (hlen:l.length+(Cc op.data.toList nm.data.toList ka kb).tx.length<=140737488355328) :
  Calls Tryz.prog 34 #[.pointer (some ⟨b,0,none⟩),.pointer (some ⟨be,0,none⟩)] w (Ar B b l (Cc op.data.toList nm.data.toList ka kb).tx w):=by
 rcases ho with ho|ho
 ·have a:Ci op.data.toList=0:=by
   simp only[Hn,List.mem_cons,List.not_mem_nil,or_false] at ho;rcases ho with ho|ho|ho|ho<;>rw[ho]<;>rfl
  have c:(Cc op.data.toList nm.data.toList ka kb).tx=Ep op.data.toList nm.data.toList ka kb:=by
   have:Cy.contains op.data.toList=false:=by
    simp only[Hn,List.mem_cons,List.not_mem_nil,or_false] at ho;rcases ho with ho|ho|ho|ho<;>rw[ho]<;>rfl
   unfold Cc;rw[this];rfl
  rw[c] at hlen |-;exact Uo hW B b be sort at' len cap l w op nm i pa ka kb he hbe hr hB a hlen
 ·have a:Ci op.data.toList=14:=by
   simp only[Cy,List.mem_cons,List.not_mem_nil,or_false] at ho;rcases ho with ho|ho<;>rw[ho]<;>rfl
  have c:(Cc op.data.toList nm.data.toList ka kb).tx=123::(Ep op.data.toList nm.data.toList ka kb++[125]):=by
   have:Cy.contains op.data.toList=true:=by
    simp only[Cy,List.mem_cons,List.not_mem_nil,or_false] at ho;rcases ho with ho|ho<;>rw[ho]<;>rfl
   unfold Cc;rw[this];rfl
  rw[c] at hlen |-;exact aM hW B b be sort at' len cap l w op nm i pa ka kb he hbe hr hB a hlen
end Go.Proofs.YtjbfcadeapphbaaGreatDoor.Sx
