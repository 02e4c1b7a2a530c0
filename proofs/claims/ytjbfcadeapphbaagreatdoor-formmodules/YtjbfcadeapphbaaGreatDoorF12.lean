/- The writer: words ahead of one part, or of a list. -/
import Derived.Test.YtjbfcadeapphbaaGreatDoorF07
import Derived.Lib.AppendStr
import Derived.Lib.UnsafeStr
import Derived.Lib.LaidTab
import Derived.Lib.OthersKept
import Derived.Lib.OwnKind
import Derived.Shelf.Strings.Builder1
import Derived.Deep.Cut
import Derived.Test.YtjbfcadeapphbaaGreatDoorF08
import Derived.Deep.RegionHeld3
namespace Go.Proofs.YtjbfcadeapphbaaGreatDoor.Sx
set_option maxRecDepth 100000
set_option maxHeartbeats 2000000
open Go.RowKit Go.Sort
theorem mV:(Tryz.prog.info? 5).map (fun i=>(i.zero,i.size,i.bytes))=some (some (.int .u8 0),1,1):=by kernel_rfl
def lB:Go.Shelf.Ren:=⟨fun|240=>95|276=>131|n=>n,fun|0=>0|4=>4|9=>9|20=>20|70=>40|72=>43|37=>41|5=>5|164=>138|n=>n,fun|n=>n⟩
theorem lO:Lays.n240 Tryz.prog lB:={
 mixed:=by kernel_rfl
 f240:=Tryz.func95.trans (congrArg some (by kernel_rfl))
 f276:=Tryz.func131.trans (congrArg some (by kernel_rfl))
 t0:=Tryz.underlying0
 a0:=Tryz.isAgg0
 z0:=Tryz.sizeOf0
 v0:=Tryz.zeroValue0
 t4:=Tryz.underlying4
 a4:=Tryz.isAgg4
 z4:=Tryz.sizeOf4
 v4:=Tryz.zeroValue4
 t9:=Tryz.underlying9
 a9:=Tryz.isAgg9
 z9:=Tryz.sizeOf9
 v9:=Tryz.zeroValue9
 t20:=Tryz.underlying20
 a20:=Tryz.isAgg20
 z20:=Tryz.sizeOf20
 v20:=Tryz.zeroValue20
 t70:=Tryz.underlying40
 a70:=Tryz.isAgg40
 z70:=Tryz.sizeOf40
 v70:=Tryz.zeroValue40
 t72:=Tryz.underlying43
 a72:=Tryz.isAgg43
 z72:=Tryz.sizeOf43
 v72:=Tryz.zeroValue43
 t164:=Tryz.underlying138
 a164:=Tryz.isAgg138
 z164:=Tryz.sizeOf138
 v164:=Tryz.zeroValue138 }
theorem ccX:Builder.X72 Tryz.prog lB:={
 sizeBuilder:=by kernel_rfl
 liesBuilder:=by kernel_rfl }
theorem jX (b:Nat)(w:World)(h0:w.cell? ⟨b,0,none⟩=some (.pointer (some ⟨b,0,none⟩))) :
  Calls Tryz.prog 95 #[.pointer (some ⟨b,0,none⟩)] w fun e w'=>e=.returned (.tuple #[])/\w'=w:=Any.Builder_copyCheck_used lO ccX b w h0
theorem Wy:(Tryz.prog.info? 43).map (·.size)=some 2:=by kernel_rfl
theorem Wz:liesAt Tryz.prog Tryz.prog.depth 45 (2 / Tryz.prog.cellsOf 45) 0 43 1=true:=by kernel_rfl
theorem gT (b:Nat)(w:World)(h0:w.cell? ⟨b,0,none⟩=some (.pointer none))(hsh:w.shape? b=some (45,2))(hfz:w.frozen? ⟨b,0,none⟩=false) :
  Calls Tryz.prog 95 #[.pointer (some ⟨b,0,none⟩)] w fun e w'=>e=.returned (.tuple #[])/\w'=w.setCell ⟨b,0,none⟩ (.pointer (some ⟨b,0,none⟩)):=by
 obtain⟨j,c,a⟩:=Option.map_eq_some_iff.1 Wy;go_enter Tryz.func95,Tryz.ntmps95
 go_wp2
 rw[Lib.run_to_unsafe w ⟨b,0,none⟩ Tryz.underlying40 Tryz.underlying138 c (by rw[a];decide) hsh (Nat.zero_lt_succ 1)];simp only[Result.andThen];rw[Oper.upon_value];go_wp2
 rw[run_callFunc_extern Tryz.func131 (by kernel_rfl) (by kernel_rfl) (by kernel_rfl) (e:=Extern.AbiNoEscape.same) (by kernel_rfl)];rw[Lib.run_noEscape];simp only[Result.andThen];rw[Oper.upon_value];go_wp2
 rw[Lib.run_from_unsafe w ⟨b,0,none⟩ Tryz.underlying138 Tryz.underlying40 c hsh Wz];simp only[Result.andThen];rw[Oper.upon_value];go_wp2
 go_end0
 exact⟨rfl,rfl⟩
theorem lP (B b:Nat)(bs:List Value)(w:World)(h:Lib.IsBuilder 45 5 B b bs w) :
  Calls Tryz.prog 95 #[.pointer (some ⟨b,0,none⟩)] w fun e w'=>e=.returned (.tuple #[])/\(Lib.BuilderAt 45 5 B b (.pointer (some ⟨b,0,none⟩)) bs w'/\Below B w w'/\Lib.OthersKept 5 (some b) w w'):=by
 rcases h with h|h
 ·refine(gT b w h.cell0 h.shape h.frozen0).mono ?_;rintro e w' ⟨rfl,rfl⟩;exact⟨rfl,h.used _,(Below.refl B w).setCell h.1 _,(Lib.OthersKept.refl _ _ w).setCell ⟨b,0,none⟩ rfl _⟩
 ·refine(jX b w h.cell0).mono ?_;rintro e w' ⟨rfl,rfl⟩;exact⟨rfl,h,Below.refl B _,Lib.OthersKept.refl _ _ _⟩
theorem lQ (B b:Nat)(bs:List Value)(s:ByteArray)(w:World)(h:Lib.IsBuilder 45 5 B b bs w)(hlen:bs.length+s.size<=140737488355328)(hBw:B<=w.heap.size) :
  Calls Tryz.prog 63 #[.pointer (some ⟨b,0,none⟩),.string s] w fun e w'=>e=.returned (.tuple #[.int .i64 s.size,.nilIface])/\(Lib.BuilderAt 45 5 B b (.pointer (some ⟨b,0,none⟩)) (bs++Lib.strCells s) w'/\Below B w w'/\Lib.OthersKept 5 (some b) w w'):=by
 obtain⟨G,F,t,u,x⟩:=info_parts mV;go_enter Tryz.func63,Tryz.ntmps63
 go_wp2_with fail
 refine(lP B b bs _ h).mono ?_;rintro e m ⟨rfl,E,l,o⟩;obtain⟨A,v,i,c,q⟩:=E;have I:m.cell? ⟨b,0,none⟩=some (.pointer (some ⟨b,0,none⟩)):=by rw[Lib.cell_of_heap i];rfl
 have J:m.cell? ⟨b,1,none⟩=some v:=by rw[Lib.cell_of_heap i];rfl
 go_wp2_with (at_builtin;refine Lib.wpList_append_own_string _ rfl _ _ 41 9 rfl B 5 G Tryz.underlying41 Tryz.underlying9 F t u x _ _ _ rfl c s rfl ?c3 ?c4 ?c5 ?_)
 case c3=>unfold maxLen;omega
 case c4=>omega
 case c5=>have:=l.size;omega
 intro H y d a _;have p:b<m.heap.size:=by
  rcases Nat.lt_or_ge b m.heap.size with n|n
  ·exact n
  ·simp[Array.getElem?_eq_none n] at i
 have f:y.heap[b]?=some (.cells #[.pointer (some ⟨b,0,none⟩),v] 45 (0,0)):=by
  rw[a.block b p (fun e=>q e.symm)];exact i
 have K:y.cell? ⟨b,0,none⟩=some (.pointer (some ⟨b,0,none⟩)):=by rw[Lib.cell_of_heap f];rfl
 have L:y.cell? ⟨b,1,none⟩=some v:=by rw[Lib.cell_of_heap f];rfl
 have M:=Lib.frozen_of_heap f 1;obtain⟨z,C,j,rfl⟩:∃z C j,H=.slice z C j:=by
  rcases d.2 with⟨r,_⟩|⟨g,j,D,r,_⟩
  ·exact⟨_,_,_,r⟩
  ·exact⟨_,_,_,r⟩
 go_wp2
 go_ret2
 refine⟨rfl,?_,?_,?_⟩
 ·exact Lib.BuilderAt.put A f (by simpa [Lib.strCells_length] using d) (by decide)
 ·exact(l.grown a (by have:=l.size;omega) (fun k hk=>(c.lt k hk).1)).setCell A _
 ·exact(o.grown a (fun g hg=>Lib.ownsRow_kind c g hg)).setCell _ rfl _
structure Bld (B b:Nat)(l:List UInt8)(w:World):Prop where
 is:Lib.IsBuilder 45 5 B b (Lib.byteCells l) w
 low:B<=w.heap.size
 tab : Lib.TabIs Tryz.prog w "internal/strconv.uint64pow10" .u64 Lib.pow10Tab
 glob:1<B
theorem Qo : Tryz.prog.globalNamed "internal/strconv.uint64pow10" = some 1 := by kernel_rfl
theorem gU {w w':World}{B:Nat}{e:TypeId}{v:Value}{n:Nat}{xs:List Value}(h:w.ownsRow B e 1 v n xs)(hb:Below w.heap.size w w'):w'.ownsRow B e 1 v n xs:=by
 refine⟨h.1,?_⟩;rcases h.2 with q|⟨g,a,b,c,d,f,i⟩
 ·exact .inl q
 ·exact .inr ⟨g,a,b,c,d,Below.blockAt hb f,i⟩
theorem cM {w w':World}{T e:TypeId}{B b:Nat}{p:Value}{bs:List Value}(h:Lib.BuilderAt T e B b p bs w)(hb:Below w.heap.size w w'):Lib.BuilderAt T e B b p bs w':=by
 obtain⟨a,v,c,d,f⟩:=h;exact⟨a,v,Below.blockAt hb c,gU d hb,f⟩
theorem K9 {w w' : World} {B : Nat} (hb : Below B w w') (hg : 1 < B) (h : Lib.TabIs Tryz.prog w "internal/strconv.uint64pow10" .u64 Lib.pow10Tab) : Lib.TabIs Tryz.prog w' "internal/strconv.uint64pow10" .u64 Lib.pow10Tab := by
 unfold Lib.TabIs World.var? at h |-;rw[Qo] at h |-;simp only[Option.bind_some] at h |-;rw[hb.block 1 hg];exact h
theorem Bld.grew {B b:Nat}{l:List UInt8}{w w':World}(h:Bld B b l w)(hg:Ad w w'):Bld B b l w':=by
 have a:=hg.below;refine⟨?_,Nat.le_trans h.low a.size,K9 a (Nat.lt_of_lt_of_le h.glob h.low) h.tab,h.glob⟩;rcases h.is with q|q
 ·exact .inl (cM q a)
 ·exact .inr (cM q a)
theorem lR {B:Nat}{w w':World}(hg:Ad w w')(hl:B<=w.heap.size):Below B w w' :=
 ⟨hg.below.os,hg.below.tape,hg.below.output,hg.below.size,fun k hk=>hg.below.block k (Nat.lt_of_lt_of_le hk hl)⟩
theorem frB {B:Nat}{w w':World}(h:Below B w w'):Fr (·<B) w w':=⟨h.os,h.tape,h.output,h.size,fun i _ hp=>h.block i hp⟩
def Kp (B b:Nat)(w w':World):Prop:=Below B w w'/\Lib.OthersKept 5 (some b) w w'
theorem Kp.refl (B b:Nat)(w:World):Kp B b w w:=⟨Below.refl B w,Lib.OthersKept.refl _ _ _⟩
theorem Kp.trans {B b:Nat}{w1 w2 w3:World}(h:Kp B b w1 w2)(k:Kp B b w2 w3):Kp B b w1 w3:=⟨h.1.trans k.1,h.2.trans k.2⟩
theorem Kp.grew {B b:Nat}{w w':World}(hg:Ad w w')(hl:B<=w.heap.size):Kp B b w w':=⟨lR hg hl,fun _ _ h _ _=>Below.blockAt hg.below h⟩
theorem Bld.lt {B b:Nat}{l:List UInt8}{w:World}(h:Bld B b l w):b<w.heap.size:=by
 rcases h.is with q|q
 ·exact q.lt
 ·exact q.lt
theorem Kp.kept {B b k:Nat}{w w':World}(h:Kp B b w w'){vs:Array Value}{T:TypeId}(hT:T≠5)(hk:w.heap[k]?=some (.cells vs T (0,0)))(hb:k≠b):w'.heap[k]?=some (.cells vs T (0,0)) :=
 h.2 k _ hk (by simpa using hb) (fun c fz e=>by injection e with _ e2 _;exact absurd e2 hT)
def Ae (B b:Nat)(l t:List UInt8)(w w':World):Prop:=Bld B b (l++t) w'/\Kp B b w w'
def Ay (B b:Nat)(l t:List UInt8)(w:World)(e:Ending)(w':World):Prop:=e=.returned (.tuple #[])/\Ae B b l t w w'
theorem lS (B b:Nat)(l:List UInt8)(s:ByteArray)(w:World)(h:Bld B b l w)(hlen:l.length+s.size<=140737488355328) :
  Calls Tryz.prog 63 #[.pointer (some ⟨b,0,none⟩),.string s] w fun e w'=>(∃k:Nat,e=.returned (.tuple #[.int .i64 k,.nilIface]))/\Ae B b l s.data.toList w w':=by
 refine(lQ B b (Lib.byteCells l) s w h.is (by rw[Lib.byteCells_length];exact hlen) h.low).mono ?_;rintro e w' ⟨rfl,c,a,d⟩;exact⟨⟨_,rfl⟩,⟨.inr (by rw[Lib.byteCells_append];exact c),Nat.le_trans h.low a.size,K9 a h.glob h.tab,h.glob⟩,a,d⟩
def De (ss:List ByteArray):List UInt8:=ss.flatMap fun s=>s.data.toList
theorem S6 (ss:List ByteArray)(k:Nat)(s:ByteArray)(h:ss[k]?=some s):De (ss.take (k+1))=De (ss.take k)++s.data.toList:=by
 rw[List.take_add_one,h];simp[De]
theorem jY (ss:List ByteArray)(k:Nat):(De (ss.take k)).length<=(De ss).length:=by
 have:De ss=De (ss.take k)++De (ss.drop k):=by unfold De;rw[<- List.flatMap_append,List.take_append_drop]
 rw[this,List.length_append];omega
theorem Ae.nil {B b:Nat}{l:List UInt8}{w:World}(h:Bld B b l w):Ae B b l [] w w:=⟨by rw[List.append_nil];exact h,Kp.refl _ _ _⟩
theorem Ae.trans {B b:Nat}{l s t:List UInt8}{w1 w2 w3:World}(h:Ae B b l s w1 w2)(k:Ae B b (l++s) t w2 w3):Ae B b l (s++t) w1 w3:=⟨by rw[<- List.append_assoc];exact k.1,h.2.trans k.2⟩
theorem gV (B b g c:Nat)(l:List UInt8)(w:World)(ss:List ByteArray)(n:Nat)(hn:n=ss.length)(hn9:n<=1000)(hrow:w.heap[g]?=some (.cells (ss.map Value.string).toArray 9 (0,0)))(hgb:g≠b)(hB:Bld B b l w)(hlen:l.length+(De ss).length<=140737488355328) :
  Calls Tryz.prog 30 #[.pointer (some ⟨b,0,none⟩),.slice (some ⟨g,0,none⟩) n c] w (Ay B b l (De ss) w):=by
 have p:Hid (w.heap[g]?=_):=hrow;have A:Hid (Bld B b l w):=hB;have h:Hid (n=ss.length):=hn;have j:Hid (Ae B b l (De (ss.take 0)) w w):=Ae.nil hB;clear hrow hB hn;go_enter Tryz.func30,Tryz.ntmps30
 go_wp2_with fail
 go_loopw [8] (fun i wr=>∃k:Nat,k<=n/\i=.int .i64 k/\Hid (Ae B b l (De (ss.take k)) w wr)) (fun i _=>n-(intOf i).toNat)
 case atStart=>exact⟨0,Nat.zero_le _,rfl,j⟩
 case round =>
  clear j;obtain⟨k,D,rfl,a⟩:=hrel;by_cases y:k<n
  ·obtain⟨s,d⟩:∃s,ss[k]?=some s:=⟨_,List.getElem?_eq_getElem (by have:=h.out;omega)⟩;have f:=a.out.2.kept (by decide) p.out hgb;have C:wr.cell? ⟨g,k,none⟩=some (.string s):=by
    rw[Aa f];simp[d]
   have x:g<wr.heap.size:=Ac f;have t:Hid (Calls _ _ _ _ _):=lS B b (l++De (ss.take k)) s wr a.out.1 (by
    have v:=jY ss (k+1);rw[S6 ss k s d,List.length_append] at v;rw[List.length_append];have:s.data.toList.length=s.size:=by simp
    omega)
   have r:Hid (De (ss.take (k+1))=_):=S6 ss k s d;clear d f;go_wp2_with (go_at_call 63;refine t.out.mono ?_;rintro e z ⟨⟨q,rfl⟩,o⟩;have u:Hid (Ae B b l (De (ss.take (k+1))) w z):=(by show Ae _ _ _ _ _ _;rw[r.out];exact a.out.trans o);clear o)
   go_roundw
   case rel=>exact⟨k+1,by omega,by go_num,u⟩
   case measure=>simp[intOf];omega
  ·obtain rfl:k=n:=by omega
   have m:ss.take k=ss:=List.take_of_length_le (by have:=h.out;omega);rw[m] at a;clear m;go_wp2_with fail
   go_end0
   exact⟨rfl,a.out⟩
theorem Aw (B b:Nat)(l:List UInt8)(w:World)(vs:Array Value)(ss:List ByteArray)(n:Nat)(T:List UInt8)(hvs:vs=(ss.map Value.string).toArray)(hn:n=ss.length)(hn9:n<=1000)(hT:T=De ss)(hB:Bld B b l w)(hlen:l.length+T.length<=140737488355328) :
  Calls Tryz.prog 30 #[.pointer (some ⟨b,0,none⟩),.slice (some ⟨w.heap.size,0,none⟩) n n] (w.alloc (.cells vs 9)) (Ay B b l T w):=by
 subst hvs hT;have d:=hB.lt;refine(gV B b w.heap.size n l (w.alloc (.cells (ss.map Value.string).toArray 9)) ss n hn hn9 (Af rfl) (by omega) (hB.grew ((Ad.refl w).alloc _)) hlen).mono ?_;rintro e f ⟨rfl,a,c⟩;exact⟨rfl,a,(Kp.grew ((Ad.refl w).alloc _) hB.low).trans c⟩
end Go.Proofs.YtjbfcadeapphbaaGreatDoor.Sx
namespace Go.Proofs.YtjbfcadeapphbaaGreatDoor.Sx
set_option maxRecDepth 100000
set_option maxHeartbeats 1000000
open Go.RowKit Go.Sort
def Ec (op:List UInt8):Nat:=if Ak op≠0 then Ak op else if op=oAt\/op=Zg then 13 else if op=Zh then 12 else if op=Ki then 14 else C6 op
theorem Ry {op:List UInt8}{kids:List PX}{x:PX}(h:Mv op kids x):Ec op=x.rk:=by
 rcases h with⟨d,a,b,rfl,rfl⟩|⟨rfl,rfl⟩|⟨rfl,rfl⟩|⟨rfl,rfl⟩|⟨rfl,f,k,rfl,rfl⟩|⟨rfl,f,k,v,rfl,rfl⟩|⟨rfl,a,rfl,rfl⟩|⟨c,a,rfl,rfl⟩|⟨c,a,rfl,rfl⟩|⟨c,rfl⟩
 ·have:Ak op≠0:=by
   simp only[E0,List.map_cons,List.map_nil,List.mem_cons,List.not_mem_nil,or_false] at d;rcases d with rfl|rfl|rfl|rfl|rfl|rfl|rfl|rfl|rfl|rfl|rfl|rfl|rfl|rfl|rfl|rfl|rfl|rfl|rfl|rfl|rfl|rfl|rfl|rfl|rfl<;>decide
  unfold Ec;rw[if_pos this];rfl
 ·show Ec gK=14;decide
 ·show Ec gL=14;decide
 ·show Ec Ki=14;decide
 ·show Ec oAt=13;decide
 ·show Ec Zg=13;decide
 ·show Ec Zh=12;decide
 ·show Ec op=6;simp only[En,List.mem_cons,List.not_mem_nil,or_false] at c;rcases c with rfl|rfl|rfl<;>decide
 ·show Ec op=12;simp only[Dq,List.mem_cons,List.not_mem_nil,or_false] at c;rcases c with rfl|rfl|rfl<;>decide
 ·show Ec op=14;simp only[Cs,List.mem_cons,List.not_mem_nil,or_false] at c;rcases c with rfl|rfl|rfl|rfl|rfl|rfl|rfl<;>decide
theorem Lb (a b c:Value)(w:World):(Instr.field 130 (.agg #[a,b,c]) 0).run Tryz.prog w=.ok a w:=by kernel_rfl
attribute [local go_sem] Lb
theorem Uu (w:World)(be sort at' len cap:Nat)(op nm:ByteArray)(n:Int)(pa:Option Addr)(he:Ar w be sort op nm n at' pa len cap) :
  Calls Tryz.prog 137 #[.pointer (some ⟨be,0,none⟩)] w fun e w'=>e=.returned (.int .i64 (Ec op.data.toList:Int))/\Ad w w':=by
 have x:Hid (Ar w be sort op nm n at' pa len cap):=he;have E:=Aa he 1;have s:Hid (Calls _ _ _ _ _):=H7 op w;have y:Hid (∀W:World,_):=fun W=>Fh op W;have a:op.toList=op.data.toList:=ByteArray.toList_eq op;clear he;have G:=follows;obtain⟨q,b⟩:∃q,Ec op.data.toList=q:=⟨_,rfl⟩;rw[b];have j:Hid (Ec op.data.toList=q):=b;clear b;by_cases o:Ak op.data.toList=0
 ·have d:Hid (Calls Tryz.prog 67 #[.string op] w fun e w'=>e=.returned (.agg #[.int .i64 (-1),.int .i64 0,.int .i64 0])/\Ad w w'):=by
   have:=s.out;unfold Kf at this;rw[if_pos o] at this;exact this
  have p:Hid (∀W,Ad w W->W.cell? ⟨be,1,none⟩=some (.string op)):=fun W g=>Aa (x.out.of (P:=fun _=>True) (Fr.grew g) trivial) 1;have b:=j.out;unfold Ec at b;rw[if_neg (by simpa using o)] at b;clear s o;cases i:(op.data.toList==oAt) with
  | true =>
   have A:(op.toList==[97,116])=true:=by rw[a];exact i
   rw[if_pos (.inl (eq_of_beq i))] at b;subst b;clear i a j;go_enter Tryz.func137,Tryz.ntmps137
   go_wp2_with (go_at_call 67;refine d.out.mono ?_;rintro e f ⟨rfl,c⟩;have t:=p.out f c;have h:Hid (Ad w f):=c;clear c)
   go_ret
   exact⟨rfl,h.out⟩
  | false =>
   have A:(op.toList==[97,116])=false:=by rw[a];exact i
   cases k:(op.data.toList==Zg) with
   | true =>
    have B:(op.toList==[112,117,116])=true:=by rw[a];exact k
    rw[if_pos (.inr (eq_of_beq k))] at b;subst b;clear i k a j;go_enter Tryz.func137,Tryz.ntmps137
    go_wp2_with (go_at_call 67;refine d.out.mono ?_;rintro e f ⟨rfl,c⟩;have t:=p.out f c;have h:Hid (Ad w f):=c;clear c)
    go_ret
    exact⟨rfl,h.out⟩
   | false =>
    have B:(op.toList==[112,117,116])=false:=by rw[a];exact k
    rw[if_neg (fun q=>by rcases q with q|q<;>simp[q] at i k)] at b;cases l:(op.data.toList==Zh) with
    | true =>
     have C:(op.toList==[110,101,103])=true:=by rw[a];exact l
     rw[if_pos (eq_of_beq l)] at b;subst b;clear i k l a j;go_enter Tryz.func137,Tryz.ntmps137
     go_wp2_with (go_at_call 67;refine d.out.mono ?_;rintro e f ⟨rfl,c⟩;have t:=p.out f c;have h:Hid (Ad w f):=c;clear c)
     go_ret
     exact⟨rfl,h.out⟩
    | false =>
     have C:(op.toList==[110,101,103])=false:=by rw[a];exact l
     rw[if_neg (fun q=>by simp[q] at l)] at b;cases m:(op.data.toList==Ki) with
     | true =>
      have D:(op.toList==[102,117,110])=true:=by rw[a];exact m
      rw[if_pos (eq_of_beq m)] at b;subst b;clear i k l m a j;go_enter Tryz.func137,Tryz.ntmps137
      go_wp2_with (go_at_call 67;refine d.out.mono ?_;rintro e f ⟨rfl,c⟩;have t:=p.out f c;have h:Hid (Ad w f):=c;clear c)
      go_ret
      exact⟨rfl,h.out⟩
     | false =>
      have D:(op.toList==[102,117,110])=false:=by rw[a];exact m
      rw[if_neg (fun q=>by simp[q] at m)] at b;have u:Hid (C6 op.data.toList=q):=b;clear i k l m a j b;go_enter Tryz.func137,Tryz.ntmps137
      go_wp2_with (first|(go_at_call 67;refine d.out.mono ?_;rintro e f ⟨rfl,c⟩;have t:=p.out f c;have h:Hid (Ad w f):=c;clear c)|(go_at_call 65;refine(y.out _).mono ?_;rintro e H ⟨rfl,z⟩;cases z))
      go_ret
      exact⟨by rw[u.out];rfl,h.out⟩
 ·have d:Hid (Calls Tryz.prog 67 #[.string op] w fun e w'=>e=.returned (.agg #[.int .i64 (Ak op.data.toList:Int),.int .i64 (Cv (Ak op.data.toList):Int),.int .i64 (Ca (Ak op.data.toList):Int)])/\Ad w w'):=by
   have:=s.out;unfold Kf at this;rw[if_neg o] at this;exact this
  have b:=j.out;unfold Ec at b;rw[if_pos o] at b;obtain⟨v,r⟩:∃v,Ak op.data.toList=v:=⟨_,rfl⟩;rw[r] at d b;subst b;have F:((v:Int) != -1)=true:=by rw[bne_iff_ne];omega
  clear s o j r a;go_enter Tryz.func137,Tryz.ntmps137
  go_wp2_with (go_at_call 67;refine d.out.mono ?_;rintro e f ⟨rfl,c⟩;have h:Hid (Ad w f):=c;clear c)
  go_ret
  exact⟨rfl,h.out⟩
theorem jZ (op nm:List UInt8)(a b:PX)(ho:op∈Jj\/op∈Dr):C6 op=(C7 op nm a b).rk:=by
 simp only[Jj,Dr,List.mem_cons,List.not_mem_nil,or_false] at ho;rcases ho with(rfl|rfl|rfl|rfl)|(rfl|rfl)<;>rfl
theorem Zt (w:World)(be sort at' len cap:Nat)(op nm:ByteArray)(n:Int)(pa:Option Addr)(kids:List PX)(x:PX)(he:Ar w be sort op nm n at' pa len cap)(hm:Oi sort op.data.toList nm.data.toList n kids x) :
  Calls Tryz.prog 100 #[.pointer (some ⟨be,0,none⟩)] w fun e w'=>e=.returned (.int .i64 (x.rk:Int))/\Ad w w':=by
 have o:=Aa he 0;have p:=Aa he 1;have f:Hid (Calls _ _ _ _ _):=Uu w be sort at' len cap op nm n pa he;have k:Hid (Calls _ _ _ _ _):=Fh op w;clear he;have q:=follows;rcases hm with⟨rfl,-,-,rfl⟩|⟨rfl,rfl⟩|⟨rfl,rfl⟩|⟨rfl,rfl⟩|⟨rfl,rfl⟩|⟨rfl,rfl⟩|⟨rfl,rfl⟩|⟨rfl,rfl⟩|⟨rfl,a,b,c,rfl,rfl⟩|⟨rfl,a,b,rfl,rfl⟩|⟨rfl,h,a,b,rfl,rfl⟩|⟨l,d⟩
 case inr.inr.inr.inr.inr.inr.inr.inr.inr.inr.inl =>
  rw[<- jZ _ nm.data.toList a b h];clear h;go_enter Tryz.func100,Tryz.ntmps100
  go_wp2_with (go_at_call 65;refine k.out.mono ?_;rintro e i ⟨rfl,m⟩;cases m)
  go_ret
  exact⟨rfl,Ad.refl _⟩
 case inr.inr.inr.inr.inr.inr.inr.inr.inr.inr.inr =>
  rw[<- Ry d];clear d;rcases l with rfl|rfl
  all_goals
   go_enter Tryz.func100,Tryz.ntmps100
   go_wp2_with (go_at_call 137;refine f.out.mono ?_;rintro e i ⟨rfl,g⟩;have j:Hid (Ad w i):=g;clear g)
   go_ret
   exact⟨rfl,j.out⟩
 all_goals
  go_enter Tryz.func100,Tryz.ntmps100
  go_wp2_with fail
  go_ret
  exact⟨rfl,Ad.refl _⟩
end Go.Proofs.YtjbfcadeapphbaaGreatDoor.Sx
namespace Go.Proofs.YtjbfcadeapphbaaGreatDoor.Sx
set_option maxRecDepth 100000
set_option maxHeartbeats 1000000
open Go.RowKit Go.Sort
def WrE (n:Nat):Prop:=∀(B b:Nat)(l:List UInt8)(w:World)(x:PX)(v:Value),Bt (·<B) w n x v->Bld B b l w->l.length+x.tx.length<=140737488355328->Calls Tryz.prog 15 #[.pointer (some ⟨b,0,none⟩),v] w (Ay B b l x.tx w)
theorem Bt.kp {B b n:Nat}{w w':World}{x:PX}{v:Value}(h:Bt (·<B) w n x v)(k:Kp B b w w'):Bt (·<B) w' n x v:=Bt.fr (frB k.1) (fun _ _ q=>q) n x v h
theorem Bw.kp {B b n:Nat}{w w':World}{a:Option Addr}{len:Nat}{es:List PX}(h:Bw (·<B) w (Bt (·<B) w n) a len es)(k:Kp B b w w'):Bw (·<B) w' (Bt (·<B) w' n) a len es:=Bw.fr (frB k.1) (fun _ _ h=>h.kp k) (fun _ _ q=>q) h
theorem Ar.kp {B b be sort at' len cap:Nat}{op nm:ByteArray}{n:Int}{pa:Option Addr}{w w':World}(h:Ar w be sort op nm n at' pa len cap)(k:Kp B b w w')(hb:be<B):Ar w' be sort op nm n at' pa len cap:=h.of (frB k.1) hb
theorem Ae.kp {B b:Nat}{l t:List UInt8}{w w':World}(h:Ae B b l t w w'):Kp B b w w':=h.2
theorem Ae.grew {B b:Nat}{l t:List UInt8}{w w' w2:World}(h:Ae B b l t w w')(g:Ad w' w2):Ae B b l t w w2:=⟨h.1.grew g,h.2.trans (Kp.grew g h.1.low)⟩
theorem Ae.put {B b:Nat}{l t s u:List UInt8}{w w1 w2:World}(h:Ae B b l t w w1)(k:Ae B b (l++t) s w1 w2)(e:t++s=u):Ae B b l u w w2:=by rw[<- e];exact h.trans k
theorem Gb {n:Nat}(hW:WrE n)(B b:Nat)(l:List UInt8)(w:World)(x:PX)(v:Value)(q:Nat)(hx:Bt (·<B) w n x v)(hB:Bld B b l w)(hlen:l.length+(Al x q).length<=140737488355328) :
  Calls Tryz.prog 66 #[.pointer (some ⟨b,0,none⟩),v,.int .i64 (q:Int)] w (Ay B b l (Al x q) w):=by
 have C:Hid (Bt (·<B) w n x v):=hx;have L:Hid (Bld B b l w):=hB;have A:Hid (WrE n):=hW;obtain⟨g,rfl,o⟩:∃g,v=.pointer (some ⟨g,0,none⟩)/\Hid (Calls Tryz.prog 100 #[.pointer (some ⟨g,0,none⟩)] w fun e w'=>e=.returned (.int .i64 (x.rk:Int))/\Ad w w'):=by
  cases n with
  | zero=>exact absurd hx id
  | succ n =>
   obtain⟨g,k,I,H,i,a,J,z,u,j,rfl,M,F,N,G⟩:=hx;exact⟨g,rfl,Zt w g k a z u I H i J j x F G⟩
 have p:Hid (Ae B b l [] w w):=Ae.nil hB;clear hx hB hW;unfold Al at hlen |-;by_cases r:x.rk<q
 ·rw[if_pos r] at hlen |-;have y:¬(q:Int)<=(x.rk:Int):=by omega
  clear r;simp only[List.length_cons,List.length_append,List.length_nil] at hlen;go_enter Tryz.func66,Tryz.ntmps66
  go_wp2_with (go_at_call 100;refine o.out.mono ?_;rintro e m ⟨rfl,h⟩;have d:Hid (Ae B b l [] w m):=p.out.grew h;clear h)
  refine(Aw B b (l++[]) m _ [⟨#[40]⟩] 1 [40] rfl rfl (by decide) rfl d.out.1 (by simp;omega)).mono ?_;rintro e s ⟨rfl,c⟩;have f:Hid (Ae B b l [40] w s):=d.out.put c rfl;clear c d p o;go_wp2_with fail
  refine(A.out B b (l++[40]) s x _ (C.out.kp f.out.kp) f.out.1 (by simp;omega)).mono ?_;rintro e D ⟨rfl,c⟩;have t:Hid (Ae B b l (40::x.tx) w D):=f.out.put c rfl;clear c f;go_wp2_with fail
  refine(Aw B b (l++(40::x.tx)) D _ [⟨#[41]⟩] 1 [41] rfl rfl (by decide) rfl t.out.1 (by simp;omega)).mono ?_;rintro e K ⟨rfl,c⟩;have E:Hid (Ae B b l (40::(x.tx++[41])) w K):=t.out.put c rfl;clear c t;go_wp2_with fail
  go_end0
  exact⟨rfl,E.out⟩
 ·rw[if_neg r] at hlen |-;have y:(q:Int)<=(x.rk:Int):=by omega
  clear r;go_enter Tryz.func66,Tryz.ntmps66
  go_wp2_with (go_at_call 100;refine o.out.mono ?_;rintro e m ⟨rfl,h⟩;have d:Hid (Ae B b l [] w m):=p.out.grew h;clear h)
  refine(A.out B b (l++[]) m x _ (C.out.kp d.out.kp) d.out.1 (by simp;omega)).mono ?_;rintro e s ⟨rfl,c⟩;have f:Hid (Ae B b l x.tx w s):=d.out.put c rfl;clear c d p o;go_wp2_with fail
  refine bodyPost_ret (results_none rfl _ _ _) rfl ?_;exact⟨rfl,f.out⟩
def Ip (sep:Nat->List UInt8)(kids:List PX)(k:Nat):List UInt8:=Bh sep 0 ((kids.take k).map PX.tx)
theorem J3 (sep:Nat->List UInt8)(a:List UInt8):∀(l:List (List UInt8))(i:Nat),Bh sep i (l++[a])=Bh sep i l++(sep (i+l.length)++a)
 | [],i=>by simp[Bh]
 | c::l,i=>by
  have:=J3 sep a l (i+1);simp only[List.cons_append,Bh,List.length_cons] at this |-;rw[this,show i+1+l.length=i+(l.length+1) from by omega];simp
theorem S7 (sep:Nat->List UInt8)(kids:List PX)(k:Nat)(x:PX)(h:kids[k]?=some x):Ip sep kids (k+1)=Ip sep kids k++(sep k++x.tx):=by
 have a:=(List.getElem?_eq_some_iff.1 h).1;unfold Ip;rw[List.take_add_one,h,Option.toList_some,List.map_append,List.map_cons,List.map_nil,J3];simp only[List.length_map,List.length_take,Nat.zero_add];rw[show min k kids.length=k from by omega]
theorem Xa (sep:Nat->List UInt8)(kids:List PX)(k:Nat)(h:kids.length<=k):Ip sep kids k=Bh sep 0 (kids.map PX.tx):=by
 unfold Ip;rw[List.take_of_length_le h]
theorem Lz (sep:Nat->List UInt8):∀(l m:List (List UInt8))(i:Nat),(Bh sep i l).length<=(Bh sep i (l++m)).length
 | [],m,i=>by simp[Bh]
 | c::l,m,i=>by
  have:=Lz sep l m (i+1);simp only[List.cons_append,Bh,List.length_append] at this |-;omega
theorem cN (sep:Nat->List UInt8)(kids:List PX)(k:Nat):(Ip sep kids k).length<=(Bh sep 0 (kids.map PX.tx)).length:=by
 have:=Lz sep ((kids.take k).map PX.tx) ((kids.drop k).map PX.tx) 0;rw[<- List.map_append,List.take_append_drop] at this;exact this
theorem cO {P:Nat->Prop}{w:World}{R:PX->Value->Prop}{a:Option Addr}{len:Nat}{es:List PX}(h:Bw P w R a len es){k:Nat}(hk:k<len):∃b off x v,a=some ⟨b,off,none⟩/\b<w.heap.size/\es[k]?=some x/\w.cell? ⟨b,off+k,none⟩=some v/\R x v:=by
 obtain⟨l,-,d⟩:=h;obtain⟨b,off,e,g,-,f⟩:=d.resolve_left (by omega);obtain⟨x,c⟩:∃x,es[k]?=some x:=⟨_,List.getElem?_eq_getElem (by omega)⟩;obtain⟨v,j,i⟩:=f k x c;exact⟨b,off,x,v,e,g,c,j,i⟩
theorem Bt.ptr {P:Nat->Prop}{w:World}{n:Nat}{x:PX}{v:Value}(h:Bt P w n x v):∃b,v=.pointer (some ⟨b,0,none⟩):=by
 obtain⟨b,a,-⟩:=Ah.ptr ⟨n,h⟩;exact⟨b,a⟩
theorem Lc {n:Nat}(hW:WrE n)(B b:Nat)(l:List UInt8)(w:World)(op cl:ByteArray)(pa:Option Addr)(len cap:Nat)(kids:List PX)(hr:Bw (·<B) w (Bt (·<B) w n) pa len kids)(hB:Bld B b l w)
  (hlen:l.length+(op.data.toList++(Cx kids++cl.data.toList)).length<=140737488355328) :
  Calls Tryz.prog 32 #[.pointer (some ⟨b,0,none⟩),.string op,.slice pa len cap,.string cl] w (Ay B b l (op.data.toList++(Cx kids++cl.data.toList)) w):=by
 have G:Hid (Bw (·<B) w (Bt (·<B) w n) pa len kids):=hr;have E:Hid (Bld B b l w):=hB;have z:Hid (WrE n):=hW;have F:Hid (len=kids.length):=hr.1;have K:len<=4294967296:=hr.2.1;have r:op.data.toList.length=op.size:=by simp
 have s:cl.data.toList.length=cl.size:=by simp
 simp only[List.length_append] at hlen;have u:Hid (l.length+(op.data.toList.length+((Cx kids).length+cl.data.toList.length))<=140737488355328):=hlen;clear hr hB hW hlen r s;go_enter Tryz.func32,Tryz.ntmps32
 go_wp2_with fail
 refine(Aw B b l w _ [op] 1 op.data.toList rfl rfl (by decide) (by simp[De]) E.out (by have:=u.out;omega)).mono ?_;rintro e O ⟨rfl,a⟩;have c:Hid (Ae B b l (op.data.toList++Ip Br kids 0) w O):=by
  show Ae _ _ _ _ _ _;rw[show Ip Br kids 0=[] from rfl,List.append_nil];exact a
 clear a;go_wp2_with fail
 go_loopw [16] (fun i wr=>∃k:Nat,k<=len/\i=.int .i64 k/\Hid (Ae B b l (op.data.toList++Ip Br kids k) w wr)) (fun i _=>len-(intOf i).toNat)
 case atStart=>exact⟨0,Nat.zero_le _,rfl,c⟩
 case round =>
  clear c;obtain⟨k,R,rfl,c⟩:=hrel;by_cases y:k<len
  ·obtain⟨S,N,x,v,rfl,L,D,M,h⟩:=cO (G.out.kp c.out.kp) y;obtain⟨Q,rfl⟩:=h.ptr;have t:Hid (Bt (·<B) wr n x _):=h;have j:=S7 Br kids k x D;have q:=cN Br kids (k+1);have p:(Cx kids).length=(Bh Br 0 (kids.map PX.tx)).length:=rfl;rw[j,List.length_append,List.length_append,<- p] at q;have f:Hid (Ip Br kids (k+1)=_):=j;have J:=u.out;have d:Hid ((l++(op.data.toList++Ip Br kids k)).length+((Br k).length+x.tx.length)<=140737488355328):=by
    show _<=_;simp only[List.length_append];omega
   clear D h j q p J;by_cases A:k=0
   ·subst A;rw[Nat.add_zero] at M;go_wp2_with fail
    refine(z.out B b _ wr x _ t.out c.out.1 (by have:=d.out;omega)).mono ?_;rintro e m ⟨rfl,a⟩;have g:Hid (Ae B b l (op.data.toList++Ip Br kids (0+1)) w m):=c.out.put a (by rw[f.out];simp[Br]);clear a c t f d;go_wp2_with fail
    go_roundw
    case rel=>exact⟨0+1,by omega,by go_num,g⟩
    case measure=>simp[intOf];omega
   ·have I:(0:Int)<(k:Int):=by omega
    have C:Br k=[44,32]:=by unfold Br;rw[if_neg A]
    rw[C] at d f;clear C;go_wp2_with fail
    refine(Aw B b _ wr _ [⟨#[44,32]⟩] 1 [44,32] rfl rfl (by decide) rfl c.out.1 (by have:=d.out;simp only[List.length_cons,List.length_nil] at this |-;omega)).mono ?_;rintro e m ⟨rfl,a⟩;have g:Hid (Ae B b l ((op.data.toList++Ip Br kids k)++[44,32]) w m):=c.out.put a rfl;have o:Hid (Bt (·<B) m n x _):=t.out.kp a.kp;clear a c t;go_wp2_with fail
    refine(z.out B b _ m x _ o.out g.out.1 (by have:=d.out;simp only[List.length_append,List.length_cons,List.length_nil] at this |-;omega)).mono ?_;rintro e P ⟨rfl,a⟩;have H:Hid (Ae B b l (op.data.toList++Ip Br kids (k+1)) w P):=g.out.put a (by rw[f.out];simp);clear a g o f d;go_wp2_with fail
    go_roundw
    case rel=>exact⟨k+1,by omega,by go_num,H⟩
    case measure=>simp[intOf];omega
  ·obtain rfl:k=len:=by omega
   rw[Xa Br kids k (by have:=F.out;omega)] at c;go_wp2_with fail
   refine(Aw B b _ wr _ [cl] 1 cl.data.toList rfl rfl (by decide) (by simp[De]) c.out.1 (by have:=u.out;simp only[List.length_append,Cx] at this |-;omega)).mono ?_;rintro e m ⟨rfl,a⟩;have g:Hid (Ae B b l (op.data.toList++(Cx kids++cl.data.toList)) w m):=c.out.put a (by simp[Cx]);clear a c;go_wp2_with fail
   go_end0
   exact⟨rfl,g.out⟩
theorem Rz {n:Nat}(hW:WrE n)(B b:Nat)(l:List UInt8)(w:World)(pa:Option Addr)(len cap:Nat)(kids:List PX)(hr:Bw (·<B) w (Bt (·<B) w n) pa len kids)(hB:Bld B b l w)
  (hlen:l.length+(91::(Bh C9 0 (kids.map PX.tx)++[93])).length<=140737488355328) :
  Calls Tryz.prog 68 #[.pointer (some ⟨b,0,none⟩),.slice pa len cap] w (Ay B b l (91::(Bh C9 0 (kids.map PX.tx)++[93])) w):=by
 have H:Hid (Bw (·<B) w (Bt (·<B) w n) pa len kids):=hr;have F:Hid (Bld B b l w):=hB;have u:Hid (WrE n):=hW;have G:Hid (len=kids.length):=hr.1;have K:len<=4294967296:=hr.2.1;simp only[List.length_append,List.length_cons,List.length_nil] at hlen;have t:Hid (l.length+((Bh C9 0 (kids.map PX.tx)).length+2)<=140737488355328):=by show _<=_;omega
 clear hr hB hW hlen;go_enter Tryz.func68,Tryz.ntmps68
 go_wp2_with fail
 refine(Aw B b l w _ [⟨#[91]⟩] 1 [91] rfl rfl (by decide) rfl F.out (by have:=t.out;simp;omega)).mono ?_;rintro e O ⟨rfl,a⟩;have f:Hid (Ae B b l (91::Ip C9 kids 0) w O):=a;clear a;go_wp2_with fail
 go_loopw [11] (fun i wr=>∃k:Nat,k<=len/\i=.int .i64 k/\Hid (Ae B b l (91::Ip C9 kids k) w wr)) (fun i _=>len-(intOf i).toNat)
 case atStart=>exact⟨0,Nat.zero_le _,rfl,f⟩
 case round =>
  clear f;obtain⟨k,Q,rfl,f⟩:=hrel;by_cases A:k<len
  ·obtain⟨R,N,x,v,rfl,L,E,M,m⟩:=cO (H.out.kp f.out.kp) A;obtain⟨P,rfl⟩:=m.ptr;have p:Hid (Bt (·<B) wr n x _):=m;have o:=S7 C9 kids k x E;have s:=cN C9 kids (k+1);rw[o,List.length_append,List.length_append] at s;have d:Hid (Ip C9 kids (k+1)=_):=o;have J:=t.out;have c:Hid ((l++(91::Ip C9 kids k)).length+((C9 k).length+x.tx.length)<=140737488355328):=by
    show _<=_;simp only[List.length_append,List.length_cons];omega
   clear E m o s J;by_cases q:k % 2=1
   ·have r:C9 k=[58,32]:=by unfold C9;rw[if_pos q]
    rw[r] at c d;have D:(k:Int).tmod 2=1:=by rw[Int.tmod_eq_emod_of_nonneg (by omega)];omega
    clear r q;go_wp2_with fail
    refine(Aw B b _ wr _ [⟨#[58,32]⟩] 1 [58,32] rfl rfl (by decide) rfl f.out.1 (by have:=c.out;simp only[List.length_cons,List.length_nil] at this |-;omega)).mono ?_;rintro e j ⟨rfl,a⟩;have h:Hid (Ae B b l ((91::Ip C9 kids k)++[58,32]) w j):=f.out.put a rfl;have g:Hid (Bt (·<B) j n x _):=p.out.kp a.kp;clear a f p;go_wp2_with fail
    refine(u.out B b _ j x _ g.out h.out.1 (by have:=c.out;simp only[List.length_append,List.length_cons,List.length_nil] at this |-;omega)).mono ?_;rintro e C ⟨rfl,a⟩;have y:Hid (Ae B b l (91::Ip C9 kids (k+1)) w C):=h.out.put a (by rw[d.out];simp);clear a h g d c;go_wp2_with fail
    go_roundw
    case rel=>exact⟨k+1,by omega,by go_num,y⟩
    case measure=>simp[intOf];omega
   have D:(k:Int).tmod 2=0:=by rw[Int.tmod_eq_emod_of_nonneg (by omega)];omega
   by_cases z:k=0
   ·subst z;rw[Nat.add_zero] at M;clear D q;go_wp2_with fail
    refine(u.out B b _ wr x _ p.out f.out.1 (by have:=c.out;omega)).mono ?_;rintro e j ⟨rfl,a⟩;have h:Hid (Ae B b l (91::Ip C9 kids (0+1)) w j):=f.out.put a (by rw[d.out];simp[C9]);clear a f p d c;go_wp2_with fail
    go_roundw
    case rel=>exact⟨0+1,by omega,by go_num,h⟩
    case measure=>simp[intOf];omega
   ·have I:(0:Int)<(k:Int):=by omega
    have r:C9 k=[44,32]:=by unfold C9;rw[if_neg q,if_neg z]
    rw[r] at c d;clear r q z;go_wp2_with fail
    refine(Aw B b _ wr _ [⟨#[44,32]⟩] 1 [44,32] rfl rfl (by decide) rfl f.out.1 (by have:=c.out;simp only[List.length_cons,List.length_nil] at this |-;omega)).mono ?_;rintro e j ⟨rfl,a⟩;have h:Hid (Ae B b l ((91::Ip C9 kids k)++[44,32]) w j):=f.out.put a rfl;have g:Hid (Bt (·<B) j n x _):=p.out.kp a.kp;clear a f p;go_wp2_with fail
    refine(u.out B b _ j x _ g.out h.out.1 (by have:=c.out;simp only[List.length_append,List.length_cons,List.length_nil] at this |-;omega)).mono ?_;rintro e C ⟨rfl,a⟩;have y:Hid (Ae B b l (91::Ip C9 kids (k+1)) w C):=h.out.put a (by rw[d.out];simp);clear a h g d c;go_wp2_with fail
    go_roundw
    case rel=>exact⟨k+1,by omega,by go_num,y⟩
    case measure=>simp[intOf];omega
  ·obtain rfl:k=len:=by omega
   rw[Xa C9 kids k (by have:=G.out;omega)] at f;go_wp2_with fail
   refine(Aw B b _ wr _ [⟨#[93]⟩] 1 [93] rfl rfl (by decide) rfl f.out.1 (by have:=t.out;simp only[List.length_append,List.length_cons,List.length_nil] at this |-;omega)).mono ?_;rintro e j ⟨rfl,a⟩;have h:Hid (Ae B b l (91::(Bh C9 0 (kids.map PX.tx)++[93])) w j):=f.out.put a (by simp);clear a f;go_wp2_with fail
   go_end0
   exact⟨rfl,h.out⟩
theorem mW {B n:Nat}{w:World}{pa:Option Addr}{len:Nat}{a:PX}(h:Bw (·<B) w (Bt (·<B) w n) pa len [a]) :
  len=1/\∃pb off,pa=some ⟨pb,off,none⟩/\pb<B/\pb<w.heap.size/\∃x0,w.cell? ⟨pb,off,none⟩=some (.pointer (some ⟨x0,0,none⟩))/\Bt (·<B) w n a (.pointer (some ⟨x0,0,none⟩)):=by
 obtain⟨b,-,f⟩:=h;simp at b;obtain⟨pb,off,e,j,i,g⟩:=f.resolve_left (by omega);obtain⟨k,d,c⟩:=g 0 a rfl;obtain⟨x0,rfl⟩:=c.ptr;exact⟨b,pb,off,e,i,j,x0,d,c⟩
theorem gW {B n:Nat}{w:World}{pa:Option Addr}{len:Nat}{a b:PX}(h:Bw (·<B) w (Bt (·<B) w n) pa len [a,b]) :
  len=2/\∃pb off,pa=some ⟨pb,off,none⟩/\pb<B/\pb<w.heap.size/\∃x0,w.cell? ⟨pb,off,none⟩=some (.pointer (some ⟨x0,0,none⟩))/\Bt (·<B) w n a (.pointer (some ⟨x0,0,none⟩)) /\
   ∃x1,w.cell? ⟨pb,off+1,none⟩=some (.pointer (some ⟨x1,0,none⟩))/\Bt (·<B) w n b (.pointer (some ⟨x1,0,none⟩)):=by
 obtain⟨c,-,k⟩:=h;simp at c;obtain⟨pb,off,e,m,l,d⟩:=k.resolve_left (by omega);obtain⟨o,i,f⟩:=d 0 a rfl;obtain⟨x0,rfl⟩:=f.ptr;obtain⟨p,j,g⟩:=d 1 b rfl;obtain⟨x1,rfl⟩:=g.ptr;exact⟨c,pb,off,e,l,m,x0,i,f,x1,j,g⟩
theorem mX {B n:Nat}{w:World}{pa:Option Addr}{len:Nat}{a b c:PX}(h:Bw (·<B) w (Bt (·<B) w n) pa len [a,b,c]) :
  len=3/\∃pb off,pa=some ⟨pb,off,none⟩/\pb<B/\pb<w.heap.size/\∃x0,w.cell? ⟨pb,off,none⟩=some (.pointer (some ⟨x0,0,none⟩))/\Bt (·<B) w n a (.pointer (some ⟨x0,0,none⟩)) /\
   ∃x1,w.cell? ⟨pb,off+1,none⟩=some (.pointer (some ⟨x1,0,none⟩))/\Bt (·<B) w n b (.pointer (some ⟨x1,0,none⟩)) /\
   ∃x2,w.cell? ⟨pb,off+2,none⟩=some (.pointer (some ⟨x2,0,none⟩))/\Bt (·<B) w n c (.pointer (some ⟨x2,0,none⟩)):=by
 obtain⟨f,-,o⟩:=h;simp at f;obtain⟨pb,off,e,q,p,d⟩:=o.resolve_left (by omega);obtain⟨r,k,g⟩:=d 0 a rfl;obtain⟨x0,rfl⟩:=g.ptr;obtain⟨s,l,i⟩:=d 1 b rfl;obtain⟨x1,rfl⟩:=i.ptr;obtain⟨t,m,j⟩:=d 2 c rfl;obtain⟨x2,rfl⟩:=j.ptr;exact⟨f,pb,off,e,p,q,x0,k,g,x1,l,i,x2,m,j⟩
theorem Xb {n:Nat}(hW:WrE n)(B b be sort at' len cap:Nat)(l:List UInt8)(w:World)(op nm:ByteArray)(i:Int)(pa:Option Addr)(ka kb kc:PX)(he:Ar w be sort op nm i at' pa len cap)(hbe:be<B)(hr:Bw (·<B) w (Bt (·<B) w n) pa len [ka,kb,kc])(hB:Bld B b l w)
  (hlen:l.length+((dIf ka kb kc).tx).length<=140737488355328) :
  Calls Tryz.prog 33 #[.pointer (some ⟨b,0,none⟩),.pointer (some ⟨be,0,none⟩)] w (Ay B b l ((dIf ka kb kc).tx) w):=by
 have x:Hid (Ar w be sort op nm i at' pa len cap):=he;have D:Hid (WrE n):=hW;have HB:Hid (Bld B b l w):=hB;have A:Hid (Ae B b l ([]:List UInt8) w w):=Ae.nil hB;have q:Hid (l.length+((dIf ka kb kc).tx).length<=140737488355328):=hlen;obtain⟨rfl,C,v,H,u,U,X,I,L,Y,J,M,Z,K,N⟩:=mX hr;subst H;have E:Hid (Bt (·<B) w n _ _):=L;have c:Hid (∀W,Kp B b w W->W.cell? ⟨C,v,none⟩=some (.pointer (some ⟨X,0,none⟩))):=fun W k=>(World.cell?_of_block (w:=w) (k.1.block C u)).trans I;have F:Hid (Bt (·<B) w n _ _):=M;have d:Hid (∀W,Kp B b w W->W.cell? ⟨C,v+1,none⟩=some (.pointer (some ⟨Y,0,none⟩))):=fun W k=>(World.cell?_of_block (w:=w) (k.1.block C u)).trans J;have G:Hid (Bt (·<B) w n _ _):=N;have f:Hid (∀W,Kp B b w W->W.cell? ⟨C,v+2,none⟩=some (.pointer (some ⟨Z,0,none⟩))):=fun W k=>(World.cell?_of_block (w:=w) (k.1.block C u)).trans K;clear I L J M K N;clear he hW hB hr hlen;simp only[dIf] at q |-;go_enter Tryz.func33,Tryz.ntmps33
 have g:=Aa (x.out.kp A.out.kp hbe) 5;have m:=c.out _ A.out.kp;have o:=d.out _ A.out.kp;have p:=f.out _ A.out.kp;go_wp2_with fail
 clear g m o p;refine(Aw B b _ w _ [⟨#[105,102,32]⟩] 1 [105,102,32] rfl rfl (by decide) (by simp[De]) A.out.1 (by have j:=q.out;simp only[List.length_append,List.length_cons,List.length_nil] at j |-;omega)).mono ?_;rintro e O ⟨rfl,a⟩;have r:Hid (Ae B b l (([]:List UInt8)++[105,102,32]) w O):=A.out.put a rfl;clear a;have g:=Aa (x.out.kp r.out.kp hbe) 5;have m:=c.out _ r.out.kp;have o:=d.out _ r.out.kp;have p:=f.out _ r.out.kp;go_wp2_with fail
 clear g m o p;refine(D.out B b _ O ka _ (E.out.kp r.out.kp) r.out.1 (by have j:=q.out;simp only[List.length_append,List.length_cons,List.length_nil] at j |-;omega)).mono ?_;rintro e P ⟨rfl,a⟩;have y:Hid (Ae B b l ((([]:List UInt8)++[105,102,32])++ka.tx) w P):=r.out.put a rfl;clear a;have g:=Aa (x.out.kp y.out.kp hbe) 5;have m:=c.out _ y.out.kp;have o:=d.out _ y.out.kp;have p:=f.out _ y.out.kp;go_wp2_with fail
 clear g m o p;refine(Aw B b _ P _ [⟨#[32,116,104,101,110,32]⟩] 1 [32,116,104,101,110,32] rfl rfl (by decide) (by simp[De]) y.out.1 (by have j:=q.out;simp only[List.length_append,List.length_cons,List.length_nil] at j |-;omega)).mono ?_;rintro e Q ⟨rfl,a⟩;have s:Hid (Ae B b l (((([]:List UInt8)++[105,102,32])++ka.tx)++[32,116,104,101,110,32]) w Q):=y.out.put a rfl;clear a;have g:=Aa (x.out.kp s.out.kp hbe) 5;have m:=c.out _ s.out.kp;have o:=d.out _ s.out.kp;have p:=f.out _ s.out.kp;go_wp2_with fail
 clear g m o p;refine(D.out B b _ Q kb _ (F.out.kp s.out.kp) s.out.1 (by have j:=q.out;simp only[List.length_append,List.length_cons,List.length_nil] at j |-;omega)).mono ?_;rintro e R ⟨rfl,a⟩;have z:Hid (Ae B b l ((((([]:List UInt8)++[105,102,32])++ka.tx)++[32,116,104,101,110,32])++kb.tx) w R):=s.out.put a rfl;clear a;have g:=Aa (x.out.kp z.out.kp hbe) 5;have m:=c.out _ z.out.kp;have o:=d.out _ z.out.kp;have p:=f.out _ z.out.kp;go_wp2_with fail
 clear g m o p;refine(Aw B b _ R _ [⟨#[32,101,108,115,101,32]⟩] 1 [32,101,108,115,101,32] rfl rfl (by decide) (by simp[De]) z.out.1 (by have j:=q.out;simp only[List.length_append,List.length_cons,List.length_nil] at j |-;omega)).mono ?_;rintro e S ⟨rfl,a⟩;have t:Hid (Ae B b l (((((([]:List UInt8)++[105,102,32])++ka.tx)++[32,116,104,101,110,32])++kb.tx)++[32,101,108,115,101,32]) w S):=z.out.put a rfl;clear a;have g:=Aa (x.out.kp t.out.kp hbe) 5;have m:=c.out _ t.out.kp;have o:=d.out _ t.out.kp;have p:=f.out _ t.out.kp;go_wp2_with fail
 clear g m o p;refine(D.out B b _ S kc _ (G.out.kp t.out.kp) t.out.1 (by have j:=q.out;simp only[List.length_append,List.length_cons,List.length_nil] at j |-;omega)).mono ?_;rintro e V ⟨rfl,a⟩;have T:Hid (Ae B b l ((((((([]:List UInt8)++[105,102,32])++ka.tx)++[32,116,104,101,110,32])++kb.tx)++[32,101,108,115,101,32])++kc.tx) w V):=t.out.put a rfl;clear a;go_wp2_with fail
 go_end0
 exact⟨rfl,by have h:=T.out;simpa using h⟩
theorem Zu {n:Nat}(hW:WrE n)(B b be sort at' len cap:Nat)(l:List UInt8)(w:World)(op nm:ByteArray)(i:Int)(pa:Option Addr)(ka kb:PX)(he:Ar w be sort op nm i at' pa len cap)(hbe:be<B)(hr:Bw (·<B) w (Bt (·<B) w n) pa len [ka,kb])(hB:Bld B b l w)(ho:C6 op.data.toList=0)
  (hlen:l.length+(Gv op.data.toList nm.data.toList ka kb).length<=140737488355328) :
  Calls Tryz.prog 34 #[.pointer (some ⟨b,0,none⟩),.pointer (some ⟨be,0,none⟩)] w (Ay B b l (Gv op.data.toList nm.data.toList ka kb) w):=by
 have a:Hid (Ar w be sort op nm i at' pa len cap):=he;have G:Hid (WrE n):=hW;have X:Hid (Bld B b l w):=hB;have d:Hid (Ae B b l ([]:List UInt8) w w):=Ae.nil hB;have Y:=follows;have v:Hid (l.length+(Gv op.data.toList nm.data.toList ka kb).length<=140737488355328):=hlen;obtain⟨rfl,z,y,F,x,Q,U,H,J,V,I,K⟩:=gW hr;subst F;have A:Hid (Bt (·<B) w n _ _):=J;have f:Hid (∀W,Kp B b w W->W.cell? ⟨z,y,none⟩=some (.pointer (some ⟨U,0,none⟩))):=fun W k=>(World.cell?_of_block (w:=w) (k.1.block z x)).trans H;have C:Hid (Bt (·<B) w n _ _):=K;have g:Hid (∀W,Kp B b w W->W.cell? ⟨z,y+1,none⟩=some (.pointer (some ⟨V,0,none⟩))):=fun W k=>(World.cell?_of_block (w:=w) (k.1.block z x)).trans I;clear H J I K;clear he hW hB hr hlen;have O:Hid (Calls Tryz.prog 65 #[.string op] w fun e w'=>e=.returned (.int .i64 0)/\w'=w):=by have:=Fh op w;rw[ho] at this;exact this
 clear ho;simp only[Gv] at v |-;go_enter Tryz.func34,Tryz.ntmps34
 have m:=Aa (a.out.kp d.out.kp hbe) 1;have o:=Aa (a.out.kp d.out.kp hbe) 2;have p:=Aa (a.out.kp d.out.kp hbe) 5;have q:=f.out _ d.out.kp;have r:=g.out _ d.out.kp;go_wp2_with (go_at_call 65;refine O.out.mono ?_;rintro e Z ⟨rfl,c⟩;cases c)
 clear m o p q r;have m:=Aa (a.out.kp d.out.kp hbe) 1;have o:=Aa (a.out.kp d.out.kp hbe) 2;have p:=Aa (a.out.kp d.out.kp hbe) 5;have q:=f.out _ d.out.kp;have r:=g.out _ d.out.kp;have E:=Ac (a.out.kp d.out.kp hbe);have D:Hid (Ae B b l ([]:List UInt8) w w.drew):=d.out.grew (Ad.refl _).drew;go_wp2_with fail
 go_region_held3 (fun w'=>w'.cell? ⟨be,1,none⟩=some (.string op)/\w'.cell? ⟨be,2,none⟩=some (.string nm)) (first|(constructor<;>assumption)|assumption|go_keep)
   ((go_at_call 30;refine(Aw B b _ w.drew _ [op,⟨#[32]⟩,nm,⟨#[32,105,110,32]⟩] 4 (op.data.toList++[32]++nm.data.toList++[32,105,110,32]) rfl rfl (by decide) (by simp[De]) D.out.1 (by have u:=v.out;simp only[List.length_append,List.length_cons,List.length_nil] at u |-;omega)).mono ?_;rintro e L ⟨rfl,c⟩;have j:Hid (Ae B b l (([]:List UInt8)++(op.data.toList++[32]++nm.data.toList++[32,105,110,32])) w L):=D.out.put c rfl;have R:=Aa (a.out.kp j.out.kp hbe) 1;have S:=Aa (a.out.kp j.out.kp hbe) 2;clear c))
 clear E D R S m o p q r;have m:=Aa (a.out.kp j.out.kp hbe) 1;have o:=Aa (a.out.kp j.out.kp hbe) 2;have p:=Aa (a.out.kp j.out.kp hbe) 5;have q:=f.out _ j.out.kp;have r:=g.out _ j.out.kp;go_wp2_with fail
 clear m o p q r;refine(Gb G.out B b _ L ka _ 8 (A.out.kp j.out.kp) j.out.1 (by have u:=v.out;simp only[List.length_append,List.length_cons,List.length_nil] at u |-;omega)).mono ?_;rintro e M ⟨rfl,c⟩;have t:Hid (Ae B b l ((([]:List UInt8)++(op.data.toList++[32]++nm.data.toList++[32,105,110,32]))++Al ka 8) w M):=j.out.put c rfl;clear c;have m:=Aa (a.out.kp t.out.kp hbe) 1;have o:=Aa (a.out.kp t.out.kp hbe) 2;have p:=Aa (a.out.kp t.out.kp hbe) 5;have q:=f.out _ t.out.kp;have r:=g.out _ t.out.kp;go_wp2_with fail
 clear m o p q r;refine(Aw B b _ M _ [⟨#[32,58,32]⟩] 1 [32,58,32] rfl rfl (by decide) (by simp[De]) t.out.1 (by have u:=v.out;simp only[List.length_append,List.length_cons,List.length_nil] at u |-;omega)).mono ?_;rintro e N ⟨rfl,c⟩;have s:Hid (Ae B b l (((([]:List UInt8)++(op.data.toList++[32]++nm.data.toList++[32,105,110,32]))++Al ka 8)++[32,58,32]) w N):=t.out.put c rfl;clear c;have m:=Aa (a.out.kp s.out.kp hbe) 1;have o:=Aa (a.out.kp s.out.kp hbe) 2;have p:=Aa (a.out.kp s.out.kp hbe) 5;have q:=f.out _ s.out.kp;have r:=g.out _ s.out.kp;go_wp2_with fail
 clear m o p q r;refine(G.out B b _ N kb _ (C.out.kp s.out.kp) s.out.1 (by have u:=v.out;simp only[List.length_append,List.length_cons,List.length_nil] at u |-;omega)).mono ?_;rintro e T ⟨rfl,c⟩;have P:Hid (Ae B b l ((((([]:List UInt8)++(op.data.toList++[32]++nm.data.toList++[32,105,110,32]))++Al ka 8)++[32,58,32])++kb.tx) w T):=s.out.put c rfl;clear c;go_wp2_with fail
 go_end0
 exact⟨rfl,by have h:=P.out;simpa using h⟩
theorem gX {n:Nat}(hW:WrE n)(B b be sort at' len cap:Nat)(l:List UInt8)(w:World)(op nm:ByteArray)(i:Int)(pa:Option Addr)(ka kb:PX)(he:Ar w be sort op nm i at' pa len cap)(hbe:be<B)(hr:Bw (·<B) w (Bt (·<B) w n) pa len [ka,kb])(hB:Bld B b l w)(ho:C6 op.data.toList=14)
  (hlen:l.length+(123::(Gv op.data.toList nm.data.toList ka kb++[125])).length<=140737488355328) :
  Calls Tryz.prog 34 #[.pointer (some ⟨b,0,none⟩),.pointer (some ⟨be,0,none⟩)] w (Ay B b l (123::(Gv op.data.toList nm.data.toList ka kb++[125])) w):=by
 have a:Hid (Ar w be sort op nm i at' pa len cap):=he;have J:Hid (WrE n):=hW;have HB:Hid (Bld B b l w):=hB;have y:Hid (Ae B b l ([]:List UInt8) w w):=Ae.nil hB;have mo:=follows;have t:Hid (l.length+(123::(Gv op.data.toList nm.data.toList ka kb++[125])).length<=140737488355328):=hlen;obtain⟨rfl,C,A,H,z,U,Z,K,M,x1,L,N⟩:=gW hr;subst H;have D:Hid (Bt (·<B) w n _ _):=M;have d:Hid (∀W,Kp B b w W->W.cell? ⟨C,A,none⟩=some (.pointer (some ⟨Z,0,none⟩))):=fun W k=>(World.cell?_of_block (w:=w) (k.1.block C z)).trans K;have E:Hid (Bt (·<B) w n _ _):=N;have f:Hid (∀W,Kp B b w W->W.cell? ⟨C,A+1,none⟩=some (.pointer (some ⟨x1,0,none⟩))):=fun W k=>(World.cell?_of_block (w:=w) (k.1.block C z)).trans L;clear K M L N;clear he hW hB hr hlen;have S:Hid (Calls Tryz.prog 65 #[.string op] w fun e w'=>e=.returned (.int .i64 14)/\w'=w):=by have:=Fh op w;rw[ho] at this;exact this
 clear ho;simp only[Gv] at t |-;go_enter Tryz.func34,Tryz.ntmps34
 have g:=Aa (a.out.kp y.out.kp hbe) 1;have j:=Aa (a.out.kp y.out.kp hbe) 2;have m:=Aa (a.out.kp y.out.kp hbe) 5;have p:=d.out _ y.out.kp;have q:=f.out _ y.out.kp;go_wp2_with (go_at_call 65;refine S.out.mono ?_;rintro e w3 ⟨rfl,c⟩;cases c)
 clear g j m p q;refine(Aw B b _ w _ [⟨#[123]⟩] 1 [123] rfl rfl (by decide) (by simp[De]) y.out.1 (by have o:=t.out;simp only[List.length_append,List.length_cons,List.length_nil] at o |-;omega)).mono ?_;rintro e I ⟨rfl,c⟩;have u:Hid (Ae B b l (([]:List UInt8)++[123]) w I):=y.out.put c rfl;clear c;have g:=Aa (a.out.kp u.out.kp hbe) 1;have j:=Aa (a.out.kp u.out.kp hbe) 2;have m:=Aa (a.out.kp u.out.kp hbe) 5;have p:=d.out _ u.out.kp;have q:=f.out _ u.out.kp;have G:=Ac (a.out.kp u.out.kp hbe);have F:Hid (Ae B b l (([]:List UInt8)++[123]) w I.drew):=u.out.grew (Ad.refl _).drew;go_wp2_with fail
 go_region_held3 (fun w'=>w'.cell? ⟨be,1,none⟩=some (.string op)/\w'.cell? ⟨be,2,none⟩=some (.string nm)) (first|(constructor<;>assumption)|assumption|go_keep)
   ((go_at_call 30;refine(Aw B b _ I.drew _ [op,⟨#[32]⟩,nm,⟨#[32,105,110,32]⟩] 4 (op.data.toList++[32]++nm.data.toList++[32,105,110,32]) rfl rfl (by decide) (by simp[De]) F.out.1 (by have o:=t.out;simp only[List.length_append,List.length_cons,List.length_nil] at o |-;omega)).mono ?_;rintro e O ⟨rfl,c⟩;have r:Hid (Ae B b l ((([]:List UInt8)++[123])++(op.data.toList++[32]++nm.data.toList++[32,105,110,32])) w O):=F.out.put c rfl;have V:=Aa (a.out.kp r.out.kp hbe) 1;have X:=Aa (a.out.kp r.out.kp hbe) 2;clear c))
 clear G F V X g j m p q;have g:=Aa (a.out.kp r.out.kp hbe) 1;have j:=Aa (a.out.kp r.out.kp hbe) 2;have m:=Aa (a.out.kp r.out.kp hbe) 5;have p:=d.out _ r.out.kp;have q:=f.out _ r.out.kp;go_wp2_with fail
 clear g j m p q;refine(Gb J.out B b _ O ka _ 8 (D.out.kp r.out.kp) r.out.1 (by have o:=t.out;simp only[List.length_append,List.length_cons,List.length_nil] at o |-;omega)).mono ?_;rintro e P ⟨rfl,c⟩;have v:Hid (Ae B b l (((([]:List UInt8)++[123])++(op.data.toList++[32]++nm.data.toList++[32,105,110,32]))++Al ka 8) w P):=r.out.put c rfl;clear c;have g:=Aa (a.out.kp v.out.kp hbe) 1;have j:=Aa (a.out.kp v.out.kp hbe) 2;have m:=Aa (a.out.kp v.out.kp hbe) 5;have p:=d.out _ v.out.kp;have q:=f.out _ v.out.kp;go_wp2_with fail
 clear g j m p q;refine(Aw B b _ P _ [⟨#[32,58,32]⟩] 1 [32,58,32] rfl rfl (by decide) (by simp[De]) v.out.1 (by have o:=t.out;simp only[List.length_append,List.length_cons,List.length_nil] at o |-;omega)).mono ?_;rintro e Q ⟨rfl,c⟩;have s:Hid (Ae B b l ((((([]:List UInt8)++[123])++(op.data.toList++[32]++nm.data.toList++[32,105,110,32]))++Al ka 8)++[32,58,32]) w Q):=v.out.put c rfl;clear c;have g:=Aa (a.out.kp s.out.kp hbe) 1;have j:=Aa (a.out.kp s.out.kp hbe) 2;have m:=Aa (a.out.kp s.out.kp hbe) 5;have p:=d.out _ s.out.kp;have q:=f.out _ s.out.kp;go_wp2_with fail
 clear g j m p q;refine(J.out B b _ Q kb _ (E.out.kp s.out.kp) s.out.1 (by have o:=t.out;simp only[List.length_append,List.length_cons,List.length_nil] at o |-;omega)).mono ?_;rintro e R ⟨rfl,c⟩;have x:Hid (Ae B b l (((((([]:List UInt8)++[123])++(op.data.toList++[32]++nm.data.toList++[32,105,110,32]))++Al ka 8)++[32,58,32])++kb.tx) w R):=s.out.put c rfl;clear c;have g:=Aa (a.out.kp x.out.kp hbe) 1;have j:=Aa (a.out.kp x.out.kp hbe) 2;have m:=Aa (a.out.kp x.out.kp hbe) 5;have p:=d.out _ x.out.kp;have q:=f.out _ x.out.kp;go_wp2_with fail
 clear g j m p q;refine(Aw B b _ R _ [⟨#[125]⟩] 1 [125] rfl rfl (by decide) (by simp[De]) x.out.1 (by have o:=t.out;simp only[List.length_append,List.length_cons,List.length_nil] at o |-;omega)).mono ?_;rintro e Y ⟨rfl,c⟩;have T:Hid (Ae B b l ((((((([]:List UInt8)++[123])++(op.data.toList++[32]++nm.data.toList++[32,105,110,32]))++Al ka 8)++[32,58,32])++kb.tx)++[125]) w Y):=x.out.put c rfl;clear c;go_wp2_with fail
 go_end0
 exact⟨rfl,by have h:=T.out;simpa using h⟩
theorem dV {n:Nat}(hW:WrE n)(B b be sort at' len cap:Nat)(l:List UInt8)(w:World)(op nm:ByteArray)(i:Int)(pa:Option Addr)(ka kb:PX)(he:Ar w be sort op nm i at' pa len cap)(hbe:be<B)(hr:Bw (·<B) w (Bt (·<B) w n) pa len [ka,kb])(hB:Bld B b l w)(ho:op.data.toList∈Jj\/op.data.toList∈Dr)
  (hlen:l.length+(C7 op.data.toList nm.data.toList ka kb).tx.length<=140737488355328) :
  Calls Tryz.prog 34 #[.pointer (some ⟨b,0,none⟩),.pointer (some ⟨be,0,none⟩)] w (Ay B b l (C7 op.data.toList nm.data.toList ka kb).tx w):=by
 rcases ho with ho|ho
 ·have a:C6 op.data.toList=0:=by
   simp only[Jj,List.mem_cons,List.not_mem_nil,or_false] at ho;rcases ho with ho|ho|ho|ho<;>rw[ho]<;>rfl
  have c:(C7 op.data.toList nm.data.toList ka kb).tx=Gv op.data.toList nm.data.toList ka kb:=by
   have:Dr.contains op.data.toList=false:=by
    simp only[Jj,List.mem_cons,List.not_mem_nil,or_false] at ho;rcases ho with ho|ho|ho|ho<;>rw[ho]<;>rfl
   unfold C7;rw[this];rfl
  rw[c] at hlen |-;exact Zu hW B b be sort at' len cap l w op nm i pa ka kb he hbe hr hB a hlen
 ·have a:C6 op.data.toList=14:=by
   simp only[Dr,List.mem_cons,List.not_mem_nil,or_false] at ho;rcases ho with ho|ho<;>rw[ho]<;>rfl
  have c:(C7 op.data.toList nm.data.toList ka kb).tx=123::(Gv op.data.toList nm.data.toList ka kb++[125]):=by
   have:Dr.contains op.data.toList=true:=by
    simp only[Dr,List.mem_cons,List.not_mem_nil,or_false] at ho;rcases ho with ho|ho<;>rw[ho]<;>rfl
   unfold C7;rw[this];rfl
  rw[c] at hlen |-;exact gX hW B b be sort at' len cap l w op nm i pa ka kb he hbe hr hB a hlen
theorem Qp:∀l:List UInt8,decide (Cm l=l.length)=l.all Bu
 | []=>rfl
 | c::l=>by
  have:=Qp l;unfold Cm at this |-;cases h:Bu c with
  | true=>simp only[List.takeWhile_cons,h,if_true,List.length_cons,List.all_cons,Bool.true_and,Nat.add_right_cancel_iff];exact this
  | false=>simp[h]
theorem Uv {l:List UInt8}{c:UInt8}{r:List UInt8}(h:l=c::r):Ff l=(Bp c&&decide (l.length<=16)&&l.all Bu&&!A0 l):=by subst h;rfl
theorem Qq (s:ByteArray)(w:World):Calls Tryz.prog 104 #[.string s] w fun e w'=>e=.returned (.bool (Ff s.data.toList))/\w'=w:=by
 have A:=follows;have l:s.data.toList.length=s.size:=by simp
 have d:s.toList=s.data.toList:=ByteArray.toList_eq s;obtain⟨q,a⟩:∃q,Ff s.data.toList=q:=⟨_,rfl⟩;rw[a];have k:Hid (Ff s.data.toList=q):=a;clear a;by_cases v:s.size=0
 ·have t:s.data.toList=[]:=List.length_eq_zero_iff.1 (by omega);have z:s.toList=[]:=by rw[d,t]
  have a:=k.out;rw[t] at a;have j:q=false:=by rw[<- a];rfl
  subst j;clear a k t d l v;go_enter Tryz.func104,Tryz.ntmps104
  go_wp2_with fail
  go_ret
  exact⟨rfl,rfl⟩
 have u:¬s.toList=[]:=by rw[d];intro h;rw[h] at l;simp at l;omega
 by_cases m:s.size<=16
 case neg =>
  have n:¬(s.size:Int)<=16:=by omega
  have j:q=false:=by rw[<- k.out];unfold Ff;rw[show decide (s.data.toList.length<=16)=false from by simp;omega];simp
  subst j;clear k d l v m;go_enter Tryz.func104,Tryz.ntmps104
  go_wp2_with fail
  go_ret
  exact⟨rfl,rfl⟩
 have n:(s.size:Int)<=16:=by omega
 have x:0<s.size:=by omega
 have p:∃r,s.data.toList=s[0]::r:=by
  have:s.data.toList.drop 0=s.data.toList[0]'(by omega)::s.data.toList.drop 1:=List.drop_eq_getElem_cons (by omega);exact⟨_,this⟩
 obtain⟨B,p⟩:=p;have c:Hid (∀W:World,_):=fun W=>Lu s[0] W;have f:Hid (∀W:World,_):=fun W=>Ua s W (by omega);have i:Hid (∀W:World,_):=fun W=>Ms s W;have a:=k.out;rw[Uv p,<- Qp,show decide (s.data.toList.length<=16)=true from by simp;omega,l] at a;clear p k l d m;generalize Bp s[0]=b1 at c a;generalize A0 s.data.toList=b3 at i a;generalize Cm s.data.toList=rn at f a;cases b1 with
 | false =>
  obtain rfl:false=q:=by simpa using a
  clear a;go_enter Tryz.func104,Tryz.ntmps104
  go_wp2_with (go_at_call 120;refine(c.out _).mono ?_;rintro e g ⟨rfl,b⟩;cases b)
  go_ret
  exact⟨rfl,rfl⟩
 | true =>
  by_cases o:rn=s.size
  ·have y:((rn:Int)==(s.size:Int))=true:=by simp;omega
   rw[show decide (rn=s.size)=true from by simpa using o] at a;cases b3 with
   | false =>
    obtain rfl:true=q:=by simpa using a
    have t:s.toList.isEmpty=false:=by simpa using u
    clear a o;go_enter Tryz.func104,Tryz.ntmps104
    go_wp2_with (first|(go_at_call 120;refine(c.out _).mono ?_;rintro e g ⟨rfl,b⟩;cases b)|(go_at_call 121;refine(f.out _).mono ?_;rintro e g ⟨rfl,b⟩;cases b)|(go_at_call 113;refine(i.out _).mono ?_;rintro e g ⟨rfl,b⟩;cases b))
    go_ret
    exact⟨rfl,rfl⟩
   | true =>
    obtain rfl:false=q:=by simpa using a
    clear a o;go_enter Tryz.func104,Tryz.ntmps104
    go_wp2_with (first|(go_at_call 120;refine(c.out _).mono ?_;rintro e g ⟨rfl,b⟩;cases b)|(go_at_call 121;refine(f.out _).mono ?_;rintro e g ⟨rfl,b⟩;cases b)|(go_at_call 113;refine(i.out _).mono ?_;rintro e g ⟨rfl,b⟩;cases b))
    go_ret
    exact⟨rfl,rfl⟩
  ·have y:((rn:Int)==(s.size:Int))=false:=by simp;omega
   rw[show decide (rn=s.size)=false from by simpa using o] at a;obtain rfl:false=q:=by simpa using a
   clear a o;go_enter Tryz.func104,Tryz.ntmps104
   go_wp2_with (first|(go_at_call 120;refine(c.out _).mono ?_;rintro e g ⟨rfl,b⟩;cases b)|(go_at_call 121;refine(f.out _).mono ?_;rintro e g ⟨rfl,b⟩;cases b))
   go_ret
   exact⟨rfl,rfl⟩
theorem gY {sort:Nat}{op nm:List UInt8}{n:Int}{kids:List PX}{x:PX}(h:Oi sort op nm n kids x)(hs:sort≠1):x.key=none:=by
 rcases h with⟨rfl,-,-,rfl⟩|⟨rfl,rfl⟩|⟨rfl,rfl⟩|⟨rfl,rfl⟩|⟨rfl,rfl⟩|⟨rfl,rfl⟩|⟨rfl,rfl⟩|⟨rfl,rfl⟩|⟨rfl,a,b,c,rfl,rfl⟩|⟨rfl,a,b,rfl,rfl⟩|⟨rfl,d,a,b,rfl,rfl⟩|⟨-,e⟩
 case inr.inl=>exact absurd rfl hs
 case inr.inr.inr.inr.inr.inr.inr.inr.inr.inr.inl=>unfold C7;split<;>rfl
 case inr.inr.inr.inr.inr.inr.inr.inr.inr.inr.inr =>
  rcases e with⟨g,a,b,rfl,rfl⟩|⟨rfl,rfl⟩|⟨rfl,rfl⟩|⟨rfl,rfl⟩|⟨rfl,f,k,rfl,rfl⟩|⟨rfl,f,k,v,rfl,rfl⟩|⟨rfl,a,rfl,rfl⟩|⟨d,a,rfl,rfl⟩|⟨d,a,rfl,rfl⟩|⟨d,rfl⟩<;>rfl
 all_goals rfl
theorem kA {op nm:List UInt8}{n:Int}{kids:List PX}{x:PX}(h:Oi 1 op nm n kids x):x=Fg nm:=by
 rcases h with⟨q,-⟩|⟨-,h⟩|⟨q,-⟩|⟨q,-⟩|⟨q,-⟩|⟨q,-⟩|⟨q,-⟩|⟨q,-⟩|⟨q,-⟩|⟨q,-⟩|⟨q,-⟩|⟨q,-⟩
 case inr.inl=>exact h
 all_goals omega
theorem Zv {n:Nat}(hW:WrE n)(B b xf be sort at' len cap:Nat)(l:List UInt8)(w:World)(op nm:ByteArray)(i:Int)(pa:Option Addr)(kf kk:PX)(hf:Bt (·<B) w n kf (.pointer (some ⟨xf,0,none⟩)))(hk:Bt (·<B) w n kk (.pointer (some ⟨be,0,none⟩)))(he:Ar w be sort op nm i at' pa len cap)(hbe:be<B)(hB:Bld B b l w)(hs:sort=1)(hn:Ff nm.data.toList=true)
  (hlen:l.length+(Al kf 13++46::nm.data.toList).length<=140737488355328) :
  Calls Tryz.prog 69 #[.pointer (some ⟨b,0,none⟩),.pointer (some ⟨xf,0,none⟩),.pointer (some ⟨be,0,none⟩)] w (Ay B b l (Al kf 13++46::nm.data.toList) w):=by
 have f:Hid (Ar w be sort op nm i at' pa len cap):=he;have r:Hid (WrE n):=hW;have d:Hid (Ae B b l ([]:List UInt8) w w):=Ae.nil hB;have p:Hid (l.length+(Al kf 13++46::nm.data.toList).length<=140737488355328):=hlen;have j:Hid (Bt (·<B) w n _ _):=hf;have s:Hid (Bt (·<B) w n _ _):=hk;have c:Hid (∀W:World,_):=fun W=>Qq nm W;have v:=follows;clear he hW hB hlen hf hk;subst hs;rw[hn] at c;clear hn;go_enter Tryz.func69,Tryz.ntmps69
 have k:=Aa (f.out.kp d.out.kp hbe) 0;have m:=Aa (f.out.kp d.out.kp hbe) 2;go_wp2_with fail
 clear k m;refine(Gb r.out B b _ w kf _ 13 (j.out.kp d.out.kp) d.out.1 (by have o:=p.out;simp only[List.length_append,List.length_cons,List.length_nil] at o |-;omega)).mono ?_;rintro e q ⟨rfl,a⟩;have g:Hid (Ae B b l (([]:List UInt8)++Al kf 13) w q):=d.out.put a rfl;clear a;have k:=Aa (f.out.kp g.out.kp hbe) 0;have m:=Aa (f.out.kp g.out.kp hbe) 2;go_wp2_with (go_at_call 104;refine(c.out _).mono ?_;rintro e x ⟨rfl,a⟩;cases a)
 clear k m;refine(Aw B b _ q _ [⟨#[46]⟩,nm] 2 ([46]++nm.data.toList) rfl rfl (by decide) (by simp[De]) g.out.1 (by have o:=p.out;simp only[List.length_append,List.length_cons,List.length_nil] at o |-;omega)).mono ?_;rintro e u ⟨rfl,a⟩;have t:Hid (Ae B b l ((([]:List UInt8)++Al kf 13)++([46]++nm.data.toList)) w u):=g.out.put a rfl;clear a;go_wp2_with fail
 refine bodyPost_ret (results_none rfl _ _ _) rfl ?_;exact⟨rfl,by have h:=t.out;simpa using h⟩
theorem S8 {n:Nat}(hW:WrE n)(B b xf be sort at' len cap:Nat)(l:List UInt8)(w:World)(op nm:ByteArray)(i:Int)(pa:Option Addr)(kf kk:PX)(hf:Bt (·<B) w n kf (.pointer (some ⟨xf,0,none⟩)))(hk:Bt (·<B) w n kk (.pointer (some ⟨be,0,none⟩)))(he:Ar w be sort op nm i at' pa len cap)(hbe:be<B)(hB:Bld B b l w)(hs:sort≠1\/sort=1/\Ff nm.data.toList=false)
  (hlen:l.length+(Al kf 13++91::(kk.tx++[93])).length<=140737488355328) :
  Calls Tryz.prog 69 #[.pointer (some ⟨b,0,none⟩),.pointer (some ⟨xf,0,none⟩),.pointer (some ⟨be,0,none⟩)] w (Ay B b l (Al kf 13++91::(kk.tx++[93])) w):=by
 have c:Hid (Ar w be sort op nm i at' pa len cap):=he;have u:Hid (WrE n):=hW;have r:Hid (Ae B b l ([]:List UInt8) w w):=Ae.nil hB;have p:Hid (l.length+(Al kf 13++91::(kk.tx++[93])).length<=140737488355328):=hlen;have v:Hid (Bt (·<B) w n _ _):=hf;have q:Hid (Bt (·<B) w n _ _):=hk;have o:Hid (∀W:World,_):=fun W=>Qq nm W;have E:=follows;clear he hW hB hlen hf hk;go_enter Tryz.func69,Tryz.ntmps69
 have d:=Aa (c.out.kp r.out.kp hbe) 0;have f:=Aa (c.out.kp r.out.kp hbe) 2;go_wp2_with fail
 clear d f;refine(Gb u.out B b _ w kf _ 13 (v.out.kp r.out.kp) r.out.1 (by have g:=p.out;simp only[List.length_append,List.length_cons,List.length_nil] at g |-;omega)).mono ?_;rintro e y ⟨rfl,a⟩;have m:Hid (Ae B b l (([]:List UInt8)++Al kf 13) w y):=r.out.put a rfl;clear a;rcases hs with hs|⟨rfl,A⟩
 ·have C:((sort:Int)==1)=false:=by simp;omega
  clear hs;have d:=Aa (c.out.kp m.out.kp hbe) 0;have f:=Aa (c.out.kp m.out.kp hbe) 2;go_wp2_with (go_at_call 104;refine(o.out _).mono ?_;rintro e D ⟨rfl,a⟩;cases a)
  clear d f;refine(Aw B b _ y _ [⟨#[91]⟩] 1 [91] rfl rfl (by decide) (by simp[De]) m.out.1 (by have g:=p.out;simp only[List.length_append,List.length_cons,List.length_nil] at g |-;omega)).mono ?_;rintro e s ⟨rfl,a⟩;have j:Hid (Ae B b l ((([]:List UInt8)++Al kf 13)++[91]) w s):=m.out.put a rfl;clear a;have d:=Aa (c.out.kp j.out.kp hbe) 0;have f:=Aa (c.out.kp j.out.kp hbe) 2;go_wp2_with fail
  clear d f;refine(u.out B b _ s kk _ (q.out.kp j.out.kp) j.out.1 (by have g:=p.out;simp only[List.length_append,List.length_cons,List.length_nil] at g |-;omega)).mono ?_;rintro e t ⟨rfl,a⟩;have k:Hid (Ae B b l (((([]:List UInt8)++Al kf 13)++[91])++kk.tx) w t):=j.out.put a rfl;clear a;have d:=Aa (c.out.kp k.out.kp hbe) 0;have f:=Aa (c.out.kp k.out.kp hbe) 2;go_wp2_with fail
  clear d f;refine(Aw B b _ t _ [⟨#[93]⟩] 1 [93] rfl rfl (by decide) (by simp[De]) k.out.1 (by have g:=p.out;simp only[List.length_append,List.length_cons,List.length_nil] at g |-;omega)).mono ?_;rintro e z ⟨rfl,a⟩;have x:Hid (Ae B b l ((((([]:List UInt8)++Al kf 13)++[91])++kk.tx)++[93]) w z):=k.out.put a rfl;clear a;go_wp2_with fail
  go_end0
  exact⟨rfl,by have h:=x.out;simpa using h⟩
 ·rw[A] at o;clear A;have d:=Aa (c.out.kp m.out.kp hbe) 0;have f:=Aa (c.out.kp m.out.kp hbe) 2;go_wp2_with (go_at_call 104;refine(o.out _).mono ?_;rintro e D ⟨rfl,a⟩;cases a)
  clear d f;refine(Aw B b _ y _ [⟨#[91]⟩] 1 [91] rfl rfl (by decide) (by simp[De]) m.out.1 (by have g:=p.out;simp only[List.length_append,List.length_cons,List.length_nil] at g |-;omega)).mono ?_;rintro e s ⟨rfl,a⟩;have j:Hid (Ae B b l ((([]:List UInt8)++Al kf 13)++[91]) w s):=m.out.put a rfl;clear a;have d:=Aa (c.out.kp j.out.kp hbe) 0;have f:=Aa (c.out.kp j.out.kp hbe) 2;go_wp2_with fail
  clear d f;refine(u.out B b _ s kk _ (q.out.kp j.out.kp) j.out.1 (by have g:=p.out;simp only[List.length_append,List.length_cons,List.length_nil] at g |-;omega)).mono ?_;rintro e t ⟨rfl,a⟩;have k:Hid (Ae B b l (((([]:List UInt8)++Al kf 13)++[91])++kk.tx) w t):=j.out.put a rfl;clear a;have d:=Aa (c.out.kp k.out.kp hbe) 0;have f:=Aa (c.out.kp k.out.kp hbe) 2;go_wp2_with fail
  clear d f;refine(Aw B b _ t _ [⟨#[93]⟩] 1 [93] rfl rfl (by decide) (by simp[De]) k.out.1 (by have g:=p.out;simp only[List.length_append,List.length_cons,List.length_nil] at g |-;omega)).mono ?_;rintro e z ⟨rfl,a⟩;have x:Hid (Ae B b l ((((([]:List UInt8)++Al kf 13)++[91])++kk.tx)++[93]) w z):=k.out.put a rfl;clear a;go_wp2_with fail
  go_end0
  exact⟨rfl,by have h:=x.out;simpa using h⟩
theorem Zw {n:Nat}(hW:WrE n)(B b xf xk:Nat)(l:List UInt8)(w:World)(kf kk:PX)(hf:Bt (·<B) w n kf (.pointer (some ⟨xf,0,none⟩)))(hk:Bt (·<B) w n kk (.pointer (some ⟨xk,0,none⟩)))(hB:Bld B b l w)
  (hlen:l.length+(dAt kf kk).tx.length<=140737488355328) :
  Calls Tryz.prog 69 #[.pointer (some ⟨b,0,none⟩),.pointer (some ⟨xf,0,none⟩),.pointer (some ⟨xk,0,none⟩)] w (Ay B b l (dAt kf kk).tx w):=by
 cases n with
 | zero=>exact absurd hk id
 | succ n =>
  obtain⟨u,c,p,h,i,a,q,f,d,t,e,k,m,v,r⟩:=id hk;obtain rfl:xk=u:=by simpa using e
  by_cases o:c=1
  ·subst o;have s:=kA r;cases j:Ff h.data.toList with
   | true =>
    have g:(dAt kf kk).tx=Al kf 13++46::h.data.toList:=by rw[s];simp[dAt,Fg,j]
    rw[g] at hlen |-;exact Zv hW B b xf xk 1 a f d l w p h i q kf kk hf hk m k hB rfl j hlen
   | false =>
    have g:(dAt kf kk).tx=Al kf 13++91::(kk.tx++[93]):=by simp only[dAt];rw[show kk.key=none from by rw[s];simp[Fg,j]]
    rw[g] at hlen |-;exact S8 hW B b xf xk 1 a f d l w p h i q kf kk hf hk m k hB (.inr ⟨rfl,j⟩) hlen
  ·have g:(dAt kf kk).tx=Al kf 13++91::(kk.tx++[93]):=by simp only[dAt];rw[gY r o]
   rw[g] at hlen |-;exact S8 hW B b xf xk c a f d l w p h i q kf kk hf hk m k hB (.inl o) hlen
theorem Oq {n:Nat}(hW:WrE n)(B b be sort at' len cap:Nat)(l:List UInt8)(w:World)(op nm:ByteArray)(i:Int)(pa:Option Addr)(ka:PX)(he:Ar w be sort op nm i at' pa len cap)(hbe:be<B)(hr:Bw (·<B) w (Bt (·<B) w n) pa len [ka])(hB:Bld B b l w)(q:Nat)(ho:C6 op.data.toList=q)(hq:q≠14)
  (hlen:l.length+(op.data.toList++32::Al ka q).length<=140737488355328) :
  Calls Tryz.prog 70 #[.pointer (some ⟨b,0,none⟩),.pointer (some ⟨be,0,none⟩)] w (Ay B b l (op.data.toList++32::Al ka q) w):=by
 have g:Hid (Ar w be sort op nm i at' pa len cap):=he;have D:Hid (WrE n):=hW;have J:Hid (Bld B b l w):=hB;have f:Hid (Ae B b l ([]:List UInt8) w w):=Ae.nil hB;have K:=follows;have v:Hid (l.length+(op.data.toList++32::Al ka q).length<=140737488355328):=hlen;obtain⟨rfl,x,t,s,r,F,I,y,z⟩:=mW hr;subst s;have j:Hid (Bt (·<B) w n _ _):=z;have d:Hid (∀W,Kp B b w W->W.cell? ⟨x,t,none⟩=some (.pointer (some ⟨I,0,none⟩))):=fun W k=>(World.cell?_of_block (w:=w) (k.1.block x r)).trans y;clear y z;clear he hW hB hr hlen;have C:Hid (Calls Tryz.prog 65 #[.string op] w fun e w'=>e=.returned (.int .i64 (q:Int))/\w'=w):=by have:=Fh op w;rw[ho] at this;exact this
 have G:((q:Int) != 14)=true:=by rw[bne_iff_ne];omega
 clear ho hq;go_enter Tryz.func70,Tryz.ntmps70
 have m:=Aa (g.out.kp f.out.kp hbe) 1;have o:=Aa (g.out.kp f.out.kp hbe) 5;have u:=d.out _ f.out.kp;go_wp2_with (go_at_call 65;refine C.out.mono ?_;rintro e L ⟨rfl,a⟩;cases a)
 clear m o u;refine(Aw B b _ w _ [op,⟨#[32]⟩] 2 (op.data.toList++[32]) rfl rfl (by decide) (by simp[De]) f.out.1 (by have p:=v.out;simp only[List.length_append,List.length_cons,List.length_nil] at p |-;omega)).mono ?_;rintro e A ⟨rfl,a⟩;have c:Hid (Ae B b l (([]:List UInt8)++(op.data.toList++[32])) w A):=f.out.put a rfl;clear a;have m:=Aa (g.out.kp c.out.kp hbe) 1;have o:=Aa (g.out.kp c.out.kp hbe) 5;have u:=d.out _ c.out.kp;go_wp2_with fail
 clear m o u;refine(Gb D.out B b _ A ka _ q (j.out.kp c.out.kp) c.out.1 (by have p:=v.out;simp only[List.length_append,List.length_cons,List.length_nil] at p |-;omega)).mono ?_;rintro e H ⟨rfl,a⟩;have E:Hid (Ae B b l ((([]:List UInt8)++(op.data.toList++[32]))++Al ka q) w H):=c.out.put a rfl;clear a;go_wp2_with fail
 refine bodyPost_ret (results_none rfl _ _ _) rfl ?_;exact⟨rfl,by have h:=E.out;simpa using h⟩
theorem Uw {n:Nat}(hW:WrE n)(B b be sort at' len cap:Nat)(l:List UInt8)(w:World)(op nm:ByteArray)(i:Int)(pa:Option Addr)(kids:List PX)(he:Ar w be sort op nm i at' pa len cap)(hr:Bw (·<B) w (Bt (·<B) w n) pa len kids)(hB:Bld B b l w)(ho:C6 op.data.toList=14)
  (hlen:l.length+(Ef op.data.toList kids).tx.length<=140737488355328) :
  Calls Tryz.prog 70 #[.pointer (some ⟨b,0,none⟩),.pointer (some ⟨be,0,none⟩)] w (Ay B b l (Ef op.data.toList kids).tx w):=by
 have k:Hid (Calls Tryz.prog 65 #[.string op] w fun e w'=>e=.returned (.int .i64 14)/\w'=w):=by have:=Fh op w;rw[ho] at this;exact this
 have c:(op++⟨#[40]⟩:ByteArray).data.toList++(Cx kids++(⟨#[41]⟩:ByteArray).data.toList)=(Ef op.data.toList kids).tx:=by simp[Ef,ByteArray.data_append]
 have j:Hid (∀W,Ad w W->Calls Tryz.prog 32 #[.pointer (some ⟨b,0,none⟩),.string (op++⟨#[40]⟩),.slice pa len cap,.string ⟨#[41]⟩] W (Ay B b l (Ef op.data.toList kids).tx W)):=fun W hg=>by
  have:=Lc hW B b l W (op++⟨#[40]⟩) ⟨#[41]⟩ pa len cap kids (hr.kp (Kp.grew (b:=b) hg hB.low)) (hB.grew hg) (by rw[c];exact hlen);rw[c] at this;exact this
 have h:Hid (Bld B b l w):=hB;have f:Hid (Ar w be sort op nm i at' pa len cap):=he;have o:=Ac he;have g:op.size<=140737488355328:=by simp[Ef] at hlen;omega
 have d:op.size<=9223372036854775806:=by omega
 have q:=Aa he 1;have r:=Aa he 5;have u:=follows;clear he hr hB hlen hW c ho;go_enter Tryz.func70,Tryz.ntmps70
 go_wp2_with (go_at_call 65;refine k.out.mono ?_;rintro e v ⟨rfl,a⟩;cases a)
 have s:=Aa (f.out.of (P:=fun _=>True) (Fr.grew (Ad.refl w).drew) trivial) 1;have t:=Aa (f.out.of (P:=fun _=>True) (Fr.grew (Ad.refl w).drew) trivial) 5;go_region_with (go_at_call 32;refine(j.out _ (Ad.refl w).drew).mono ?_;rintro e p ⟨rfl,a⟩;have m:Hid (Ae B b l (Ef op.data.toList kids).tx w p):=⟨a.1,(Kp.grew (Ad.refl w).drew h.out.low).trans a.2⟩;clear a)
 all_goals go_wp2_with fail
 all_goals go_end0
 all_goals exact⟨rfl,m.out⟩
end Go.Proofs.YtjbfcadeapphbaaGreatDoor.Sx
