/- The writer: choices. -/
import Derived.Test.YtjbfcadeapphbaaGreatDoorK08
import Derived.Lib.AppendStr
import Derived.Lib.UnsafeStr
import Derived.Lib.LaidTab
import Derived.Lib.OthersKept
import Derived.Lib.OwnKind
import Derived.Shelf.Strings.Builder1
import Derived.Deep.Cut
import Derived.Test.YtjbfcadeapphbaaGreatDoorK09
namespace Go.Proofs.YtjbfcadeapphbaaGreatDoor.Sx
set_option maxRecDepth 100000
set_option maxHeartbeats 2000000
open Go.RowKit Go.Sort
theorem kC:(Tryz.prog.info? 5).map (fun i=>(i.zero,i.size,i.bytes))=some (some (.int .u8 0),1,1):=by kernel_rfl
def gS:Go.Shelf.Ren:=⟨fun|240=>95|276=>131|n=>n,fun|0=>0|4=>4|9=>9|20=>20|70=>40|72=>43|37=>41|5=>5|164=>138|n=>n,fun|n=>n⟩
theorem iH:Lays.n240 Tryz.prog gS:={
 mixed:=by kernel_rfl
 f240:=Tryz.func95.trans (congrArg some (by kernel_rfl))
 f276:=Tryz.func131.trans (congrArg some (by kernel_rfl))
 t0:=Tryz.underlying0
 a0:=Tryz.isAgg0
 z0:=Tryz.sizeOf0
 v0:=Tryz.zeroValue0
 t4:=Tryz.underlying4
 a4:=Tryz.isAgg4
 z4:=Tryz.sizeOf4
 v4:=Tryz.zeroValue4
 t9:=Tryz.underlying9
 a9:=Tryz.isAgg9
 z9:=Tryz.sizeOf9
 v9:=Tryz.zeroValue9
 t20:=Tryz.underlying20
 a20:=Tryz.isAgg20
 z20:=Tryz.sizeOf20
 v20:=Tryz.zeroValue20
 t70:=Tryz.underlying40
 a70:=Tryz.isAgg40
 z70:=Tryz.sizeOf40
 v70:=Tryz.zeroValue40
 t72:=Tryz.underlying43
 a72:=Tryz.isAgg43
 z72:=Tryz.sizeOf43
 v72:=Tryz.zeroValue43
 t164:=Tryz.underlying138
 a164:=Tryz.isAgg138
 z164:=Tryz.sizeOf138
 v164:=Tryz.zeroValue138 }
theorem ccX:Builder.X72 Tryz.prog gS:={
 sizeBuilder:=by kernel_rfl
 liesBuilder:=by kernel_rfl }
theorem fN (b:Nat)(w:World)(h0:w.cell? ⟨b,0,none⟩=some (.pointer (some ⟨b,0,none⟩))) :
  Calls Tryz.prog 95 #[.pointer (some ⟨b,0,none⟩)] w fun e w'=>e=.returned (.tuple #[])/\w'=w:=Any.Builder_copyCheck_used iH ccX b w h0
theorem U8:(Tryz.prog.info? 43).map (·.size)=some 2:=by kernel_rfl
theorem U9:liesAt Tryz.prog Tryz.prog.depth 45 (2 / Tryz.prog.cellsOf 45) 0 43 1=true:=by kernel_rfl
theorem dQ (b:Nat)(w:World)(h0:w.cell? ⟨b,0,none⟩=some (.pointer none))(hsh:w.shape? b=some (45,2))(hfz:w.frozen? ⟨b,0,none⟩=false) :
  Calls Tryz.prog 95 #[.pointer (some ⟨b,0,none⟩)] w fun e w'=>e=.returned (.tuple #[])/\w'=w.setCell ⟨b,0,none⟩ (.pointer (some ⟨b,0,none⟩)):=by
 obtain⟨j,c,a⟩:=Option.map_eq_some_iff.1 U8;go_enter Tryz.func95,Tryz.ntmps95
 go_wp2
 rw[Lib.run_to_unsafe w ⟨b,0,none⟩ Tryz.underlying40 Tryz.underlying138 c (by rw[a];decide) hsh (Nat.zero_lt_succ 1)];simp only[Result.andThen];rw[Oper.upon_value];go_wp2
 rw[run_callFunc_extern Tryz.func131 (by kernel_rfl) (by kernel_rfl) (by kernel_rfl) (e:=Extern.AbiNoEscape.same) (by kernel_rfl)];rw[Lib.run_noEscape];simp only[Result.andThen];rw[Oper.upon_value];go_wp2
 rw[Lib.run_from_unsafe w ⟨b,0,none⟩ Tryz.underlying138 Tryz.underlying40 c hsh U9];simp only[Result.andThen];rw[Oper.upon_value];go_wp2
 go_end0
 exact⟨rfl,rfl⟩
theorem iI (B b:Nat)(bs:List Value)(w:World)(h:Lib.IsBuilder 45 5 B b bs w) :
  Calls Tryz.prog 95 #[.pointer (some ⟨b,0,none⟩)] w fun e w'=>e=.returned (.tuple #[])/\(Lib.BuilderAt 45 5 B b (.pointer (some ⟨b,0,none⟩)) bs w'/\Below B w w'/\Lib.OthersKept 5 (some b) w w'):=by
 rcases h with h|h
 ·refine(dQ b w h.cell0 h.shape h.frozen0).mono ?_;rintro e w' ⟨rfl,rfl⟩;exact⟨rfl,h.used _,(Below.refl B w).setCell h.1 _,(Lib.OthersKept.refl _ _ w).setCell ⟨b,0,none⟩ rfl _⟩
 ·refine(fN b w h.cell0).mono ?_;rintro e w' ⟨rfl,rfl⟩;exact⟨rfl,h,Below.refl B _,Lib.OthersKept.refl _ _ _⟩
theorem iJ (B b:Nat)(bs:List Value)(s:ByteArray)(w:World)(h:Lib.IsBuilder 45 5 B b bs w)(hlen:bs.length+s.size<=140737488355328)(hBw:B<=w.heap.size) :
  Calls Tryz.prog 63 #[.pointer (some ⟨b,0,none⟩),.string s] w fun e w'=>e=.returned (.tuple #[.int .i64 s.size,.nilIface])/\(Lib.BuilderAt 45 5 B b (.pointer (some ⟨b,0,none⟩)) (bs++Lib.strCells s) w'/\Below B w w'/\Lib.OthersKept 5 (some b) w w'):=by
 obtain⟨G,F,t,u,x⟩:=info_parts kC;go_enter Tryz.func63,Tryz.ntmps63
 go_wp2_with fail
 refine(iI B b bs _ h).mono ?_;rintro e m ⟨rfl,E,l,o⟩;obtain⟨A,v,i,c,q⟩:=E;have I:m.cell? ⟨b,0,none⟩=some (.pointer (some ⟨b,0,none⟩)):=by rw[Lib.cell_of_heap i];rfl
 have J:m.cell? ⟨b,1,none⟩=some v:=by rw[Lib.cell_of_heap i];rfl
 go_wp2_with (at_builtin;refine Lib.wpList_append_own_string _ rfl _ _ 41 9 rfl B 5 G Tryz.underlying41 Tryz.underlying9 F t u x _ _ _ rfl c s rfl ?c3 ?c4 ?c5 ?_)
 case c3=>unfold maxLen;omega
 case c4=>omega
 case c5=>have:=l.size;omega
 intro H y d a _;have p:b<m.heap.size:=by
  rcases Nat.lt_or_ge b m.heap.size with n|n
  ·exact n
  ·simp[Array.getElem?_eq_none n] at i
 have f:y.heap[b]?=some (.cells #[.pointer (some ⟨b,0,none⟩),v] 45 (0,0)):=by
  rw[a.block b p (fun e=>q e.symm)];exact i
 have K:y.cell? ⟨b,0,none⟩=some (.pointer (some ⟨b,0,none⟩)):=by rw[Lib.cell_of_heap f];rfl
 have L:y.cell? ⟨b,1,none⟩=some v:=by rw[Lib.cell_of_heap f];rfl
 have M:=Lib.frozen_of_heap f 1;obtain⟨z,C,j,rfl⟩:∃z C j,H=.slice z C j:=by
  rcases d.2 with⟨r,_⟩|⟨g,j,D,r,_⟩
  ·exact⟨_,_,_,r⟩
  ·exact⟨_,_,_,r⟩
 go_wp2
 go_ret2
 refine⟨rfl,?_,?_,?_⟩
 ·exact Lib.BuilderAt.put A f (by simpa [Lib.strCells_length] using d) (by decide)
 ·exact(l.grown a (by have:=l.size;omega) (fun k hk=>(c.lt k hk).1)).setCell A _
 ·exact(o.grown a (fun g hg=>Lib.ownsRow_kind c g hg)).setCell _ rfl _
structure Bld (B b:Nat)(l:List UInt8)(w:World):Prop where
 is:Lib.IsBuilder 45 5 B b (Lib.byteCells l) w
 low:B<=w.heap.size
 tab : Lib.TabIs Tryz.prog w "internal/strconv.uint64pow10" .u64 Lib.pow10Tab
 glob:1<B
theorem Ph : Tryz.prog.globalNamed "internal/strconv.uint64pow10" = some 1 := by kernel_rfl
theorem dR {w w':World}{B:Nat}{e:TypeId}{v:Value}{n:Nat}{xs:List Value}(h:w.ownsRow B e 1 v n xs)(hb:Below w.heap.size w w'):w'.ownsRow B e 1 v n xs:=by
 refine⟨h.1,?_⟩;rcases h.2 with q|⟨g,a,b,c,d,f,i⟩
 ·exact .inl q
 ·exact .inr ⟨g,a,b,c,d,Below.blockAt hb f,i⟩
theorem Zf {w w':World}{T e:TypeId}{B b:Nat}{p:Value}{bs:List Value}(h:Lib.BuilderAt T e B b p bs w)(hb:Below w.heap.size w w'):Lib.BuilderAt T e B b p bs w':=by
 obtain⟨a,v,c,d,f⟩:=h;exact⟨a,v,Below.blockAt hb c,dR d hb,f⟩
theorem Hn {w w' : World} {B : Nat} (hb : Below B w w') (hg : 1 < B) (h : Lib.TabIs Tryz.prog w "internal/strconv.uint64pow10" .u64 Lib.pow10Tab) : Lib.TabIs Tryz.prog w' "internal/strconv.uint64pow10" .u64 Lib.pow10Tab := by
 unfold Lib.TabIs World.var? at h |-;rw[Ph] at h |-;simp only[Option.bind_some] at h |-;rw[hb.block 1 hg];exact h
theorem Bld.grew {B b:Nat}{l:List UInt8}{w w':World}(h:Bld B b l w)(hg:Ag w w'):Bld B b l w':=by
 have a:=hg.below;refine⟨?_,Nat.le_trans h.low a.size,Hn a (Nat.lt_of_lt_of_le h.glob h.low) h.tab,h.glob⟩;rcases h.is with q|q
 ·exact .inl (Zf q a)
 ·exact .inr (Zf q a)
theorem iK {B:Nat}{w w':World}(hg:Ag w w')(hl:B<=w.heap.size):Below B w w' :=
 ⟨hg.below.os,hg.below.tape,hg.below.output,hg.below.size,fun k hk=>hg.below.block k (Nat.lt_of_lt_of_le hk hl)⟩
theorem frB {B:Nat}{w w':World}(h:Below B w w'):Fr (·<B) w w':=⟨h.os,h.tape,h.output,h.size,fun i _ hp=>h.block i hp⟩
def Kp (B b:Nat)(w w':World):Prop:=Below B w w'/\Lib.OthersKept 5 (some b) w w'
theorem Kp.refl (B b:Nat)(w:World):Kp B b w w:=⟨Below.refl B w,Lib.OthersKept.refl _ _ _⟩
theorem Kp.trans {B b:Nat}{w1 w2 w3:World}(h:Kp B b w1 w2)(k:Kp B b w2 w3):Kp B b w1 w3:=⟨h.1.trans k.1,h.2.trans k.2⟩
theorem Kp.grew {B b:Nat}{w w':World}(hg:Ag w w')(hl:B<=w.heap.size):Kp B b w w':=⟨iK hg hl,fun _ _ h _ _=>Below.blockAt hg.below h⟩
theorem Bld.lt {B b:Nat}{l:List UInt8}{w:World}(h:Bld B b l w):b<w.heap.size:=by
 rcases h.is with q|q
 ·exact q.lt
 ·exact q.lt
theorem Kp.kept {B b k:Nat}{w w':World}(h:Kp B b w w'){vs:Array Value}{T:TypeId}(hT:T≠5)(hk:w.heap[k]?=some (.cells vs T (0,0)))(hb:k≠b):w'.heap[k]?=some (.cells vs T (0,0)) :=
 h.2 k _ hk (by simpa using hb) (fun c fz e=>by injection e with _ e2 _;exact absurd e2 hT)
def Ad (B b:Nat)(l t:List UInt8)(w w':World):Prop:=Bld B b (l++t) w'/\Kp B b w w'
def Av (B b:Nat)(l t:List UInt8)(w:World)(e:Ending)(w':World):Prop:=e=.returned (.tuple #[])/\Ad B b l t w w'
theorem iL (B b:Nat)(l:List UInt8)(s:ByteArray)(w:World)(h:Bld B b l w)(hlen:l.length+s.size<=140737488355328) :
  Calls Tryz.prog 63 #[.pointer (some ⟨b,0,none⟩),.string s] w fun e w'=>(∃k:Nat,e=.returned (.tuple #[.int .i64 k,.nilIface]))/\Ad B b l s.data.toList w w':=by
 refine(iJ B b (Lib.byteCells l) s w h.is (by rw[Lib.byteCells_length];exact hlen) h.low).mono ?_;rintro e w' ⟨rfl,c,a,d⟩;exact⟨⟨_,rfl⟩,⟨.inr (by rw[Lib.byteCells_append];exact c),Nat.le_trans h.low a.size,Hn a h.glob h.tab,h.glob⟩,a,d⟩
def Cs (ss:List ByteArray):List UInt8:=ss.flatMap fun s=>s.data.toList
theorem Ro (ss:List ByteArray)(k:Nat)(s:ByteArray)(h:ss[k]?=some s):Cs (ss.take (k+1))=Cs (ss.take k)++s.data.toList:=by
 rw[List.take_add_one,h];simp[Cs]
theorem fO (ss:List ByteArray)(k:Nat):(Cs (ss.take k)).length<=(Cs ss).length:=by
 have:Cs ss=Cs (ss.take k)++Cs (ss.drop k):=by unfold Cs;rw[<- List.flatMap_append,List.take_append_drop]
 rw[this,List.length_append];omega
theorem Ad.nil {B b:Nat}{l:List UInt8}{w:World}(h:Bld B b l w):Ad B b l [] w w:=⟨by rw[List.append_nil];exact h,Kp.refl _ _ _⟩
theorem Ad.trans {B b:Nat}{l s t:List UInt8}{w1 w2 w3:World}(h:Ad B b l s w1 w2)(k:Ad B b (l++s) t w2 w3):Ad B b l (s++t) w1 w3:=⟨by rw[<- List.append_assoc];exact k.1,h.2.trans k.2⟩
theorem dS (B b g c:Nat)(l:List UInt8)(w:World)(ss:List ByteArray)(n:Nat)(hn:n=ss.length)(hn9:n<=1000)(hrow:w.heap[g]?=some (.cells (ss.map Value.string).toArray 9 (0,0)))(hgb:g≠b)(hB:Bld B b l w)(hlen:l.length+(Cs ss).length<=140737488355328) :
  Calls Tryz.prog 30 #[.pointer (some ⟨b,0,none⟩),.slice (some ⟨g,0,none⟩) n c] w (Av B b l (Cs ss) w):=by
 have p:Hid (w.heap[g]?=_):=hrow;have A:Hid (Bld B b l w):=hB;have h:Hid (n=ss.length):=hn;have j:Hid (Ad B b l (Cs (ss.take 0)) w w):=Ad.nil hB;clear hrow hB hn;go_enter Tryz.func30,Tryz.ntmps30
 go_wp2_with fail
 go_loopw [8] (fun i wr=>∃k:Nat,k<=n/\i=.int .i64 k/\Hid (Ad B b l (Cs (ss.take k)) w wr)) (fun i _=>n-(intOf i).toNat)
 case atStart=>exact⟨0,Nat.zero_le _,rfl,j⟩
 case round =>
  clear j;obtain⟨k,D,rfl,a⟩:=hrel;by_cases y:k<n
  ·obtain⟨s,d⟩:∃s,ss[k]?=some s:=⟨_,List.getElem?_eq_getElem (by have:=h.out;omega)⟩;have f:=a.out.2.kept (by decide) p.out hgb;have C:wr.cell? ⟨g,k,none⟩=some (.string s):=by
    rw[Aa f];simp[d]
   have x:g<wr.heap.size:=Ab f;have t:Hid (Calls _ _ _ _ _):=iL B b (l++Cs (ss.take k)) s wr a.out.1 (by
    have v:=fO ss (k+1);rw[Ro ss k s d,List.length_append] at v;rw[List.length_append];have:s.data.toList.length=s.size:=by simp
    omega)
   have r:Hid (Cs (ss.take (k+1))=_):=Ro ss k s d;clear d f;go_wp2_with (go_at_call 63;refine t.out.mono ?_;rintro e z ⟨⟨q,rfl⟩,o⟩;have u:Hid (Ad B b l (Cs (ss.take (k+1))) w z):=(by show Ad _ _ _ _ _ _;rw[r.out];exact a.out.trans o);clear o)
   go_roundw
   case rel=>exact⟨k+1,by omega,by go_num,u⟩
   case measure=>simp[intOf];omega
  ·obtain rfl:k=n:=by omega
   have m:ss.take k=ss:=List.take_of_length_le (by have:=h.out;omega);rw[m] at a;clear m;go_wp2_with fail
   go_end0
   exact⟨rfl,a.out⟩
theorem Ar (B b:Nat)(l:List UInt8)(w:World)(vs:Array Value)(ss:List ByteArray)(n:Nat)(T:List UInt8)(hvs:vs=(ss.map Value.string).toArray)(hn:n=ss.length)(hn9:n<=1000)(hT:T=Cs ss)(hB:Bld B b l w)(hlen:l.length+T.length<=140737488355328) :
  Calls Tryz.prog 30 #[.pointer (some ⟨b,0,none⟩),.slice (some ⟨w.heap.size,0,none⟩) n n] (w.alloc (.cells vs 9)) (Av B b l T w):=by
 subst hvs hT;have d:=hB.lt;refine(dS B b w.heap.size n l (w.alloc (.cells (ss.map Value.string).toArray 9)) ss n hn hn9 (Aj rfl) (by omega) (hB.grew ((Ag.refl w).alloc _)) hlen).mono ?_;rintro e f ⟨rfl,a,c⟩;exact⟨rfl,a,(Kp.grew ((Ag.refl w).alloc _) hB.low).trans c⟩
end Go.Proofs.YtjbfcadeapphbaaGreatDoor.Sx
namespace Go.Proofs.YtjbfcadeapphbaaGreatDoor.Sx
set_option maxRecDepth 100000
set_option maxHeartbeats 1000000
open Go.RowKit Go.Sort
def C9 (op:List UInt8):Nat:=if Ae op≠0 then Ae op else if op=oAt\/op=Xb then 13 else if op=Xc then 12 else if op=Uu then 14 else Bd op
theorem Qu {op:List UInt8}{kids:List PX}{x:PX}(h:Lk op kids x):C9 op=x.rk:=by
 rcases h with⟨d,a,b,rfl,rfl⟩|⟨rfl,rfl⟩|⟨rfl,rfl⟩|⟨rfl,rfl⟩|⟨rfl,f,k,rfl,rfl⟩|⟨rfl,f,k,v,rfl,rfl⟩|⟨rfl,a,rfl,rfl⟩|⟨c,a,rfl,rfl⟩|⟨c,a,rfl,rfl⟩|⟨c,rfl⟩
 ·have:Ae op≠0:=by
   simp only[Eu,List.map_cons,List.map_nil,List.mem_cons,List.not_mem_nil,or_false] at d;rcases d with rfl|rfl|rfl|rfl|rfl|rfl|rfl|rfl|rfl|rfl|rfl|rfl|rfl|rfl|rfl|rfl|rfl|rfl|rfl|rfl|rfl|rfl|rfl|rfl|rfl<;>decide
  unfold C9;rw[if_pos this];rfl
 ·show C9 dG=14;decide
 ·show C9 dH=14;decide
 ·show C9 Uu=14;decide
 ·show C9 oAt=13;decide
 ·show C9 Xb=13;decide
 ·show C9 Xc=12;decide
 ·show C9 op=6;simp only[Hf,List.mem_cons,List.not_mem_nil,or_false] at c;rcases c with rfl|rfl|rfl<;>decide
 ·show C9 op=12;simp only[Gr,List.mem_cons,List.not_mem_nil,or_false] at c;rcases c with rfl|rfl|rfl<;>decide
 ·show C9 op=14;simp only[Cz,List.mem_cons,List.not_mem_nil,or_false] at c;rcases c with rfl|rfl|rfl|rfl|rfl|rfl|rfl<;>decide
theorem Kg (a b c:Value)(w:World):(Instr.field 130 (.agg #[a,b,c]) 0).run Tryz.prog w=.ok a w:=by kernel_rfl
attribute [local go_sem] Kg
theorem Te (w:World)(be sort at' len cap:Nat)(op nm:ByteArray)(n:Int)(pa:Option Addr)(he:Ao w be sort op nm n at' pa len cap) :
  Calls Tryz.prog 137 #[.pointer (some ⟨be,0,none⟩)] w fun e w'=>e=.returned (.int .i64 (C9 op.data.toList:Int))/\Ag w w':=by
 have x:Hid (Ao w be sort op nm n at' pa len cap):=he;have E:=Aa he 1;have s:Hid (Calls _ _ _ _ _):=Hd op w;have y:Hid (∀W:World,_):=fun W=>Er op W;have a:op.toList=op.data.toList:=ByteArray.toList_eq op;clear he;have G:=follows;obtain⟨q,b⟩:∃q,C9 op.data.toList=q:=⟨_,rfl⟩;rw[b];have j:Hid (C9 op.data.toList=q):=b;clear b;by_cases o:Ae op.data.toList=0
 ·have d:Hid (Calls Tryz.prog 67 #[.string op] w fun e w'=>e=.returned (.agg #[.int .i64 (-1),.int .i64 0,.int .i64 0])/\Ag w w'):=by
   have:=s.out;unfold Jn at this;rw[if_pos o] at this;exact this
  have p:Hid (∀W,Ag w W->W.cell? ⟨be,1,none⟩=some (.string op)):=fun W g=>Aa (x.out.of (P:=fun _=>True) (Fr.grew g) trivial) 1;have b:=j.out;unfold C9 at b;rw[if_neg (by simpa using o)] at b;clear s o;cases i:(op.data.toList==oAt) with
  | true =>
   have A:(op.toList==[97,116])=true:=by rw[a];exact i
   rw[if_pos (.inl (eq_of_beq i))] at b;subst b;clear i a j;go_enter Tryz.func137,Tryz.ntmps137
   go_wp2_with (go_at_call 67;refine d.out.mono ?_;rintro e f ⟨rfl,c⟩;have t:=p.out f c;have h:Hid (Ag w f):=c;clear c)
   go_ret
   exact⟨rfl,h.out⟩
  | false =>
   have A:(op.toList==[97,116])=false:=by rw[a];exact i
   cases k:(op.data.toList==Xb) with
   | true =>
    have B:(op.toList==[112,117,116])=true:=by rw[a];exact k
    rw[if_pos (.inr (eq_of_beq k))] at b;subst b;clear i k a j;go_enter Tryz.func137,Tryz.ntmps137
    go_wp2_with (go_at_call 67;refine d.out.mono ?_;rintro e f ⟨rfl,c⟩;have t:=p.out f c;have h:Hid (Ag w f):=c;clear c)
    go_ret
    exact⟨rfl,h.out⟩
   | false =>
    have B:(op.toList==[112,117,116])=false:=by rw[a];exact k
    rw[if_neg (fun q=>by rcases q with q|q<;>simp[q] at i k)] at b;cases l:(op.data.toList==Xc) with
    | true =>
     have C:(op.toList==[110,101,103])=true:=by rw[a];exact l
     rw[if_pos (eq_of_beq l)] at b;subst b;clear i k l a j;go_enter Tryz.func137,Tryz.ntmps137
     go_wp2_with (go_at_call 67;refine d.out.mono ?_;rintro e f ⟨rfl,c⟩;have t:=p.out f c;have h:Hid (Ag w f):=c;clear c)
     go_ret
     exact⟨rfl,h.out⟩
    | false =>
     have C:(op.toList==[110,101,103])=false:=by rw[a];exact l
     rw[if_neg (fun q=>by simp[q] at l)] at b;cases m:(op.data.toList==Uu) with
     | true =>
      have D:(op.toList==[102,117,110])=true:=by rw[a];exact m
      rw[if_pos (eq_of_beq m)] at b;subst b;clear i k l m a j;go_enter Tryz.func137,Tryz.ntmps137
      go_wp2_with (go_at_call 67;refine d.out.mono ?_;rintro e f ⟨rfl,c⟩;have t:=p.out f c;have h:Hid (Ag w f):=c;clear c)
      go_ret
      exact⟨rfl,h.out⟩
     | false =>
      have D:(op.toList==[102,117,110])=false:=by rw[a];exact m
      rw[if_neg (fun q=>by simp[q] at m)] at b;have u:Hid (Bd op.data.toList=q):=b;clear i k l m a j b;go_enter Tryz.func137,Tryz.ntmps137
      go_wp2_with (first|(go_at_call 67;refine d.out.mono ?_;rintro e f ⟨rfl,c⟩;have t:=p.out f c;have h:Hid (Ag w f):=c;clear c)|(go_at_call 65;refine(y.out _).mono ?_;rintro e H ⟨rfl,z⟩;cases z))
      go_ret
      exact⟨by rw[u.out];rfl,h.out⟩
 ·have d:Hid (Calls Tryz.prog 67 #[.string op] w fun e w'=>e=.returned (.agg #[.int .i64 (Ae op.data.toList:Int),.int .i64 (Bh (Ae op.data.toList):Int),.int .i64 (Bg (Ae op.data.toList):Int)])/\Ag w w'):=by
   have:=s.out;unfold Jn at this;rw[if_neg o] at this;exact this
  have b:=j.out;unfold C9 at b;rw[if_pos o] at b;obtain⟨v,r⟩:∃v,Ae op.data.toList=v:=⟨_,rfl⟩;rw[r] at d b;subst b;have F:((v:Int) != -1)=true:=by rw[bne_iff_ne];omega
  clear s o j r a;go_enter Tryz.func137,Tryz.ntmps137
  go_wp2_with (go_at_call 67;refine d.out.mono ?_;rintro e f ⟨rfl,c⟩;have h:Hid (Ag w f):=c;clear c)
  go_ret
  exact⟨rfl,h.out⟩
theorem fP (op nm:List UInt8)(a b:PX)(ho:op∈Iu\/op∈Cp):Bd op=(Ds op nm a b).rk:=by
 simp only[Iu,Cp,List.mem_cons,List.not_mem_nil,or_false] at ho;rcases ho with(rfl|rfl|rfl|rfl)|(rfl|rfl)<;>rfl
theorem Xq (w:World)(be sort at' len cap:Nat)(op nm:ByteArray)(n:Int)(pa:Option Addr)(kids:List PX)(x:PX)(he:Ao w be sort op nm n at' pa len cap)(hm:M5 sort op.data.toList nm.data.toList n kids x) :
  Calls Tryz.prog 100 #[.pointer (some ⟨be,0,none⟩)] w fun e w'=>e=.returned (.int .i64 (x.rk:Int))/\Ag w w':=by
 have o:=Aa he 0;have p:=Aa he 1;have f:Hid (Calls _ _ _ _ _):=Te w be sort at' len cap op nm n pa he;have k:Hid (Calls _ _ _ _ _):=Er op w;clear he;have q:=follows;rcases hm with⟨rfl,-,-,rfl⟩|⟨rfl,rfl⟩|⟨rfl,rfl⟩|⟨rfl,rfl⟩|⟨rfl,rfl⟩|⟨rfl,rfl⟩|⟨rfl,rfl⟩|⟨rfl,rfl⟩|⟨rfl,a,b,c,rfl,rfl⟩|⟨rfl,a,b,rfl,rfl⟩|⟨rfl,h,a,b,rfl,rfl⟩|⟨l,d⟩
 case inr.inr.inr.inr.inr.inr.inr.inr.inr.inr.inl =>
  rw[<- fP _ nm.data.toList a b h];clear h;go_enter Tryz.func100,Tryz.ntmps100
  go_wp2_with (go_at_call 65;refine k.out.mono ?_;rintro e i ⟨rfl,m⟩;cases m)
  go_ret
  exact⟨rfl,Ag.refl _⟩
 case inr.inr.inr.inr.inr.inr.inr.inr.inr.inr.inr =>
  rw[<- Qu d];clear d;rcases l with rfl|rfl
  all_goals
   go_enter Tryz.func100,Tryz.ntmps100
   go_wp2_with (go_at_call 137;refine f.out.mono ?_;rintro e i ⟨rfl,g⟩;have j:Hid (Ag w i):=g;clear g)
   go_ret
   exact⟨rfl,j.out⟩
 all_goals
  go_enter Tryz.func100,Tryz.ntmps100
  go_wp2_with fail
  go_ret
  exact⟨rfl,Ag.refl _⟩
end Go.Proofs.YtjbfcadeapphbaaGreatDoor.Sx
namespace Go.Proofs.YtjbfcadeapphbaaGreatDoor.Sx
set_option maxRecDepth 100000
set_option maxHeartbeats 1000000
open Go.RowKit Go.Sort
def WrE (n:Nat):Prop:=∀(B b:Nat)(l:List UInt8)(w:World)(x:PX)(v:Value),A7 (·<B) w n x v->Bld B b l w->l.length+x.tx.length<=140737488355328->Calls Tryz.prog 15 #[.pointer (some ⟨b,0,none⟩),v] w (Av B b l x.tx w)
theorem A7.kp {B b n:Nat}{w w':World}{x:PX}{v:Value}(h:A7 (·<B) w n x v)(k:Kp B b w w'):A7 (·<B) w' n x v:=A7.fr (frB k.1) (fun _ _ q=>q) n x v h
theorem Ca.kp {B b n:Nat}{w w':World}{a:Option Addr}{len:Nat}{es:List PX}(h:Ca (·<B) w (A7 (·<B) w n) a len es)(k:Kp B b w w'):Ca (·<B) w' (A7 (·<B) w' n) a len es:=Ca.fr (frB k.1) (fun _ _ h=>h.kp k) (fun _ _ q=>q) h
theorem Ao.kp {B b be sort at' len cap:Nat}{op nm:ByteArray}{n:Int}{pa:Option Addr}{w w':World}(h:Ao w be sort op nm n at' pa len cap)(k:Kp B b w w')(hb:be<B):Ao w' be sort op nm n at' pa len cap:=h.of (frB k.1) hb
theorem Ad.kp {B b:Nat}{l t:List UInt8}{w w':World}(h:Ad B b l t w w'):Kp B b w w':=h.2
theorem Ad.grew {B b:Nat}{l t:List UInt8}{w w' w2:World}(h:Ad B b l t w w')(g:Ag w' w2):Ad B b l t w w2:=⟨h.1.grew g,h.2.trans (Kp.grew g h.1.low)⟩
theorem Ad.put {B b:Nat}{l t s u:List UInt8}{w w1 w2:World}(h:Ad B b l t w w1)(k:Ad B b (l++t) s w1 w2)(e:t++s=u):Ad B b l u w w2:=by rw[<- e];exact h.trans k
theorem Fv {n:Nat}(hW:WrE n)(B b:Nat)(l:List UInt8)(w:World)(x:PX)(v:Value)(q:Nat)(hx:A7 (·<B) w n x v)(hB:Bld B b l w)(hlen:l.length+(A9 x q).length<=140737488355328) :
  Calls Tryz.prog 66 #[.pointer (some ⟨b,0,none⟩),v,.int .i64 (q:Int)] w (Av B b l (A9 x q) w):=by
 have C:Hid (A7 (·<B) w n x v):=hx;have L:Hid (Bld B b l w):=hB;have A:Hid (WrE n):=hW;obtain⟨g,rfl,o⟩:∃g,v=.pointer (some ⟨g,0,none⟩)/\Hid (Calls Tryz.prog 100 #[.pointer (some ⟨g,0,none⟩)] w fun e w'=>e=.returned (.int .i64 (x.rk:Int))/\Ag w w'):=by
  cases n with
  | zero=>exact absurd hx id
  | succ n =>
   obtain⟨g,k,I,H,i,a,J,z,u,j,rfl,M,F,N,G⟩:=hx;exact⟨g,rfl,Xq w g k a z u I H i J j x F G⟩
 have p:Hid (Ad B b l [] w w):=Ad.nil hB;clear hx hB hW;unfold A9 at hlen |-;by_cases r:x.rk<q
 ·rw[if_pos r] at hlen |-;have y:¬(q:Int)<=(x.rk:Int):=by omega
  clear r;simp only[List.length_cons,List.length_append,List.length_nil] at hlen;go_enter Tryz.func66,Tryz.ntmps66
  go_wp2_with (go_at_call 100;refine o.out.mono ?_;rintro e m ⟨rfl,h⟩;have d:Hid (Ad B b l [] w m):=p.out.grew h;clear h)
  refine(Ar B b (l++[]) m _ [⟨#[40]⟩] 1 [40] rfl rfl (by decide) rfl d.out.1 (by simp;omega)).mono ?_;rintro e s ⟨rfl,c⟩;have f:Hid (Ad B b l [40] w s):=d.out.put c rfl;clear c d p o;go_wp2_with fail
  refine(A.out B b (l++[40]) s x _ (C.out.kp f.out.kp) f.out.1 (by simp;omega)).mono ?_;rintro e D ⟨rfl,c⟩;have t:Hid (Ad B b l (40::x.tx) w D):=f.out.put c rfl;clear c f;go_wp2_with fail
  refine(Ar B b (l++(40::x.tx)) D _ [⟨#[41]⟩] 1 [41] rfl rfl (by decide) rfl t.out.1 (by simp;omega)).mono ?_;rintro e K ⟨rfl,c⟩;have E:Hid (Ad B b l (40::(x.tx++[41])) w K):=t.out.put c rfl;clear c t;go_wp2_with fail
  go_end0
  exact⟨rfl,E.out⟩
 ·rw[if_neg r] at hlen |-;have y:(q:Int)<=(x.rk:Int):=by omega
  clear r;go_enter Tryz.func66,Tryz.ntmps66
  go_wp2_with (go_at_call 100;refine o.out.mono ?_;rintro e m ⟨rfl,h⟩;have d:Hid (Ad B b l [] w m):=p.out.grew h;clear h)
  refine(A.out B b (l++[]) m x _ (C.out.kp d.out.kp) d.out.1 (by simp;omega)).mono ?_;rintro e s ⟨rfl,c⟩;have f:Hid (Ad B b l x.tx w s):=d.out.put c rfl;clear c d p o;go_wp2_with fail
  refine bodyPost_ret (results_none rfl _ _ _) rfl ?_;exact⟨rfl,f.out⟩
def H0 (sep:Nat->List UInt8)(kids:List PX)(k:Nat):List UInt8:=Bq sep 0 ((kids.take k).map PX.tx)
theorem Jd (sep:Nat->List UInt8)(a:List UInt8):∀(l:List (List UInt8))(i:Nat),Bq sep i (l++[a])=Bq sep i l++(sep (i+l.length)++a)
 | [],i=>by simp[Bq]
 | c::l,i=>by
  have:=Jd sep a l (i+1);simp only[List.cons_append,Bq,List.length_cons] at this |-;rw[this,show i+1+l.length=i+(l.length+1) from by omega];simp
theorem Rp (sep:Nat->List UInt8)(kids:List PX)(k:Nat)(x:PX)(h:kids[k]?=some x):H0 sep kids (k+1)=H0 sep kids k++(sep k++x.tx):=by
 have a:=(List.getElem?_eq_some_iff.1 h).1;unfold H0;rw[List.take_add_one,h,Option.toList_some,List.map_append,List.map_cons,List.map_nil,Jd];simp only[List.length_map,List.length_take,Nat.zero_add];rw[show min k kids.length=k from by omega]
theorem Va (sep:Nat->List UInt8)(kids:List PX)(k:Nat)(h:kids.length<=k):H0 sep kids k=Bq sep 0 (kids.map PX.tx):=by
 unfold H0;rw[List.take_of_length_le h]
theorem Kz (sep:Nat->List UInt8):∀(l m:List (List UInt8))(i:Nat),(Bq sep i l).length<=(Bq sep i (l++m)).length
 | [],m,i=>by simp[Bq]
 | c::l,m,i=>by
  have:=Kz sep l m (i+1);simp only[List.cons_append,Bq,List.length_append] at this |-;omega
theorem Zg (sep:Nat->List UInt8)(kids:List PX)(k:Nat):(H0 sep kids k).length<=(Bq sep 0 (kids.map PX.tx)).length:=by
 have:=Kz sep ((kids.take k).map PX.tx) ((kids.drop k).map PX.tx) 0;rw[<- List.map_append,List.take_append_drop] at this;exact this
theorem Zh {P:Nat->Prop}{w:World}{R:PX->Value->Prop}{a:Option Addr}{len:Nat}{es:List PX}(h:Ca P w R a len es){k:Nat}(hk:k<len):∃b off x v,a=some ⟨b,off,none⟩/\b<w.heap.size/\es[k]?=some x/\w.cell? ⟨b,off+k,none⟩=some v/\R x v:=by
 obtain⟨l,-,d⟩:=h;obtain⟨b,off,e,g,-,f⟩:=d.resolve_left (by omega);obtain⟨x,c⟩:∃x,es[k]?=some x:=⟨_,List.getElem?_eq_getElem (by omega)⟩;obtain⟨v,j,i⟩:=f k x c;exact⟨b,off,x,v,e,g,c,j,i⟩
theorem A7.ptr {P:Nat->Prop}{w:World}{n:Nat}{x:PX}{v:Value}(h:A7 P w n x v):∃b,v=.pointer (some ⟨b,0,none⟩):=by
 obtain⟨b,a,-⟩:=Af.ptr ⟨n,h⟩;exact⟨b,a⟩
theorem Kh {n:Nat}(hW:WrE n)(B b:Nat)(l:List UInt8)(w:World)(op cl:ByteArray)(pa:Option Addr)(len cap:Nat)(kids:List PX)(hr:Ca (·<B) w (A7 (·<B) w n) pa len kids)(hB:Bld B b l w)
  (hlen:l.length+(op.data.toList++(C0 kids++cl.data.toList)).length<=140737488355328) :
  Calls Tryz.prog 32 #[.pointer (some ⟨b,0,none⟩),.string op,.slice pa len cap,.string cl] w (Av B b l (op.data.toList++(C0 kids++cl.data.toList)) w):=by
 have G:Hid (Ca (·<B) w (A7 (·<B) w n) pa len kids):=hr;have E:Hid (Bld B b l w):=hB;have z:Hid (WrE n):=hW;have F:Hid (len=kids.length):=hr.1;have K:len<=4294967296:=hr.2.1;have r:op.data.toList.length=op.size:=by simp
 have s:cl.data.toList.length=cl.size:=by simp
 simp only[List.length_append] at hlen;have u:Hid (l.length+(op.data.toList.length+((C0 kids).length+cl.data.toList.length))<=140737488355328):=hlen;clear hr hB hW hlen r s;go_enter Tryz.func32,Tryz.ntmps32
 go_wp2_with fail
 refine(Ar B b l w _ [op] 1 op.data.toList rfl rfl (by decide) (by simp[Cs]) E.out (by have:=u.out;omega)).mono ?_;rintro e O ⟨rfl,a⟩;have c:Hid (Ad B b l (op.data.toList++H0 Cm kids 0) w O):=by
  show Ad _ _ _ _ _ _;rw[show H0 Cm kids 0=[] from rfl,List.append_nil];exact a
 clear a;go_wp2_with fail
 go_loopw [16] (fun i wr=>∃k:Nat,k<=len/\i=.int .i64 k/\Hid (Ad B b l (op.data.toList++H0 Cm kids k) w wr)) (fun i _=>len-(intOf i).toNat)
 case atStart=>exact⟨0,Nat.zero_le _,rfl,c⟩
 case round =>
  clear c;obtain⟨k,R,rfl,c⟩:=hrel;by_cases y:k<len
  ·obtain⟨S,N,x,v,rfl,L,D,M,h⟩:=Zh (G.out.kp c.out.kp) y;obtain⟨Q,rfl⟩:=h.ptr;have t:Hid (A7 (·<B) wr n x _):=h;have j:=Rp Cm kids k x D;have q:=Zg Cm kids (k+1);have p:(C0 kids).length=(Bq Cm 0 (kids.map PX.tx)).length:=rfl;rw[j,List.length_append,List.length_append,<- p] at q;have f:Hid (H0 Cm kids (k+1)=_):=j;have J:=u.out;have d:Hid ((l++(op.data.toList++H0 Cm kids k)).length+((Cm k).length+x.tx.length)<=140737488355328):=by
    show _<=_;simp only[List.length_append];omega
   clear D h j q p J;by_cases A:k=0
   ·subst A;rw[Nat.add_zero] at M;go_wp2_with fail
    refine(z.out B b _ wr x _ t.out c.out.1 (by have:=d.out;omega)).mono ?_;rintro e m ⟨rfl,a⟩;have g:Hid (Ad B b l (op.data.toList++H0 Cm kids (0+1)) w m):=c.out.put a (by rw[f.out];simp[Cm]);clear a c t f d;go_wp2_with fail
    go_roundw
    case rel=>exact⟨0+1,by omega,by go_num,g⟩
    case measure=>simp[intOf];omega
   ·have I:(0:Int)<(k:Int):=by omega
    have C:Cm k=[44,32]:=by unfold Cm;rw[if_neg A]
    rw[C] at d f;clear C;go_wp2_with fail
    refine(Ar B b _ wr _ [⟨#[44,32]⟩] 1 [44,32] rfl rfl (by decide) rfl c.out.1 (by have:=d.out;simp only[List.length_cons,List.length_nil] at this |-;omega)).mono ?_;rintro e m ⟨rfl,a⟩;have g:Hid (Ad B b l ((op.data.toList++H0 Cm kids k)++[44,32]) w m):=c.out.put a rfl;have o:Hid (A7 (·<B) m n x _):=t.out.kp a.kp;clear a c t;go_wp2_with fail
    refine(z.out B b _ m x _ o.out g.out.1 (by have:=d.out;simp only[List.length_append,List.length_cons,List.length_nil] at this |-;omega)).mono ?_;rintro e P ⟨rfl,a⟩;have H:Hid (Ad B b l (op.data.toList++H0 Cm kids (k+1)) w P):=g.out.put a (by rw[f.out];simp);clear a g o f d;go_wp2_with fail
    go_roundw
    case rel=>exact⟨k+1,by omega,by go_num,H⟩
    case measure=>simp[intOf];omega
  ·obtain rfl:k=len:=by omega
   rw[Va Cm kids k (by have:=F.out;omega)] at c;go_wp2_with fail
   refine(Ar B b _ wr _ [cl] 1 cl.data.toList rfl rfl (by decide) (by simp[Cs]) c.out.1 (by have:=u.out;simp only[List.length_append,C0] at this |-;omega)).mono ?_;rintro e m ⟨rfl,a⟩;have g:Hid (Ad B b l (op.data.toList++(C0 kids++cl.data.toList)) w m):=c.out.put a (by simp[C0]);clear a c;go_wp2_with fail
   go_end0
   exact⟨rfl,g.out⟩
theorem Qv {n:Nat}(hW:WrE n)(B b:Nat)(l:List UInt8)(w:World)(pa:Option Addr)(len cap:Nat)(kids:List PX)(hr:Ca (·<B) w (A7 (·<B) w n) pa len kids)(hB:Bld B b l w)
  (hlen:l.length+(91::(Bq C5 0 (kids.map PX.tx)++[93])).length<=140737488355328) :
  Calls Tryz.prog 68 #[.pointer (some ⟨b,0,none⟩),.slice pa len cap] w (Av B b l (91::(Bq C5 0 (kids.map PX.tx)++[93])) w):=by
 have H:Hid (Ca (·<B) w (A7 (·<B) w n) pa len kids):=hr;have F:Hid (Bld B b l w):=hB;have u:Hid (WrE n):=hW;have G:Hid (len=kids.length):=hr.1;have K:len<=4294967296:=hr.2.1;simp only[List.length_append,List.length_cons,List.length_nil] at hlen;have t:Hid (l.length+((Bq C5 0 (kids.map PX.tx)).length+2)<=140737488355328):=by show _<=_;omega
 clear hr hB hW hlen;go_enter Tryz.func68,Tryz.ntmps68
 go_wp2_with fail
 refine(Ar B b l w _ [⟨#[91]⟩] 1 [91] rfl rfl (by decide) rfl F.out (by have:=t.out;simp;omega)).mono ?_;rintro e O ⟨rfl,a⟩;have f:Hid (Ad B b l (91::H0 C5 kids 0) w O):=a;clear a;go_wp2_with fail
 go_loopw [11] (fun i wr=>∃k:Nat,k<=len/\i=.int .i64 k/\Hid (Ad B b l (91::H0 C5 kids k) w wr)) (fun i _=>len-(intOf i).toNat)
 case atStart=>exact⟨0,Nat.zero_le _,rfl,f⟩
 case round =>
  clear f;obtain⟨k,Q,rfl,f⟩:=hrel;by_cases A:k<len
  ·obtain⟨R,N,x,v,rfl,L,E,M,m⟩:=Zh (H.out.kp f.out.kp) A;obtain⟨P,rfl⟩:=m.ptr;have p:Hid (A7 (·<B) wr n x _):=m;have o:=Rp C5 kids k x E;have s:=Zg C5 kids (k+1);rw[o,List.length_append,List.length_append] at s;have d:Hid (H0 C5 kids (k+1)=_):=o;have J:=t.out;have c:Hid ((l++(91::H0 C5 kids k)).length+((C5 k).length+x.tx.length)<=140737488355328):=by
    show _<=_;simp only[List.length_append,List.length_cons];omega
   clear E m o s J;by_cases q:k % 2=1
   ·have r:C5 k=[58,32]:=by unfold C5;rw[if_pos q]
    rw[r] at c d;have D:(k:Int).tmod 2=1:=by rw[Int.tmod_eq_emod_of_nonneg (by omega)];omega
    clear r q;go_wp2_with fail
    refine(Ar B b _ wr _ [⟨#[58,32]⟩] 1 [58,32] rfl rfl (by decide) rfl f.out.1 (by have:=c.out;simp only[List.length_cons,List.length_nil] at this |-;omega)).mono ?_;rintro e j ⟨rfl,a⟩;have h:Hid (Ad B b l ((91::H0 C5 kids k)++[58,32]) w j):=f.out.put a rfl;have g:Hid (A7 (·<B) j n x _):=p.out.kp a.kp;clear a f p;go_wp2_with fail
    refine(u.out B b _ j x _ g.out h.out.1 (by have:=c.out;simp only[List.length_append,List.length_cons,List.length_nil] at this |-;omega)).mono ?_;rintro e C ⟨rfl,a⟩;have y:Hid (Ad B b l (91::H0 C5 kids (k+1)) w C):=h.out.put a (by rw[d.out];simp);clear a h g d c;go_wp2_with fail
    go_roundw
    case rel=>exact⟨k+1,by omega,by go_num,y⟩
    case measure=>simp[intOf];omega
   have D:(k:Int).tmod 2=0:=by rw[Int.tmod_eq_emod_of_nonneg (by omega)];omega
   by_cases z:k=0
   ·subst z;rw[Nat.add_zero] at M;clear D q;go_wp2_with fail
    refine(u.out B b _ wr x _ p.out f.out.1 (by have:=c.out;omega)).mono ?_;rintro e j ⟨rfl,a⟩;have h:Hid (Ad B b l (91::H0 C5 kids (0+1)) w j):=f.out.put a (by rw[d.out];simp[C5]);clear a f p d c;go_wp2_with fail
    go_roundw
    case rel=>exact⟨0+1,by omega,by go_num,h⟩
    case measure=>simp[intOf];omega
   ·have I:(0:Int)<(k:Int):=by omega
    have r:C5 k=[44,32]:=by unfold C5;rw[if_neg q,if_neg z]
    rw[r] at c d;clear r q z;go_wp2_with fail
    refine(Ar B b _ wr _ [⟨#[44,32]⟩] 1 [44,32] rfl rfl (by decide) rfl f.out.1 (by have:=c.out;simp only[List.length_cons,List.length_nil] at this |-;omega)).mono ?_;rintro e j ⟨rfl,a⟩;have h:Hid (Ad B b l ((91::H0 C5 kids k)++[44,32]) w j):=f.out.put a rfl;have g:Hid (A7 (·<B) j n x _):=p.out.kp a.kp;clear a f p;go_wp2_with fail
    refine(u.out B b _ j x _ g.out h.out.1 (by have:=c.out;simp only[List.length_append,List.length_cons,List.length_nil] at this |-;omega)).mono ?_;rintro e C ⟨rfl,a⟩;have y:Hid (Ad B b l (91::H0 C5 kids (k+1)) w C):=h.out.put a (by rw[d.out];simp);clear a h g d c;go_wp2_with fail
    go_roundw
    case rel=>exact⟨k+1,by omega,by go_num,y⟩
    case measure=>simp[intOf];omega
  ·obtain rfl:k=len:=by omega
   rw[Va C5 kids k (by have:=G.out;omega)] at f;go_wp2_with fail
   refine(Ar B b _ wr _ [⟨#[93]⟩] 1 [93] rfl rfl (by decide) rfl f.out.1 (by have:=t.out;simp only[List.length_append,List.length_cons,List.length_nil] at this |-;omega)).mono ?_;rintro e j ⟨rfl,a⟩;have h:Hid (Ad B b l (91::(Bq C5 0 (kids.map PX.tx)++[93])) w j):=f.out.put a (by simp);clear a f;go_wp2_with fail
   go_end0
   exact⟨rfl,h.out⟩
theorem kD {B n:Nat}{w:World}{pa:Option Addr}{len:Nat}{a:PX}(h:Ca (·<B) w (A7 (·<B) w n) pa len [a]) :
  len=1/\∃pb off,pa=some ⟨pb,off,none⟩/\pb<B/\pb<w.heap.size/\∃x0,w.cell? ⟨pb,off,none⟩=some (.pointer (some ⟨x0,0,none⟩))/\A7 (·<B) w n a (.pointer (some ⟨x0,0,none⟩)):=by
 obtain⟨b,-,f⟩:=h;simp at b;obtain⟨pb,off,e,j,i,g⟩:=f.resolve_left (by omega);obtain⟨k,d,c⟩:=g 0 a rfl;obtain⟨x0,rfl⟩:=c.ptr;exact⟨b,pb,off,e,i,j,x0,d,c⟩
theorem dT {B n:Nat}{w:World}{pa:Option Addr}{len:Nat}{a b:PX}(h:Ca (·<B) w (A7 (·<B) w n) pa len [a,b]) :
  len=2/\∃pb off,pa=some ⟨pb,off,none⟩/\pb<B/\pb<w.heap.size/\∃x0,w.cell? ⟨pb,off,none⟩=some (.pointer (some ⟨x0,0,none⟩))/\A7 (·<B) w n a (.pointer (some ⟨x0,0,none⟩)) /\
   ∃x1,w.cell? ⟨pb,off+1,none⟩=some (.pointer (some ⟨x1,0,none⟩))/\A7 (·<B) w n b (.pointer (some ⟨x1,0,none⟩)):=by
 obtain⟨c,-,k⟩:=h;simp at c;obtain⟨pb,off,e,m,l,d⟩:=k.resolve_left (by omega);obtain⟨o,i,f⟩:=d 0 a rfl;obtain⟨x0,rfl⟩:=f.ptr;obtain⟨p,j,g⟩:=d 1 b rfl;obtain⟨x1,rfl⟩:=g.ptr;exact⟨c,pb,off,e,l,m,x0,i,f,x1,j,g⟩
theorem kE {B n:Nat}{w:World}{pa:Option Addr}{len:Nat}{a b c:PX}(h:Ca (·<B) w (A7 (·<B) w n) pa len [a,b,c]) :
  len=3/\∃pb off,pa=some ⟨pb,off,none⟩/\pb<B/\pb<w.heap.size/\∃x0,w.cell? ⟨pb,off,none⟩=some (.pointer (some ⟨x0,0,none⟩))/\A7 (·<B) w n a (.pointer (some ⟨x0,0,none⟩)) /\
   ∃x1,w.cell? ⟨pb,off+1,none⟩=some (.pointer (some ⟨x1,0,none⟩))/\A7 (·<B) w n b (.pointer (some ⟨x1,0,none⟩)) /\
   ∃x2,w.cell? ⟨pb,off+2,none⟩=some (.pointer (some ⟨x2,0,none⟩))/\A7 (·<B) w n c (.pointer (some ⟨x2,0,none⟩)):=by
 obtain⟨f,-,o⟩:=h;simp at f;obtain⟨pb,off,e,q,p,d⟩:=o.resolve_left (by omega);obtain⟨r,k,g⟩:=d 0 a rfl;obtain⟨x0,rfl⟩:=g.ptr;obtain⟨s,l,i⟩:=d 1 b rfl;obtain⟨x1,rfl⟩:=i.ptr;obtain⟨t,m,j⟩:=d 2 c rfl;obtain⟨x2,rfl⟩:=j.ptr;exact⟨f,pb,off,e,p,q,x0,k,g,x1,l,i,x2,m,j⟩
theorem Vb {n:Nat}(hW:WrE n)(B b be sort at' len cap:Nat)(l:List UInt8)(w:World)(op nm:ByteArray)(i:Int)(pa:Option Addr)(ka kb kc:PX)(he:Ao w be sort op nm i at' pa len cap)(hbe:be<B)(hr:Ca (·<B) w (A7 (·<B) w n) pa len [ka,kb,kc])(hB:Bld B b l w)
  (hlen:l.length+((dIf ka kb kc).tx).length<=140737488355328) :
  Calls Tryz.prog 33 #[.pointer (some ⟨b,0,none⟩),.pointer (some ⟨be,0,none⟩)] w (Av B b l ((dIf ka kb kc).tx) w):=by
 have x:Hid (Ao w be sort op nm i at' pa len cap):=he;have D:Hid (WrE n):=hW;have HB:Hid (Bld B b l w):=hB;have A:Hid (Ad B b l ([]:List UInt8) w w):=Ad.nil hB;have q:Hid (l.length+((dIf ka kb kc).tx).length<=140737488355328):=hlen;obtain⟨rfl,C,v,H,u,U,X,I,L,Y,J,M,Z,K,N⟩:=kE hr;subst H;have E:Hid (A7 (·<B) w n _ _):=L;have c:Hid (∀W,Kp B b w W->W.cell? ⟨C,v,none⟩=some (.pointer (some ⟨X,0,none⟩))):=fun W k=>(World.cell?_of_block (w:=w) (k.1.block C u)).trans I;have F:Hid (A7 (·<B) w n _ _):=M;have d:Hid (∀W,Kp B b w W->W.cell? ⟨C,v+1,none⟩=some (.pointer (some ⟨Y,0,none⟩))):=fun W k=>(World.cell?_of_block (w:=w) (k.1.block C u)).trans J;have G:Hid (A7 (·<B) w n _ _):=N;have f:Hid (∀W,Kp B b w W->W.cell? ⟨C,v+2,none⟩=some (.pointer (some ⟨Z,0,none⟩))):=fun W k=>(World.cell?_of_block (w:=w) (k.1.block C u)).trans K;clear I L J M K N;clear he hW hB hr hlen;simp only[dIf] at q |-;go_enter Tryz.func33,Tryz.ntmps33
 have g:=Aa (x.out.kp A.out.kp hbe) 5;have m:=c.out _ A.out.kp;have o:=d.out _ A.out.kp;have p:=f.out _ A.out.kp;go_wp2_with fail
 clear g m o p;refine(Ar B b _ w _ [⟨#[105,102,32]⟩] 1 [105,102,32] rfl rfl (by decide) (by simp[Cs]) A.out.1 (by have j:=q.out;simp only[List.length_append,List.length_cons,List.length_nil] at j |-;omega)).mono ?_;rintro e O ⟨rfl,a⟩;have r:Hid (Ad B b l (([]:List UInt8)++[105,102,32]) w O):=A.out.put a rfl;clear a;have g:=Aa (x.out.kp r.out.kp hbe) 5;have m:=c.out _ r.out.kp;have o:=d.out _ r.out.kp;have p:=f.out _ r.out.kp;go_wp2_with fail
 clear g m o p;refine(D.out B b _ O ka _ (E.out.kp r.out.kp) r.out.1 (by have j:=q.out;simp only[List.length_append,List.length_cons,List.length_nil] at j |-;omega)).mono ?_;rintro e P ⟨rfl,a⟩;have y:Hid (Ad B b l ((([]:List UInt8)++[105,102,32])++ka.tx) w P):=r.out.put a rfl;clear a;have g:=Aa (x.out.kp y.out.kp hbe) 5;have m:=c.out _ y.out.kp;have o:=d.out _ y.out.kp;have p:=f.out _ y.out.kp;go_wp2_with fail
 clear g m o p;refine(Ar B b _ P _ [⟨#[32,116,104,101,110,32]⟩] 1 [32,116,104,101,110,32] rfl rfl (by decide) (by simp[Cs]) y.out.1 (by have j:=q.out;simp only[List.length_append,List.length_cons,List.length_nil] at j |-;omega)).mono ?_;rintro e Q ⟨rfl,a⟩;have s:Hid (Ad B b l (((([]:List UInt8)++[105,102,32])++ka.tx)++[32,116,104,101,110,32]) w Q):=y.out.put a rfl;clear a;have g:=Aa (x.out.kp s.out.kp hbe) 5;have m:=c.out _ s.out.kp;have o:=d.out _ s.out.kp;have p:=f.out _ s.out.kp;go_wp2_with fail
 clear g m o p;refine(D.out B b _ Q kb _ (F.out.kp s.out.kp) s.out.1 (by have j:=q.out;simp only[List.length_append,List.length_cons,List.length_nil] at j |-;omega)).mono ?_;rintro e R ⟨rfl,a⟩;have z:Hid (Ad B b l ((((([]:List UInt8)++[105,102,32])++ka.tx)++[32,116,104,101,110,32])++kb.tx) w R):=s.out.put a rfl;clear a;have g:=Aa (x.out.kp z.out.kp hbe) 5;have m:=c.out _ z.out.kp;have o:=d.out _ z.out.kp;have p:=f.out _ z.out.kp;go_wp2_with fail
 clear g m o p;refine(Ar B b _ R _ [⟨#[32,101,108,115,101,32]⟩] 1 [32,101,108,115,101,32] rfl rfl (by decide) (by simp[Cs]) z.out.1 (by have j:=q.out;simp only[List.length_append,List.length_cons,List.length_nil] at j |-;omega)).mono ?_;rintro e S ⟨rfl,a⟩;have t:Hid (Ad B b l (((((([]:List UInt8)++[105,102,32])++ka.tx)++[32,116,104,101,110,32])++kb.tx)++[32,101,108,115,101,32]) w S):=z.out.put a rfl;clear a;have g:=Aa (x.out.kp t.out.kp hbe) 5;have m:=c.out _ t.out.kp;have o:=d.out _ t.out.kp;have p:=f.out _ t.out.kp;go_wp2_with fail
 clear g m o p;refine(D.out B b _ S kc _ (G.out.kp t.out.kp) t.out.1 (by have j:=q.out;simp only[List.length_append,List.length_cons,List.length_nil] at j |-;omega)).mono ?_;rintro e V ⟨rfl,a⟩;have T:Hid (Ad B b l ((((((([]:List UInt8)++[105,102,32])++ka.tx)++[32,116,104,101,110,32])++kb.tx)++[32,101,108,115,101,32])++kc.tx) w V):=t.out.put a rfl;clear a;go_wp2_with fail
 go_end0
 exact⟨rfl,by have h:=T.out;simpa using h⟩
end Go.Proofs.YtjbfcadeapphbaaGreatDoor.Sx
