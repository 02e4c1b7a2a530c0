/- The writer: parts, with brackets where they are asked for. -/
import Derived.Test.YthcndopglfkmiaaGreatDoorK08
import Derived.Lib.AppendStr
import Derived.Lib.UnsafeStr
import Derived.Lib.LaidTab
import Derived.Lib.OthersKept
import Derived.Lib.OwnKind
import Derived.Shelf.Strings.Builder1
import Derived.Deep.Cut
import Derived.Test.YthcndopglfkmiaaGreatDoorK09
namespace Go.Proofs.YthcndopglfkmiaaGreatDoor.Sx
set_option maxRecDepth 100000
set_option maxHeartbeats 2000000
open Go.RowKit Go.Sort
theorem jV:(Tryz.prog.info? 5).map (fun i=>(i.zero,i.size,i.bytes))=some (some (.int .u8 0),1,1):=by kernel_rfl
def gO:Go.Shelf.Ren:=⟨fun|240=>90|276=>122|n=>n,fun|0=>0|4=>4|9=>9|20=>20|70=>36|72=>39|37=>37|5=>5|164=>128|n=>n,fun|n=>n⟩
theorem iC:Lays.n240 Tryz.prog gO:={
 mixed:=by kernel_rfl
 f240:=Tryz.func90.trans (congrArg some (by kernel_rfl))
 f276:=Tryz.func122.trans (congrArg some (by kernel_rfl))
 t0:=Tryz.underlying0
 a0:=Tryz.isAgg0
 z0:=Tryz.sizeOf0
 v0:=Tryz.zeroValue0
 t4:=Tryz.underlying4
 a4:=Tryz.isAgg4
 z4:=Tryz.sizeOf4
 v4:=Tryz.zeroValue4
 t9:=Tryz.underlying9
 a9:=Tryz.isAgg9
 z9:=Tryz.sizeOf9
 v9:=Tryz.zeroValue9
 t20:=Tryz.underlying20
 a20:=Tryz.isAgg20
 z20:=Tryz.sizeOf20
 v20:=Tryz.zeroValue20
 t70:=Tryz.underlying36
 a70:=Tryz.isAgg36
 z70:=Tryz.sizeOf36
 v70:=Tryz.zeroValue36
 t72:=Tryz.underlying39
 a72:=Tryz.isAgg39
 z72:=Tryz.sizeOf39
 v72:=Tryz.zeroValue39
 t164:=Tryz.underlying128
 a164:=Tryz.isAgg128
 z164:=Tryz.sizeOf128
 v164:=Tryz.zeroValue128 }
theorem ccX:Builder.X72 Tryz.prog gO:={
 sizeBuilder:=by kernel_rfl
 liesBuilder:=by kernel_rfl }
theorem fJ (b:Nat)(w:World)(h0:w.cell? ⟨b,0,none⟩=some (.pointer (some ⟨b,0,none⟩))) :
  Calls Tryz.prog 90 #[.pointer (some ⟨b,0,none⟩)] w fun e w'=>e=.returned (.tuple #[])/\w'=w:=Any.Builder_copyCheck_used iC ccX b w h0
theorem U1:(Tryz.prog.info? 39).map (·.size)=some 2:=by kernel_rfl
theorem U3:liesAt Tryz.prog Tryz.prog.depth 41 (2 / Tryz.prog.cellsOf 41) 0 39 1=true:=by kernel_rfl
theorem dM (b:Nat)(w:World)(h0:w.cell? ⟨b,0,none⟩=some (.pointer none))(hsh:w.shape? b=some (41,2))(hfz:w.frozen? ⟨b,0,none⟩=false) :
  Calls Tryz.prog 90 #[.pointer (some ⟨b,0,none⟩)] w fun e w'=>e=.returned (.tuple #[])/\w'=w.setCell ⟨b,0,none⟩ (.pointer (some ⟨b,0,none⟩)):=by
 obtain⟨j,c,a⟩:=Option.map_eq_some_iff.1 U1;go_enter Tryz.func90,Tryz.ntmps90
 go_wp2
 rw[Lib.run_to_unsafe w ⟨b,0,none⟩ Tryz.underlying36 Tryz.underlying128 c (by rw[a];decide) hsh (Nat.zero_lt_succ 1)];simp only[Result.andThen];rw[Oper.upon_value];go_wp2
 rw[run_callFunc_extern Tryz.func122 (by kernel_rfl) (by kernel_rfl) (by kernel_rfl) (e:=Extern.AbiNoEscape.same) (by kernel_rfl)];rw[Lib.run_noEscape];simp only[Result.andThen];rw[Oper.upon_value];go_wp2
 rw[Lib.run_from_unsafe w ⟨b,0,none⟩ Tryz.underlying128 Tryz.underlying36 c hsh U3];simp only[Result.andThen];rw[Oper.upon_value];go_wp2
 go_end0
 exact⟨rfl,rfl⟩
theorem iD (B b:Nat)(bs:List Value)(w:World)(h:Lib.IsBuilder 41 5 B b bs w) :
  Calls Tryz.prog 90 #[.pointer (some ⟨b,0,none⟩)] w fun e w'=>e=.returned (.tuple #[])/\(Lib.BuilderAt 41 5 B b (.pointer (some ⟨b,0,none⟩)) bs w'/\Below B w w'/\Lib.OthersKept 5 (some b) w w'):=by
 rcases h with h|h
 ·refine(dM b w h.cell0 h.shape h.frozen0).mono ?_;rintro e w' ⟨rfl,rfl⟩;exact⟨rfl,h.used _,(Below.refl B w).setCell h.1 _,(Lib.OthersKept.refl _ _ w).setCell ⟨b,0,none⟩ rfl _⟩
 ·refine(fJ b w h.cell0).mono ?_;rintro e w' ⟨rfl,rfl⟩;exact⟨rfl,h,Below.refl B _,Lib.OthersKept.refl _ _ _⟩
theorem iE (B b:Nat)(bs:List Value)(s:ByteArray)(w:World)(h:Lib.IsBuilder 41 5 B b bs w)(hlen:bs.length+s.size<=140737488355328)(hBw:B<=w.heap.size) :
  Calls Tryz.prog 55 #[.pointer (some ⟨b,0,none⟩),.string s] w fun e w'=>e=.returned (.tuple #[.int .i64 s.size,.nilIface])/\(Lib.BuilderAt 41 5 B b (.pointer (some ⟨b,0,none⟩)) (bs++Lib.strCells s) w'/\Below B w w'/\Lib.OthersKept 5 (some b) w w'):=by
 obtain⟨G,F,t,u,x⟩:=info_parts jV;go_enter Tryz.func55,Tryz.ntmps55
 go_wp2_with fail
 refine(iD B b bs _ h).mono ?_;rintro e m ⟨rfl,E,l,o⟩;obtain⟨A,v,i,c,q⟩:=E;have I:m.cell? ⟨b,0,none⟩=some (.pointer (some ⟨b,0,none⟩)):=by rw[Lib.cell_of_heap i];rfl
 have J:m.cell? ⟨b,1,none⟩=some v:=by rw[Lib.cell_of_heap i];rfl
 go_wp2_with (at_builtin;refine Lib.wpList_append_own_string _ rfl _ _ 37 9 rfl B 5 G Tryz.underlying37 Tryz.underlying9 F t u x _ _ _ rfl c s rfl ?c3 ?c4 ?c5 ?_)
 case c3=>unfold maxLen;omega
 case c4=>omega
 case c5=>have:=l.size;omega
 intro H y d a _;have p:b<m.heap.size:=by
  rcases Nat.lt_or_ge b m.heap.size with n|n
  ·exact n
  ·simp[Array.getElem?_eq_none n] at i
 have f:y.heap[b]?=some (.cells #[.pointer (some ⟨b,0,none⟩),v] 41 (0,0)):=by
  rw[a.block b p (fun e=>q e.symm)];exact i
 have K:y.cell? ⟨b,0,none⟩=some (.pointer (some ⟨b,0,none⟩)):=by rw[Lib.cell_of_heap f];rfl
 have L:y.cell? ⟨b,1,none⟩=some v:=by rw[Lib.cell_of_heap f];rfl
 have M:=Lib.frozen_of_heap f 1;obtain⟨z,C,j,rfl⟩:∃z C j,H=.slice z C j:=by
  rcases d.2 with⟨r,_⟩|⟨g,j,D,r,_⟩
  ·exact⟨_,_,_,r⟩
  ·exact⟨_,_,_,r⟩
 go_wp2
 go_ret2
 refine⟨rfl,?_,?_,?_⟩
 ·exact Lib.BuilderAt.put A f (by simpa [Lib.strCells_length] using d) (by decide)
 ·exact(l.grown a (by have:=l.size;omega) (fun k hk=>(c.lt k hk).1)).setCell A _
 ·exact(o.grown a (fun g hg=>Lib.ownsRow_kind c g hg)).setCell _ rfl _
structure Bld (B b:Nat)(l:List UInt8)(w:World):Prop where
 is:Lib.IsBuilder 41 5 B b (Lib.byteCells l) w
 low:B<=w.heap.size
 tab : Lib.TabIs Tryz.prog w "internal/strconv.uint64pow10" .u64 Lib.pow10Tab
 glob:1<B
theorem Pf : Tryz.prog.globalNamed "internal/strconv.uint64pow10" = some 1 := by kernel_rfl
theorem dN {w w':World}{B:Nat}{e:TypeId}{v:Value}{n:Nat}{xs:List Value}(h:w.ownsRow B e 1 v n xs)(hb:Below w.heap.size w w'):w'.ownsRow B e 1 v n xs:=by
 refine⟨h.1,?_⟩;rcases h.2 with q|⟨g,a,b,c,d,f,i⟩
 ·exact .inl q
 ·exact .inr ⟨g,a,b,c,d,Below.blockAt hb f,i⟩
theorem Zb {w w':World}{T e:TypeId}{B b:Nat}{p:Value}{bs:List Value}(h:Lib.BuilderAt T e B b p bs w)(hb:Below w.heap.size w w'):Lib.BuilderAt T e B b p bs w':=by
 obtain⟨a,v,c,d,f⟩:=h;exact⟨a,v,Below.blockAt hb c,dN d hb,f⟩
theorem Hm {w w' : World} {B : Nat} (hb : Below B w w') (hg : 1 < B) (h : Lib.TabIs Tryz.prog w "internal/strconv.uint64pow10" .u64 Lib.pow10Tab) : Lib.TabIs Tryz.prog w' "internal/strconv.uint64pow10" .u64 Lib.pow10Tab := by
 unfold Lib.TabIs World.var? at h |-;rw[Pf] at h |-;simp only[Option.bind_some] at h |-;rw[hb.block 1 hg];exact h
theorem Bld.grew {B b:Nat}{l:List UInt8}{w w':World}(h:Bld B b l w)(hg:Ag w w'):Bld B b l w':=by
 have a:=hg.below;refine⟨?_,Nat.le_trans h.low a.size,Hm a (Nat.lt_of_lt_of_le h.glob h.low) h.tab,h.glob⟩;rcases h.is with q|q
 ·exact .inl (Zb q a)
 ·exact .inr (Zb q a)
theorem iF {B:Nat}{w w':World}(hg:Ag w w')(hl:B<=w.heap.size):Below B w w' :=
 ⟨hg.below.os,hg.below.tape,hg.below.output,hg.below.size,fun k hk=>hg.below.block k (Nat.lt_of_lt_of_le hk hl)⟩
theorem frB {B:Nat}{w w':World}(h:Below B w w'):Fr (·<B) w w':=⟨h.os,h.tape,h.output,h.size,fun i _ hp=>h.block i hp⟩
def Kp (B b:Nat)(w w':World):Prop:=Below B w w'/\Lib.OthersKept 5 (some b) w w'
theorem Kp.refl (B b:Nat)(w:World):Kp B b w w:=⟨Below.refl B w,Lib.OthersKept.refl _ _ _⟩
theorem Kp.trans {B b:Nat}{w1 w2 w3:World}(h:Kp B b w1 w2)(k:Kp B b w2 w3):Kp B b w1 w3:=⟨h.1.trans k.1,h.2.trans k.2⟩
theorem Kp.grew {B b:Nat}{w w':World}(hg:Ag w w')(hl:B<=w.heap.size):Kp B b w w':=⟨iF hg hl,fun _ _ h _ _=>Below.blockAt hg.below h⟩
theorem Bld.lt {B b:Nat}{l:List UInt8}{w:World}(h:Bld B b l w):b<w.heap.size:=by
 rcases h.is with q|q
 ·exact q.lt
 ·exact q.lt
theorem Kp.kept {B b k:Nat}{w w':World}(h:Kp B b w w'){vs:Array Value}{T:TypeId}(hT:T≠5)(hk:w.heap[k]?=some (.cells vs T (0,0)))(hb:k≠b):w'.heap[k]?=some (.cells vs T (0,0)) :=
 h.2 k _ hk (by simpa using hb) (fun c fz e=>by injection e with _ e2 _;exact absurd e2 hT)
def Ad (B b:Nat)(l t:List UInt8)(w w':World):Prop:=Bld B b (l++t) w'/\Kp B b w w'
def Au (B b:Nat)(l t:List UInt8)(w:World)(e:Ending)(w':World):Prop:=e=.returned (.tuple #[])/\Ad B b l t w w'
theorem iG (B b:Nat)(l:List UInt8)(s:ByteArray)(w:World)(h:Bld B b l w)(hlen:l.length+s.size<=140737488355328) :
  Calls Tryz.prog 55 #[.pointer (some ⟨b,0,none⟩),.string s] w fun e w'=>(∃k:Nat,e=.returned (.tuple #[.int .i64 k,.nilIface]))/\Ad B b l s.data.toList w w':=by
 refine(iE B b (Lib.byteCells l) s w h.is (by rw[Lib.byteCells_length];exact hlen) h.low).mono ?_;rintro e w' ⟨rfl,c,a,d⟩;exact⟨⟨_,rfl⟩,⟨.inr (by rw[Lib.byteCells_append];exact c),Nat.le_trans h.low a.size,Hm a h.glob h.tab,h.glob⟩,a,d⟩
def Cs (ss:List ByteArray):List UInt8:=ss.flatMap fun s=>s.data.toList
theorem Rl (ss:List ByteArray)(k:Nat)(s:ByteArray)(h:ss[k]?=some s):Cs (ss.take (k+1))=Cs (ss.take k)++s.data.toList:=by
 rw[List.take_add_one,h];simp[Cs]
theorem fK (ss:List ByteArray)(k:Nat):(Cs (ss.take k)).length<=(Cs ss).length:=by
 have:Cs ss=Cs (ss.take k)++Cs (ss.drop k):=by unfold Cs;rw[<- List.flatMap_append,List.take_append_drop]
 rw[this,List.length_append];omega
theorem Ad.nil {B b:Nat}{l:List UInt8}{w:World}(h:Bld B b l w):Ad B b l [] w w:=⟨by rw[List.append_nil];exact h,Kp.refl _ _ _⟩
theorem Ad.trans {B b:Nat}{l s t:List UInt8}{w1 w2 w3:World}(h:Ad B b l s w1 w2)(k:Ad B b (l++s) t w2 w3):Ad B b l (s++t) w1 w3:=⟨by rw[<- List.append_assoc];exact k.1,h.2.trans k.2⟩
theorem dO (B b g c:Nat)(l:List UInt8)(w:World)(ss:List ByteArray)(n:Nat)(hn:n=ss.length)(hn9:n<=1000)(hrow:w.heap[g]?=some (.cells (ss.map Value.string).toArray 9 (0,0)))(hgb:g≠b)(hB:Bld B b l w)(hlen:l.length+(Cs ss).length<=140737488355328) :
  Calls Tryz.prog 24 #[.pointer (some ⟨b,0,none⟩),.slice (some ⟨g,0,none⟩) n c] w (Au B b l (Cs ss) w):=by
 have p:Hid (w.heap[g]?=_):=hrow;have A:Hid (Bld B b l w):=hB;have h:Hid (n=ss.length):=hn;have j:Hid (Ad B b l (Cs (ss.take 0)) w w):=Ad.nil hB;clear hrow hB hn;go_enter Tryz.func24,Tryz.ntmps24
 go_wp2_with fail
 go_loopw [8] (fun i wr=>∃k:Nat,k<=n/\i=.int .i64 k/\Hid (Ad B b l (Cs (ss.take k)) w wr)) (fun i _=>n-(intOf i).toNat)
 case atStart=>exact⟨0,Nat.zero_le _,rfl,j⟩
 case round =>
  clear j;obtain⟨k,D,rfl,a⟩:=hrel;by_cases y:k<n
  ·obtain⟨s,d⟩:∃s,ss[k]?=some s:=⟨_,List.getElem?_eq_getElem (by have:=h.out;omega)⟩;have f:=a.out.2.kept (by decide) p.out hgb;have C:wr.cell? ⟨g,k,none⟩=some (.string s):=by
    rw[Aa f];simp[d]
   have x:g<wr.heap.size:=Ab f;have t:Hid (Calls _ _ _ _ _):=iG B b (l++Cs (ss.take k)) s wr a.out.1 (by
    have v:=fK ss (k+1);rw[Rl ss k s d,List.length_append] at v;rw[List.length_append];have:s.data.toList.length=s.size:=by simp
    omega)
   have r:Hid (Cs (ss.take (k+1))=_):=Rl ss k s d;clear d f;go_wp2_with (go_at_call 55;refine t.out.mono ?_;rintro e z ⟨⟨q,rfl⟩,o⟩;have u:Hid (Ad B b l (Cs (ss.take (k+1))) w z):=(by show Ad _ _ _ _ _ _;rw[r.out];exact a.out.trans o);clear o)
   go_roundw
   case rel=>exact⟨k+1,by omega,by go_num,u⟩
   case measure=>simp[intOf];omega
  ·obtain rfl:k=n:=by omega
   have m:ss.take k=ss:=List.take_of_length_le (by have:=h.out;omega);rw[m] at a;clear m;go_wp2_with fail
   go_end0
   exact⟨rfl,a.out⟩
theorem Aq (B b:Nat)(l:List UInt8)(w:World)(vs:Array Value)(ss:List ByteArray)(n:Nat)(T:List UInt8)(hvs:vs=(ss.map Value.string).toArray)(hn:n=ss.length)(hn9:n<=1000)(hT:T=Cs ss)(hB:Bld B b l w)(hlen:l.length+T.length<=140737488355328) :
  Calls Tryz.prog 24 #[.pointer (some ⟨b,0,none⟩),.slice (some ⟨w.heap.size,0,none⟩) n n] (w.alloc (.cells vs 9)) (Au B b l T w):=by
 subst hvs hT;have d:=hB.lt;refine(dO B b w.heap.size n l (w.alloc (.cells (ss.map Value.string).toArray 9)) ss n hn hn9 (Ak rfl) (by omega) (hB.grew ((Ag.refl w).alloc _)) hlen).mono ?_;rintro e f ⟨rfl,a,c⟩;exact⟨rfl,a,(Kp.grew ((Ag.refl w).alloc _) hB.low).trans c⟩
end Go.Proofs.YthcndopglfkmiaaGreatDoor.Sx
namespace Go.Proofs.YthcndopglfkmiaaGreatDoor.Sx
set_option maxRecDepth 100000
set_option maxHeartbeats 1000000
open Go.RowKit Go.Sort
def C9 (op:List UInt8):Nat:=if Ae op≠0 then Ae op else if op=oAt\/op=Wx then 13 else if op=Wy then 12 else if op=Uo then 14 else Bd op
theorem Qr {op:List UInt8}{kids:List PX}{x:PX}(h:Lk op kids x):C9 op=x.rk:=by
 rcases h with⟨d,a,b,rfl,rfl⟩|⟨rfl,rfl⟩|⟨rfl,rfl⟩|⟨rfl,rfl⟩|⟨rfl,f,k,rfl,rfl⟩|⟨rfl,f,k,v,rfl,rfl⟩|⟨rfl,a,rfl,rfl⟩|⟨c,a,rfl,rfl⟩|⟨c,a,rfl,rfl⟩|⟨c,rfl⟩
 ·have:Ae op≠0:=by
   simp only[Eu,List.map_cons,List.map_nil,List.mem_cons,List.not_mem_nil,or_false] at d;rcases d with rfl|rfl|rfl|rfl|rfl|rfl|rfl|rfl|rfl|rfl|rfl|rfl|rfl|rfl|rfl|rfl|rfl|rfl|rfl|rfl|rfl|rfl|rfl|rfl|rfl<;>decide
  unfold C9;rw[if_pos this];rfl
 ·show C9 dC=14;decide
 ·show C9 dD=14;decide
 ·show C9 Uo=14;decide
 ·show C9 oAt=13;decide
 ·show C9 Wx=13;decide
 ·show C9 Wy=12;decide
 ·show C9 op=6;simp only[Hd,List.mem_cons,List.not_mem_nil,or_false] at c;rcases c with rfl|rfl|rfl<;>decide
 ·show C9 op=12;simp only[Gq,List.mem_cons,List.not_mem_nil,or_false] at c;rcases c with rfl|rfl|rfl<;>decide
 ·show C9 op=14;simp only[Cz,List.mem_cons,List.not_mem_nil,or_false] at c;rcases c with rfl|rfl|rfl|rfl|rfl|rfl|rfl<;>decide
theorem Kg (a b c:Value)(w:World):(Instr.field 143 (.agg #[a,b,c]) 0).run Tryz.prog w=.ok a w:=by kernel_rfl
attribute [local go_sem] Kg
theorem Ta (w:World)(be sort at' len cap:Nat)(op nm:ByteArray)(n:Int)(pa:Option Addr)(he:Ao w be sort op nm n at' pa len cap) :
  Calls Tryz.prog 136 #[.pointer (some ⟨be,0,none⟩)] w fun e w'=>e=.returned (.int .i64 (C9 op.data.toList:Int))/\Ag w w':=by
 have x:Hid (Ao w be sort op nm n at' pa len cap):=he;have E:=Aa he 1;have s:Hid (Calls _ _ _ _ _):=Hc op w;have y:Hid (∀W:World,_):=fun W=>Er op W;have a:op.toList=op.data.toList:=ByteArray.toList_eq op;clear he;have G:=follows;obtain⟨q,b⟩:∃q,C9 op.data.toList=q:=⟨_,rfl⟩;rw[b];have j:Hid (C9 op.data.toList=q):=b;clear b;by_cases o:Ae op.data.toList=0
 ·have d:Hid (Calls Tryz.prog 78 #[.string op] w fun e w'=>e=.returned (.agg #[.int .i64 (-1),.int .i64 0,.int .i64 0])/\Ag w w'):=by
   have:=s.out;unfold Jo at this;rw[if_pos o] at this;exact this
  have p:Hid (∀W,Ag w W->W.cell? ⟨be,1,none⟩=some (.string op)):=fun W g=>Aa (x.out.of (P:=fun _=>True) (Fr.grew g) trivial) 1;have b:=j.out;unfold C9 at b;rw[if_neg (by simpa using o)] at b;clear s o;cases i:(op.data.toList==oAt) with
  | true =>
   have A:(op.toList==[97,116])=true:=by rw[a];exact i
   rw[if_pos (.inl (eq_of_beq i))] at b;subst b;clear i a j;go_enter Tryz.func136,Tryz.ntmps136
   go_wp2_with (go_at_call 78;refine d.out.mono ?_;rintro e f ⟨rfl,c⟩;have t:=p.out f c;have h:Hid (Ag w f):=c;clear c)
   go_ret
   exact⟨rfl,h.out⟩
  | false =>
   have A:(op.toList==[97,116])=false:=by rw[a];exact i
   cases k:(op.data.toList==Wx) with
   | true =>
    have B:(op.toList==[112,117,116])=true:=by rw[a];exact k
    rw[if_pos (.inr (eq_of_beq k))] at b;subst b;clear i k a j;go_enter Tryz.func136,Tryz.ntmps136
    go_wp2_with (go_at_call 78;refine d.out.mono ?_;rintro e f ⟨rfl,c⟩;have t:=p.out f c;have h:Hid (Ag w f):=c;clear c)
    go_ret
    exact⟨rfl,h.out⟩
   | false =>
    have B:(op.toList==[112,117,116])=false:=by rw[a];exact k
    rw[if_neg (fun q=>by rcases q with q|q<;>simp[q] at i k)] at b;cases l:(op.data.toList==Wy) with
    | true =>
     have C:(op.toList==[110,101,103])=true:=by rw[a];exact l
     rw[if_pos (eq_of_beq l)] at b;subst b;clear i k l a j;go_enter Tryz.func136,Tryz.ntmps136
     go_wp2_with (go_at_call 78;refine d.out.mono ?_;rintro e f ⟨rfl,c⟩;have t:=p.out f c;have h:Hid (Ag w f):=c;clear c)
     go_ret
     exact⟨rfl,h.out⟩
    | false =>
     have C:(op.toList==[110,101,103])=false:=by rw[a];exact l
     rw[if_neg (fun q=>by simp[q] at l)] at b;cases m:(op.data.toList==Uo) with
     | true =>
      have D:(op.toList==[102,117,110])=true:=by rw[a];exact m
      rw[if_pos (eq_of_beq m)] at b;subst b;clear i k l m a j;go_enter Tryz.func136,Tryz.ntmps136
      go_wp2_with (go_at_call 78;refine d.out.mono ?_;rintro e f ⟨rfl,c⟩;have t:=p.out f c;have h:Hid (Ag w f):=c;clear c)
      go_ret
      exact⟨rfl,h.out⟩
     | false =>
      have D:(op.toList==[102,117,110])=false:=by rw[a];exact m
      rw[if_neg (fun q=>by simp[q] at m)] at b;have u:Hid (Bd op.data.toList=q):=b;clear i k l m a j b;go_enter Tryz.func136,Tryz.ntmps136
      go_wp2_with (first|(go_at_call 78;refine d.out.mono ?_;rintro e f ⟨rfl,c⟩;have t:=p.out f c;have h:Hid (Ag w f):=c;clear c)|(go_at_call 76;refine(y.out _).mono ?_;rintro e H ⟨rfl,z⟩;cases z))
      go_ret
      exact⟨by rw[u.out];rfl,h.out⟩
 ·have d:Hid (Calls Tryz.prog 78 #[.string op] w fun e w'=>e=.returned (.agg #[.int .i64 (Ae op.data.toList:Int),.int .i64 (Bi (Ae op.data.toList):Int),.int .i64 (Bh (Ae op.data.toList):Int)])/\Ag w w'):=by
   have:=s.out;unfold Jo at this;rw[if_neg o] at this;exact this
  have b:=j.out;unfold C9 at b;rw[if_pos o] at b;obtain⟨v,r⟩:∃v,Ae op.data.toList=v:=⟨_,rfl⟩;rw[r] at d b;subst b;have F:((v:Int) != -1)=true:=by rw[bne_iff_ne];omega
  clear s o j r a;go_enter Tryz.func136,Tryz.ntmps136
  go_wp2_with (go_at_call 78;refine d.out.mono ?_;rintro e f ⟨rfl,c⟩;have h:Hid (Ag w f):=c;clear c)
  go_ret
  exact⟨rfl,h.out⟩
theorem fL (op nm:List UInt8)(a b:PX)(ho:op∈Iv\/op∈Cp):Bd op=(Ds op nm a b).rk:=by
 simp only[Iv,Cp,List.mem_cons,List.not_mem_nil,or_false] at ho;rcases ho with(rfl|rfl|rfl|rfl)|(rfl|rfl)<;>rfl
theorem Xm (w:World)(be sort at' len cap:Nat)(op nm:ByteArray)(n:Int)(pa:Option Addr)(kids:List PX)(x:PX)(he:Ao w be sort op nm n at' pa len cap)(hm:M5 sort op.data.toList nm.data.toList n kids x) :
  Calls Tryz.prog 107 #[.pointer (some ⟨be,0,none⟩)] w fun e w'=>e=.returned (.int .i64 (x.rk:Int))/\Ag w w':=by
 have o:=Aa he 0;have p:=Aa he 1;have f:Hid (Calls _ _ _ _ _):=Ta w be sort at' len cap op nm n pa he;have k:Hid (Calls _ _ _ _ _):=Er op w;clear he;have q:=follows;rcases hm with⟨rfl,-,-,rfl⟩|⟨rfl,rfl⟩|⟨rfl,rfl⟩|⟨rfl,rfl⟩|⟨rfl,rfl⟩|⟨rfl,rfl⟩|⟨rfl,rfl⟩|⟨rfl,rfl⟩|⟨rfl,a,b,c,rfl,rfl⟩|⟨rfl,a,b,rfl,rfl⟩|⟨rfl,h,a,b,rfl,rfl⟩|⟨l,d⟩
 case inr.inr.inr.inr.inr.inr.inr.inr.inr.inr.inl =>
  rw[<- fL _ nm.data.toList a b h];clear h;go_enter Tryz.func107,Tryz.ntmps107
  go_wp2_with (go_at_call 76;refine k.out.mono ?_;rintro e i ⟨rfl,m⟩;cases m)
  go_ret
  exact⟨rfl,Ag.refl _⟩
 case inr.inr.inr.inr.inr.inr.inr.inr.inr.inr.inr =>
  rw[<- Qr d];clear d;rcases l with rfl|rfl
  all_goals
   go_enter Tryz.func107,Tryz.ntmps107
   go_wp2_with (go_at_call 136;refine f.out.mono ?_;rintro e i ⟨rfl,g⟩;have j:Hid (Ag w i):=g;clear g)
   go_ret
   exact⟨rfl,j.out⟩
 all_goals
  go_enter Tryz.func107,Tryz.ntmps107
  go_wp2_with fail
  go_ret
  exact⟨rfl,Ag.refl _⟩
end Go.Proofs.YthcndopglfkmiaaGreatDoor.Sx
namespace Go.Proofs.YthcndopglfkmiaaGreatDoor.Sx
set_option maxRecDepth 100000
set_option maxHeartbeats 1000000
open Go.RowKit Go.Sort
def WrE (n:Nat):Prop:=∀(B b:Nat)(l:List UInt8)(w:World)(x:PX)(v:Value),A7 (·<B) w n x v->Bld B b l w->l.length+x.tx.length<=140737488355328->Calls Tryz.prog 21 #[.pointer (some ⟨b,0,none⟩),v] w (Au B b l x.tx w)
theorem A7.kp {B b n:Nat}{w w':World}{x:PX}{v:Value}(h:A7 (·<B) w n x v)(k:Kp B b w w'):A7 (·<B) w' n x v:=A7.fr (frB k.1) (fun _ _ q=>q) n x v h
theorem Cb.kp {B b n:Nat}{w w':World}{a:Option Addr}{len:Nat}{es:List PX}(h:Cb (·<B) w (A7 (·<B) w n) a len es)(k:Kp B b w w'):Cb (·<B) w' (A7 (·<B) w' n) a len es:=Cb.fr (frB k.1) (fun _ _ h=>h.kp k) (fun _ _ q=>q) h
theorem Ao.kp {B b be sort at' len cap:Nat}{op nm:ByteArray}{n:Int}{pa:Option Addr}{w w':World}(h:Ao w be sort op nm n at' pa len cap)(k:Kp B b w w')(hb:be<B):Ao w' be sort op nm n at' pa len cap:=h.of (frB k.1) hb
theorem Ad.kp {B b:Nat}{l t:List UInt8}{w w':World}(h:Ad B b l t w w'):Kp B b w w':=h.2
theorem Ad.grew {B b:Nat}{l t:List UInt8}{w w' w2:World}(h:Ad B b l t w w')(g:Ag w' w2):Ad B b l t w w2:=⟨h.1.grew g,h.2.trans (Kp.grew g h.1.low)⟩
theorem Ad.put {B b:Nat}{l t s u:List UInt8}{w w1 w2:World}(h:Ad B b l t w w1)(k:Ad B b (l++t) s w1 w2)(e:t++s=u):Ad B b l u w w2:=by rw[<- e];exact h.trans k
theorem Fv {n:Nat}(hW:WrE n)(B b:Nat)(l:List UInt8)(w:World)(x:PX)(v:Value)(q:Nat)(hx:A7 (·<B) w n x v)(hB:Bld B b l w)(hlen:l.length+(A9 x q).length<=140737488355328) :
  Calls Tryz.prog 77 #[.pointer (some ⟨b,0,none⟩),v,.int .i64 (q:Int)] w (Au B b l (A9 x q) w):=by
 have C:Hid (A7 (·<B) w n x v):=hx;have L:Hid (Bld B b l w):=hB;have A:Hid (WrE n):=hW;obtain⟨g,rfl,o⟩:∃g,v=.pointer (some ⟨g,0,none⟩)/\Hid (Calls Tryz.prog 107 #[.pointer (some ⟨g,0,none⟩)] w fun e w'=>e=.returned (.int .i64 (x.rk:Int))/\Ag w w'):=by
  cases n with
  | zero=>exact absurd hx id
  | succ n =>
   obtain⟨g,k,I,H,i,a,J,z,u,j,rfl,M,F,N,G⟩:=hx;exact⟨g,rfl,Xm w g k a z u I H i J j x F G⟩
 have p:Hid (Ad B b l [] w w):=Ad.nil hB;clear hx hB hW;unfold A9 at hlen |-;by_cases r:x.rk<q
 ·rw[if_pos r] at hlen |-;have y:¬(q:Int)<=(x.rk:Int):=by omega
  clear r;simp only[List.length_cons,List.length_append,List.length_nil] at hlen;go_enter Tryz.func77,Tryz.ntmps77
  go_wp2_with (go_at_call 107;refine o.out.mono ?_;rintro e m ⟨rfl,h⟩;have d:Hid (Ad B b l [] w m):=p.out.grew h;clear h)
  refine(Aq B b (l++[]) m _ [⟨#[40]⟩] 1 [40] rfl rfl (by decide) rfl d.out.1 (by simp;omega)).mono ?_;rintro e s ⟨rfl,c⟩;have f:Hid (Ad B b l [40] w s):=d.out.put c rfl;clear c d p o;go_wp2_with fail
  refine(A.out B b (l++[40]) s x _ (C.out.kp f.out.kp) f.out.1 (by simp;omega)).mono ?_;rintro e D ⟨rfl,c⟩;have t:Hid (Ad B b l (40::x.tx) w D):=f.out.put c rfl;clear c f;go_wp2_with fail
  refine(Aq B b (l++(40::x.tx)) D _ [⟨#[41]⟩] 1 [41] rfl rfl (by decide) rfl t.out.1 (by simp;omega)).mono ?_;rintro e K ⟨rfl,c⟩;have E:Hid (Ad B b l (40::(x.tx++[41])) w K):=t.out.put c rfl;clear c t;go_wp2_with fail
  go_end0
  exact⟨rfl,E.out⟩
 ·rw[if_neg r] at hlen |-;have y:(q:Int)<=(x.rk:Int):=by omega
  clear r;go_enter Tryz.func77,Tryz.ntmps77
  go_wp2_with (go_at_call 107;refine o.out.mono ?_;rintro e m ⟨rfl,h⟩;have d:Hid (Ad B b l [] w m):=p.out.grew h;clear h)
  refine(A.out B b (l++[]) m x _ (C.out.kp d.out.kp) d.out.1 (by simp;omega)).mono ?_;rintro e s ⟨rfl,c⟩;have f:Hid (Ad B b l x.tx w s):=d.out.put c rfl;clear c d p o;go_wp2_with fail
  refine bodyPost_ret (results_none rfl _ _ _) rfl ?_;exact⟨rfl,f.out⟩
end Go.Proofs.YthcndopglfkmiaaGreatDoor.Sx
