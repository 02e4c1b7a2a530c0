/- Text is put together. -/
import Derived.Test.YtdpeliifdlhhkaaGreatDoorM02
import Derived.Test.YtdpeliifdlhhkaaGreatDoorM03
import Derived.Lib.AppendStr
import Derived.Lib.UnsafeStr
import Derived.Lib.LaidTab
import Derived.Lib.OthersKept
import Derived.Lib.OwnKind
import Derived.Deep.Cut
namespace Go.Proofs.YtdpeliifdlhhkaaGreatDoor.Sx
open Go.RowKit Go.Sort Tryz
set_option maxRecDepth 100000
set_option maxHeartbeats 4000000
theorem Aa1:(prog.info? 5).map (fun i=>(i.zero,i.size,i.bytes))=some (some (.int .u8 0),1,1):=by kernel_rfl
def xX:Go.Shelf.Ren:=⟨fun|240=>132|276=>181|n=>n,fun|0=>0|4=>4|9=>9|20=>20|70=>73|72=>76|37=>74|5=>5|164=>178|n=>n,fun|n=>n⟩
theorem qZ:Lays.n240 prog xX:={
 mixed:=by kernel_rfl
 f240:=func132.trans (congrArg some (by kernel_rfl))
 f276:=func181.trans (congrArg some (by kernel_rfl))
 t0:=underlying0
 a0:=Tryz.isAgg0
 z0:=Tryz.sizeOf0
 v0:=Tryz.zeroValue0
 t4:=underlying4
 a4:=Tryz.isAgg4
 z4:=Tryz.sizeOf4
 v4:=Tryz.zeroValue4
 t9:=underlying9
 a9:=Tryz.isAgg9
 z9:=Tryz.sizeOf9
 v9:=Tryz.zeroValue9
 t20:=underlying20
 a20:=Tryz.isAgg20
 z20:=Tryz.sizeOf20
 v20:=Tryz.zeroValue20
 t70:=underlying73
 a70:=Tryz.isAgg73
 z70:=Tryz.sizeOf73
 v70:=Tryz.zeroValue73
 t72:=underlying76
 a72:=Tryz.isAgg76
 z72:=Tryz.sizeOf76
 v72:=Tryz.zeroValue76
 t164:=underlying178
 a164:=Tryz.isAgg178
 z164:=Tryz.sizeOf178
 v164:=Tryz.zeroValue178 }
theorem ccX:Builder.X72 prog xX:={
 sizeBuilder:=by kernel_rfl
 liesBuilder:=by kernel_rfl }
theorem vJ (b:Nat)(w:World)(h0:w.cell? ⟨b,0,none⟩=some (.pointer (some ⟨b,0,none⟩))) :
  Calls prog 132 #[.pointer (some ⟨b,0,none⟩)] w fun e w'=>e=.returned (.tuple #[])/\w'=w:=Any.Builder_copyCheck_used qZ ccX b w h0
theorem rA (b:Nat)(w:World)(h0:w.cell? ⟨b,0,none⟩=some (.pointer none))(hsh:w.shape? b=some (76,2))(hfz:w.frozen? ⟨b,0,none⟩=false) :
  Calls prog 132 #[.pointer (some ⟨b,0,none⟩)] w fun e w'=>e=.returned (.tuple #[])/\w'=w.setCell ⟨b,0,none⟩ (.pointer (some ⟨b,0,none⟩)):=Any.Builder_copyCheck_fresh qZ ccX b w h0 hsh hfz
theorem yO (B b:Nat)(bs:List Value)(w:World)(h:Lib.IsBuilder 76 5 B b bs w) :
  Calls prog 132 #[.pointer (some ⟨b,0,none⟩)] w fun e w'=>e=.returned (.tuple #[])/\(Lib.BuilderAt 76 5 B b (.pointer (some ⟨b,0,none⟩)) bs w'/\Below B w w'/\Lib.OthersKept 5 (some b) w w'):=by
 rcases h with h|h
 ·refine(rA b w h.cell0 h.shape h.frozen0).mono ?_;rintro e w' ⟨rfl,rfl⟩;exact⟨rfl,h.used _,(Below.refl B w).setCell h.1 _,(Lib.OthersKept.refl _ _ w).setCell ⟨b,0,none⟩ rfl _⟩
 ·refine(vJ b w h.cell0).mono ?_;rintro e w' ⟨rfl,rfl⟩;exact⟨rfl,h,Below.refl B _,Lib.OthersKept.refl _ _ _⟩
theorem yP (B b:Nat)(bs:List Value)(s:ByteArray)(w:World)(h:Lib.IsBuilder 76 5 B b bs w)(hlen:bs.length+s.size<=140737488355328)(hBw:B<=w.heap.size) :
  Calls prog 70 #[.pointer (some ⟨b,0,none⟩),.string s] w fun e w'=>e=.returned (.tuple #[.int .i64 s.size,.nilIface])/\(Lib.BuilderAt 76 5 B b (.pointer (some ⟨b,0,none⟩)) (bs++Lib.strCells s) w'/\Below B w w'/\Lib.OthersKept 5 (some b) w w'):=by
 obtain⟨G,F,t,u,x⟩:=info_parts Aa1;go_enter func70,ntmps70
 go_wp2_with fail
 refine(yO B b bs _ h).mono ?_;rintro e m ⟨rfl,E,l,o⟩;obtain⟨A,v,i,c,q⟩:=E;have I:m.cell? ⟨b,0,none⟩=some (.pointer (some ⟨b,0,none⟩)):=by rw[Lib.cell_of_heap i];rfl
 have J:m.cell? ⟨b,1,none⟩=some v:=by rw[Lib.cell_of_heap i];rfl
 go_wp2_with (at_builtin;refine Lib.wpList_append_own_string _ rfl _ _ 74 9 rfl B 5 G underlying74 underlying9 F t u x _ _ _ rfl c s rfl ?c3 ?c4 ?c5 ?_)
 case c3=>unfold maxLen;omega
 case c4=>omega
 case c5=>have:=l.size;omega
 intro H y d a _;have p:b<m.heap.size:=by
  rcases Nat.lt_or_ge b m.heap.size with n|n
  ·exact n
  ·simp[Array.getElem?_eq_none n] at i
 have f:y.heap[b]?=some (.cells #[.pointer (some ⟨b,0,none⟩),v] 76 (0,0)):=by
  rw[a.block b p (fun e=>q e.symm)];exact i
 have K:y.cell? ⟨b,0,none⟩=some (.pointer (some ⟨b,0,none⟩)):=by rw[Lib.cell_of_heap f];rfl
 have L:y.cell? ⟨b,1,none⟩=some v:=by rw[Lib.cell_of_heap f];rfl
 have M:=Lib.frozen_of_heap f 1;obtain⟨z,C,j,rfl⟩:∃z C j,H=.slice z C j:=by
  rcases d.2 with⟨r,_⟩|⟨g,j,D,r,_⟩
  ·exact⟨_,_,_,r⟩
  ·exact⟨_,_,_,r⟩
 go_wp2
 go_ret2
 refine⟨rfl,?_,?_,?_⟩
 ·exact Lib.BuilderAt.put A f (by simpa [Lib.strCells_length] using d) (by decide)
 ·exact(l.grown a (by have:=l.size;omega) (fun k hk=>(c.lt k hk).1)).setCell A _
 ·exact(o.grown a (fun g hg=>Lib.ownsRow_kind c g hg)).setCell _ rfl _
structure Bld (B b:Nat)(l:List UInt8)(w:World):Prop where
 is:Lib.IsBuilder 76 5 B b (Lib.byteCells l) w
 low:B<=w.heap.size
 tab : Lib.TabIs prog w "internal/strconv.uint64pow10" .u64 Lib.pow10Tab
 glob:2<B
theorem Vy : prog.globalNamed "internal/strconv.uint64pow10" = some 2 := by kernel_rfl
theorem rB {w w':World}{B:Nat}{e:TypeId}{v:Value}{n:Nat}{xs:List Value}(h:w.ownsRow B e 1 v n xs)(hb:Below w.heap.size w w'):w'.ownsRow B e 1 v n xs:=by
 refine⟨h.1,?_⟩;rcases h.2 with q|⟨g,a,b,c,d,f,i⟩
 ·exact .inl q
 ·exact .inr ⟨g,a,b,c,d,Ac1 hb f,i⟩
theorem lF {w w':World}{T e:TypeId}{B b:Nat}{p:Value}{bs:List Value}(h:Lib.BuilderAt T e B b p bs w)(hb:Below w.heap.size w w'):Lib.BuilderAt T e B b p bs w':=by
 obtain⟨a,v,c,d,f⟩:=h;exact⟨a,v,Ac1 hb c,rB d hb,f⟩
theorem O5 {w w' : World} {B : Nat} (hb : Below B w w') (hg : 2 < B) (h : Lib.TabIs prog w "internal/strconv.uint64pow10" .u64 Lib.pow10Tab) : Lib.TabIs prog w' "internal/strconv.uint64pow10" .u64 Lib.pow10Tab := by
 unfold Lib.TabIs World.var? at h |-;rw[Vy] at h |-;simp only[Option.bind_some] at h |-;rw[hb.block 2 hg];exact h
theorem Bld.grew {B b:Nat}{l:List UInt8}{w w':World}(h:Bld B b l w)(hg:Ac w w'):Bld B b l w':=by
 have a:=hg.below;refine⟨?_,Ae0 h.low a.size,O5 a (Ad8 h.glob h.low) h.tab,h.glob⟩;rcases h.is with q|q
 ·exact .inl (lF q a)
 ·exact .inr (lF q a)
theorem yQ {B:Nat}{w w':World}(hg:Ac w w')(hl:B<=w.heap.size):Below B w w' :=
 ⟨hg.below.os,hg.below.tape,hg.below.output,hg.below.size,fun k hk=>hg.below.block k (Ad8 hk hl)⟩
theorem frB {B:Nat}{w w':World}(h:Below B w w'):Fr (·<B) w w':=⟨h.os,h.tape,h.output,h.size,fun i _ hp=>h.block i hp⟩
def Kp (B b:Nat)(w w':World):Prop:=Below B w w'/\Lib.OthersKept 5 (some b) w w'
theorem Kp.refl (B b:Nat)(w:World):Kp B b w w:=⟨Below.refl B w,Lib.OthersKept.refl _ _ _⟩
theorem Kp.trans {B b:Nat}{w1 w2 w3:World}(h:Kp B b w1 w2)(k:Kp B b w2 w3):Kp B b w1 w3:=⟨h.1.trans k.1,h.2.trans k.2⟩
theorem Kp.grew {B b:Nat}{w w':World}(hg:Ac w w')(hl:B<=w.heap.size):Kp B b w w':=⟨yQ hg hl,fun _ _ h _ _=>Ac1 hg.below h⟩
theorem Bld.lt {B b:Nat}{l:List UInt8}{w:World}(h:Bld B b l w):b<w.heap.size:=by
 rcases h.is with q|q
 ·exact q.lt
 ·exact q.lt
theorem Kp.box {B b k:Nat}{w w':World}(h:Kp B b w w'){v:Value}(hk:w.heap[k]?=some (.cells #[v] 23 (0,0)))(hb:k≠b):w'.heap[k]?=some (.cells #[v] 23 (0,0)) :=
 h.2 k _ hk (by simpa using hb) (fun c fz e=>by injection e with _ e2 _;exact absurd e2 (by decide))
def xY (B b:Nat)(l t:List UInt8)(w w':World):Prop:=Bld B b (l++t) w'/\Kp B b w w'
def Bx (B b:Nat)(l t:List UInt8)(w:World)(e:Ending)(w':World):Prop:=e=.returned (.tuple #[])/\xY B b l t w w'
theorem I9 (B b:Nat)(l:List UInt8)(s:ByteArray)(w:World)(h:Bld B b l w)(hlen:l.length+s.size<=140737488355328) :
  Calls prog 70 #[.pointer (some ⟨b,0,none⟩),.string s] w fun e w'=>(∃k:Nat,e=.returned (.tuple #[.int .i64 k,.nilIface]))/\xY B b l s.data.toList w w':=by
 refine(yP B b (Lib.byteCells l) s w h.is (by rw[Lib.byteCells_length];exact hlen) h.low).mono ?_;rintro e w' ⟨rfl,c,a,d⟩;exact⟨⟨_,rfl⟩,⟨.inr (by rw[Lib.byteCells_append];exact c),Ae0 h.low a.size,O5 a h.glob h.tab,h.glob⟩,a,d⟩
def Xs (n:Nat):Prop:=∀(B b:Nat)(l:List UInt8)(w:World)(a:AV n)(v:Value),Aj (·<B) w n a v->WF n a->Bld B b l w->l.length+(sh n a).length<=140737488355328->Calls prog 31 #[.pointer (some ⟨b,0,none⟩),v] w (Bx B b l (sh n a) w)
def Q2 (cl:List UInt8)(k:Nat)(l:List (List UInt8)):List UInt8:=if k=0 then jL cl l else jT cl l
def Lh (k:Nat):List UInt8:=if k=0 then[] else[44,32]
theorem nE (cl:List UInt8)(k:Nat):Q2 cl k []=cl:=by unfold Q2;split<;>rfl
theorem iB (cl:List UInt8)(k:Nat)(a:List UInt8)(l:List (List UInt8)):Q2 cl k (a::l)=Lh k++(a++Q2 cl (k+1) l):=by
 unfold Q2 Lh;split<;>simp[jL,jT]
theorem Pt (n:Nat)(hW:Xs n)(B b:Nat)(l:List UInt8)(w:World)(op cl:ByteArray)(a:Option Addr)(len cap:Nat)(es:List (AV n))(h:Bv (·<B) w (Aj (·<B) w n) a len es)(hwf:∀x∈es,WF n x)(hB:Bld B b l w)(hlen:l.length+(op.data.toList++jL cl.data.toList (es.map (sh n))).length<=140737488355328) :
  Calls prog 73 #[.pointer (some ⟨b,0,none⟩),.string op,.slice a len cap,.string cl] w (Bx B b l (op.data.toList++jL cl.data.toList (es.map (sh n))) w):=by
 obtain⟨e1,b1,r1⟩:=h;obtain⟨T,Q⟩:∃T,op.data.toList++jL cl.data.toList (es.map (sh n))=T:=⟨_,rfl⟩;rw[Q] at hlen |-;have E1:Hid (len=es.length):=e1;have HT:Hid (_++Q2 _ 0 ((es.drop 0).map (sh n))=T):=Q;have F:Hid (∀x∈es,WF n x):=hwf;have HW:Hid (Xs n):=hW;have a0:op.size<=T.length:=by rw[<- Q];simp
 have s:Hid (Calls _ 70 #[_,_] w _):=I9 B b l op w hB (by omega);clear e1 Q hwf hW hB;go_enter func73,ntmps73
 go_wp2_with fail
 refine s.out.mono ?_;rintro e w1 ⟨⟨k0,rfl⟩,f,d⟩;have A:Hid _:=f;have E:Hid (Kp B b w w1):=d;clear f d s;go_wp2_with fail
 go_loopw [15] (fun i wr=>∃k:Nat,k<=len/\i=.int .i64 k/\Hid (∃m,Bld B b (l++m) wr/\m++Q2 cl.data.toList k ((es.drop k).map (sh n))=T)/\Hid (Kp B b w wr)) (fun i _=>len-(intOf i).toNat)
 case atStart=>exact⟨0,Ae1 _,rfl,⟨_,A.out,HT.out⟩,E.out⟩
 case round =>
  obtain⟨k,hk,rfl,HM,D⟩:=hrel;obtain⟨m,J,c⟩:=HM.out;have j:Hid (Bld B b (l++m) wr):=J;clear A E HT HM J;by_cases V:k<len
  ·have Z:k<es.length:=by rw[<- E1.out];exact V
   obtain⟨p1,o1,rfl,X,Y,I⟩:=r1.resolve_left (by omega);obtain⟨v,L,u⟩:=I k es[k] (List.getElem?_eq_getElem Z);have g1:=(D.out.1.cell (p:=⟨p1,o1+k,none⟩) Y).trans L;have s1:=Ad8 X D.out.1.size;have a2:=Ae (u.rep _ _ _).one;have hd:=List.drop_eq_getElem_cons Z;rw[hd,List.map_cons,iB] at c;have C:Hid (∀(W:World)(q:_),_->Bld B b q W->_+_<=140737488355328->_):=fun(W:World) (q:_) hw hb hl=>HW.out B b q W es[k] v (u.keep (frB hw)) (F.out _ (List.getElem_mem Z)) hb hl;generalize sh n es[k]=t1 at C c;generalize K:Q2 _ (k+1) _=rr at c;have S:Hid _:=K;have o:=congrArg List.length c;simp only[List.length_append] at o;have P:Hid _:=c;clear I L u r1 hd c K HW F;have M:Hid (Bld B b _ (wr.alloc (.cells #[v] 23))):=j.out.grew ((Ac.refl _).alloc _);have z:Hid (Kp B b w (wr.alloc (.cells #[v] 23))):=D.out.trans (Kp.grew ((Ac.refl _).alloc _) j.out.low);have N:Hid ((wr.alloc (.cells #[v] 23)).heap[wr.heap.size]?=_):=Af rfl;have H:wr.heap.size≠b:=by have:=j.out.lt;omega
   clear j D;go_upto_region 4 with fail
   generalize wr.alloc _=wA at M z N |-;have r:Hid (∀W:World,Bld B b (l++m++Lh k++t1) W->Kp B b w W->∃m',Bld B b (l++m') W/\m'++Q2 cl.data.toList (k+1) ((es.drop (k+1)).map (sh n))=T):=by
    intro W h _;refine⟨m++Lh k++t1,by simpa using h,?_⟩;rw[S.out,<- P.out];simp
   rcases Nat.eq_zero_or_pos k with t|t
   ·have O:Hid (Lh k=[]):=by show _=_;rw[t];rfl
    subst t;have y0:=Ab N.out 0;have g:Hid (Calls _ 31 #[_,v] wA _):=C.out wA _ z.out.1 M.out (by simp;omega);clear C;go_wp2_with fail
    refine g.out.mono ?_;rintro e R ⟨rfl,f,d⟩;have U:Hid (Bld B b (l++m++Lh 0++t1) R):=by show Bld _ _ _ _;rw[O.out,List.append_nil];exact f
    have G:Hid (Kp B b w R):=z.out.trans d;clear f d g;go_wp2_with fail
    go_roundw
    case rel=>exact⟨0+1,by omega,by go_num,r.out _ U.out G.out,G⟩
    case measure=>simp[intOf];omega
   ·have O:Hid (Lh k=[44,32]):=by show _=_;unfold Lh;rw[if_neg (by omega)]
    have a1:(Lh k).length=2:=by rw[O.out];rfl
    have s:Hid (Calls _ 70 #[_,_] wA _):=I9 B b _ ⟨#[44,32]⟩ wA M.out (by simp[ByteArray.size];omega);go_wp2_with fail
    refine s.out.mono ?_;rintro e y ⟨⟨k1,rfl⟩,f,d⟩;have D1:Hid (Bld B b (l++m++Lh k) y):=by rw[O.out];exact f
    have D2:Hid (Kp B b w y):=z.out.trans d;have D3:Hid _:=d.box N.out H;have y0:=Ab D3.out 0;have g:Hid (Calls _ 31 #[_,v] y _):=C.out y _ D2.out.1 D1.out (by simp;omega);clear C f d M z N s;go_wp2_with fail
    refine g.out.mono ?_;rintro e R ⟨rfl,f,d⟩;have U:Hid _:=f;have G:Hid (Kp B b w R):=D2.out.trans d;clear f d g;go_wp2_with fail
    go_roundw
    case rel=>exact⟨k+1,by omega,by go_num,r.out _ U.out G.out,G⟩
    case measure=>simp[intOf];omega
  ·have hq:k=len:=by omega
   have hz:es.drop k=[]:=List.drop_of_length_le (by rw[<- E1.out];omega);rw[hz,List.map_nil,nE] at c;have o:=congrArg List.length c;simp only[List.length_append] at o;have s:Hid (Calls _ 70 #[_,_] wr _):=I9 B b _ cl wr j.out (by simp;simp at o;omega);have P:Hid (l++m++cl.data.toList=l++T):=by show _=_;rw[<- c];simp
   clear r1 c hz;go_wp2_with fail
   refine s.out.mono ?_;rintro e y ⟨⟨k1,rfl⟩,f,d⟩;have HZ:Hid (Bx B b l T w _ y):=⟨rfl,by rw[<- P.out];exact f,D.out.trans d⟩;clear f d s P;go_wp2_with fail
   go_end0
   exact HZ.out
def Q3 (k:Nat)(ks us:List (List UInt8)):List UInt8:=if k=0 then jP ks us else jQ ks us
theorem nF (k:Nat):Q3 k [] []=[93]:=by unfold Q3;split<;>rfl
theorem iC (k:Nat)(a u:List UInt8)(ks us:List (List UInt8)):Q3 k (a::ks) (u::us)=Lh k++(a++([58,32]++(u++Q3 (k+1) ks us))):=by
 unfold Q3 Lh;split<;>simp[jP,jQ]
theorem dD (n:Nat)(hW:Xs n)(B b:Nat)(l:List UInt8)(w:World)(fb d:Nat)(ks us:List (AV n))(h:FnP (·<B) w (Aj (·<B) w n) (Au n) (wt n) fb d ks us)(hq:A7 (Au n) ks=true)(hwu:∀x∈us,WF n x)(hB:Bld B b l w)(hlen:l.length+(60::60::jL [62,62] (us.map (sh n))).length<=140737488355328) :
  Calls prog 74 #[.pointer (some ⟨b,0,none⟩),.pointer (some ⟨fb,0,none⟩)] w (Bx B b l (60::60::jL [62,62] (us.map (sh n))) w):=by
 obtain⟨s,o,t,a,g,f,i,k,_⟩:=h;have c:Hid (Calls _ 73 #[_,_,_,_] w (Bx B b l (60::60::jL [62,62] _) w)):=Pt n hW B b l w ⟨#[60,60]⟩ ⟨#[62,62]⟩ a g f us k hwu hB (by simpa using hlen);rw[hq] at i;obtain⟨-,q,-,r⟩:=Ns i;generalize (60::60::jL [62,62] _)=T at c hlen |-;clear k o;go_enter func74,ntmps74
 go_wp2_with fail
 refine c.out.mono ?_;rintro e p ⟨rfl,j⟩;have m:Hid (Bx B b l T w _ p):=⟨rfl,j⟩;clear j c;go_wp2_with fail
 refine Ae2 (results_none rfl _ _ _) rfl ?_;exact m.out
theorem iD (n:Nat)(hW:Xs n)(B b:Nat)(l:List UInt8)(w:World)(fb d:Nat)(ks us:List (AV n))(h:FnP (·<B) w (Aj (·<B) w n) (Au n) (wt n) fb d ks us)(hq:A7 (Au n) ks=false)(hwk:∀x∈ks,WF n x)(hwu:∀x∈us,WF n x)(hB:Bld B b l w)(hlen:l.length+(91::jP (ks.map (sh n)) (us.map (sh n))).length<=140737488355328) :
  Calls prog 74 #[.pointer (some ⟨b,0,none⟩),.pointer (some ⟨fb,0,none⟩)] w (Bx B b l (91::jP (ks.map (sh n)) (us.map (sh n))) w):=by
 obtain⟨hP,⟨a6,ad,j,b5,Y,ed,bd,rd⟩,hl,a,b4,b6,h0,⟨e1,b1,r1⟩,_⟩:=h;obtain⟨T,hT⟩:∃T,91::jP (ks.map (sh n)) (us.map (sh n))=T:=⟨_,rfl⟩;rw[hT] at hlen |-;rw[hq] at h0;have ll:j=b4:=by omega
 subst ll;have E1:Hid (j=us.length):=e1;have E2:Hid (j=ks.length):=ed;have HT:Hid ([91]++Q3 0 ((ks.drop 0).map (sh n)) ((us.drop 0).map (sh n))=T):=hT;have R:Hid (∀x∈ks,WF n x):=hwk;have S:Hid (∀x∈us,WF n x):=hwu;have HW:Hid (Xs n):=hW;have b9:1<=T.length:=by rw[<- hT];simp
 have z:Hid (Calls _ 70 #[_,_] w _):=I9 B b l ⟨#[91]⟩ w hB (by simp[ByteArray.size];omega);obtain⟨-,f1,-,f3⟩:=Ns h0;have b8:=Aa h0;have b7:=Aa Y;have H0:Hid (∀W:World,_->W.heap[fb]?=_/\W.heap[d]?=_):=fun(W:World) (hW:Below B w W)=>⟨(hW.block fb hP).trans h0,(hW.block d a6).trans Y⟩;clear e1 ed hT hwk hwu hW hB;go_enter func74,ntmps74
 go_wp2_with fail
 refine z.out.mono ?_;rintro e w1 ⟨⟨k0,rfl⟩,f,c⟩;have L:Hid (Bld B b (l++[91]) w1):=f;have Q:Hid (Kp B b w w1):=c;clear f1 f3;have f1:=Ab (H0.out w1 c.1).1 1;clear f c z;go_wp2_with fail
 go_loopw [23] (fun i wr=>∃k:Nat,k<=j/\i=.int .i64 k/\Hid (∃m,Bld B b (l++m) wr/\m++Q3 k ((ks.drop k).map (sh n)) ((us.drop k).map (sh n))=T)/\Hid (Kp B b w wr)) (fun i _=>j-(intOf i).toNat)
 case atStart=>exact⟨0,Ae1 _,rfl,⟨_,L.out,HT.out⟩,Q.out⟩
 case round =>
  obtain⟨k,hk,rfl,HM,P⟩:=hrel;obtain⟨m,a0,g⟩:=HM.out;have t:Hid (Bld B b (l++m) wr):=a0;clear L Q HT HM a0 f1;by_cases Z:k<j
  ·have hx:k<us.length:=by rw[<- E1.out];exact Z
   have hy:k<ks.length:=by rw[<- E2.out];exact Z
   obtain⟨p1,o1,rfl,a7,a8,V⟩:=r1.resolve_left (by omega);obtain⟨H,a3,E⟩:=V k us[k] (List.getElem?_eq_getElem hx);obtain⟨q1,j1,rfl,a9,b0,X⟩:=rd.resolve_left (by omega);obtain⟨x1,a4,a2⟩:=X k ks[k] (List.getElem?_eq_getElem hy);have g1:=(P.out.1.cell (p:=⟨p1,o1+k,none⟩) a8).trans a3;have s1:=Ad8 a7 P.out.1.size;have c0:=Ae (E.rep _ _ _).one;have HK:Hid (∀W:World,Below B w W->_=some x1/\q1<_):=fun _ hW=>⟨(hW.cell (p:=⟨q1,j1+k,none⟩) b0).trans a4,Ad8 a9 hW.size⟩;rw[List.drop_eq_getElem_cons hx,List.drop_eq_getElem_cons hy,List.map_cons,List.map_cons,iC] at g;have M:Hid (∀(W:World)(q:_),_->Bld B b q W->_+_<=140737488355328->_):=fun(W:World) (q:_) hw hb hl=>HW.out B b q W us[k] H (E.keep (frB hw)) (S.out _ (List.getElem_mem hx)) hb hl;have N:Hid (∀(W:World)(q:_),_->Bld B b q W->_+_<=140737488355328->_):=fun(W:World) (q:_) hw hb hl=>HW.out B b q W ks[k] x1 (a2.keep (frB hw)) (R.out _ (List.getElem_mem hy)) hb hl;generalize sh n us[k]=t1 at M g;generalize sh n ks[k]=t2 at N g;generalize a1:Q3 (k+1) _ _=rr at g;have a5:Hid _:=a1;have D:=congrArg List.length g;simp only[List.length_append,List.length_cons,List.length_nil] at D;have HQ:Hid _:=g;clear V a3 E r1 g a1 HW S R X a4 a2 rd;have I:Hid (Bld B b _ (wr.alloc (.cells #[H] 23))):=t.out.grew ((Ac.refl _).alloc _);have J:Hid (Kp B b w (wr.alloc (.cells #[H] 23))):=P.out.trans (Kp.grew ((Ac.refl _).alloc _) t.out.low);have K:Hid ((wr.alloc (.cells #[H] 23)).heap[wr.heap.size]?=_):=Af rfl;have o:wr.heap.size≠b:=by have:=t.out.lt;omega
   clear t P;have y:Hid (∀W:World,Bld B b (l++m++Lh k++t2++[58,32]++t1) W->∃m',Bld B b (l++m') W/\m'++Q3 (k+1) ((ks.drop (k+1)).map (sh n)) ((us.drop (k+1)).map (sh n))=T):=by
    intro W h;refine⟨m++Lh k++t2++[58,32]++t1,by simpa using h,?_⟩;rw[a5.out,<- HQ.out];simp
   go_upto_region 6 with fail
   generalize wr.alloc _=wA at I J K |-;rcases Nat.eq_zero_or_pos k with C|C
   ·have O:Hid (Lh k=[]):=by show _=_;rw[C];rfl
    have D1:Hid (Bld B b (l++m++Lh k) wA):=by show Bld _ _ _ _;rw[O.out,List.append_nil];exact I.out
    have v:Hid (Kp B b w wA):=J;have D3:=K;have b2:(Lh k).length=0:=by rw[O.out];rfl
    clear I J K;obtain⟨z1,z2⟩:=H0.out wA v.out.1;obtain⟨z3,z4⟩:=HK.out wA v.out.1;have z5:=by simpa [C] using z3
    have f0:=Ab z1 0;have d0:=Ab z2 0;have s:Hid (Calls _ 31 #[_,x1] wA _):=N.out wA _ v.out.1 D1.out (by simp;omega);clear z1 z2;go_wp2_with fail
    refine s.out.mono ?_;rintro e F ⟨rfl,f,c⟩;have G1:Hid _:=f;have G2:Hid (Kp B b w F):=v.out.trans c;have G3:Hid _:=c.box D3.out o;clear f c s f0 d0 z3 z4;have u:Hid (Calls _ 70 #[_,_] F _):=I9 B b _ ⟨#[58,32]⟩ F G1.out (by simp[ByteArray.size];omega);go_wp2_with fail
    refine u.out.mono ?_;rintro e G ⟨⟨k2,rfl⟩,f,c⟩;have I1:Hid _:=f;have U:Hid (Kp B b w G):=G2.out.trans c;have I3:Hid _:=c.box G3.out o;have y0:=Ab I3.out 0;have r:Hid (Calls _ 31 #[_,H] G _):=M.out G _ U.out.1 I1.out (by simp;omega);clear f c u M N;go_wp2_with fail
    refine r.out.mono ?_;rintro e w5 ⟨rfl,f,c⟩;have Z1:Hid _:=f;have Z2:Hid (Kp B b w w5):=U.out.trans c;clear f c r;go_wp2_with fail
    go_roundw
    case rel=>exact⟨k+1,by omega,by go_num,y.out _ Z1.out,Z2⟩
    case measure=>simp[intOf];omega
   ·have O:Hid (Lh k=[44,32]):=by show _=_;unfold Lh;rw[if_neg (by omega)]
    have b2:(Lh k).length=2:=by rw[O.out];rfl
    have z:Hid (Calls _ 70 #[_,_] wA _):=I9 B b _ ⟨#[44,32]⟩ wA I.out (by simp[ByteArray.size];omega);go_wp2_with fail
    refine z.out.mono ?_;rintro e A ⟨⟨k1,rfl⟩,f,c⟩;have D1:Hid (Bld B b (l++m++Lh k) A):=by rw[O.out];exact f
    have v:Hid (Kp B b w A):=J.out.trans c;have D3:Hid _:=c.box K.out o;clear f c I J K z;obtain⟨z1,z2⟩:=H0.out A v.out.1;obtain⟨z3,z4⟩:=HK.out A v.out.1;have f0:=Ab z1 0;have d0:=Ab z2 0;have s:Hid (Calls _ 31 #[_,x1] A _):=N.out A _ v.out.1 D1.out (by simp;omega);clear z1 z2;go_wp2_with fail
    refine s.out.mono ?_;rintro e F ⟨rfl,f,c⟩;have G1:Hid _:=f;have G2:Hid (Kp B b w F):=v.out.trans c;have G3:Hid _:=c.box D3.out o;clear f c s f0 d0 z3 z4;have u:Hid (Calls _ 70 #[_,_] F _):=I9 B b _ ⟨#[58,32]⟩ F G1.out (by simp[ByteArray.size];omega);go_wp2_with fail
    refine u.out.mono ?_;rintro e G ⟨⟨k2,rfl⟩,f,c⟩;have I1:Hid _:=f;have U:Hid (Kp B b w G):=G2.out.trans c;have I3:Hid _:=c.box G3.out o;have y0:=Ab I3.out 0;have r:Hid (Calls _ 31 #[_,H] G _):=M.out G _ U.out.1 I1.out (by simp;omega);clear f c u M N;go_wp2_with fail
    refine r.out.mono ?_;rintro e w5 ⟨rfl,f,c⟩;have Z1:Hid _:=f;have Z2:Hid (Kp B b w w5):=U.out.trans c;clear f c r;go_wp2_with fail
    go_roundw
    case rel=>exact⟨k+1,by omega,by go_num,y.out _ Z1.out,Z2⟩
    case measure=>simp[intOf];omega
  ·have hq:k=j:=by omega
   have hz:us.drop k=[]:=List.drop_of_length_le (by rw[<- E1.out];omega);have b3:ks.drop k=[]:=List.drop_of_length_le (by rw[<- E2.out];omega);rw[hz,b3,List.map_nil,nF] at g;have D:=congrArg List.length g;simp only[List.length_append,List.length_cons,List.length_nil] at D;have z:Hid (Calls _ 70 #[_,_] wr _):=I9 B b _ ⟨#[93]⟩ wr t.out (by simp[ByteArray.size];omega);have HQ:Hid (l++m++[93]=l++T):=by show _=_;rw[<- g];simp
   clear r1 g hz rd;go_wp2_with fail
   refine z.out.mono ?_;rintro e A ⟨⟨k1,rfl⟩,f,c⟩;have HZ:Hid (Bx B b l T w _ A):=⟨rfl,by rw[<- HQ.out];exact f,P.out.trans c⟩;clear f c z HQ;go_wp2_with fail
   go_end0
   exact HZ.out
section
attribute [local go_sem] Na Nb Jq Jr Fy Fz Ga Gb Ln Nc I6 I7 Fe Ff Fg Fh Hr Hs Gc Gd Ea Eb Ec Ed Ht Hu Ge Gf Ee Ef Eg Eh Gw Hv Fj Fk Dq Dr Ds Dt Gx Hw Fl Fm Du Dv Dw Dx
section
variable {α:Type} {W:α->Prop} {c:α->α->Int} {wta:α->Nat}
theorem yR {i:Int}(h:wfN W c wta (Cu i)):-9223372036854775808<=i/\i<=9223372036854775807:=by
 rcases h with h|⟨_,h⟩|⟨j,h,a⟩|⟨_,h,_⟩|⟨_,h,_⟩|⟨_,h,_⟩|⟨_,_,h,_⟩<;>simp[Cu,Ar,Bj,Dm,D9,Bt,Dd] at h;subst h;exact a
theorem yS {es:List α}(h:wfN W c wta (Bt es)):∀x∈es,W x:=by
 rcases h with h|⟨_,h⟩|⟨j,h,a⟩|⟨_,h,_⟩|⟨_,h,_⟩|⟨_,h,a,_⟩|⟨_,_,h,_⟩<;>simp[Cu,Ar,Bj,Dm,D9,Bt,Dd] at h;subst h;exact a
theorem Aa2 {ks us:List α}(h:wfN W c wta (Dd ks us)):(∀x∈ks,W x)/\∀x∈us,W x:=by
 rcases h with h|⟨_,h⟩|⟨j,h,a⟩|⟨_,h,_⟩|⟨_,h,_⟩|⟨_,h,a,_⟩|⟨_,_,h,a,b,_⟩<;>simp[Cu,Ar,Bj,Dm,D9,Bt,Dd] at h;obtain⟨rfl,rfl⟩:=h;exact⟨a,b⟩
end
def Sc (l:List UInt8):List UInt8:=34::(l++[34])
def qq:ByteArray:=⟨#[34]⟩
def rC (s:ByteArray):ByteArray:=qq++s++qq
theorem xZ (s:ByteArray):(rC s).data.toList=Sc s.data.toList:=by
 unfold Sc rC;rw[ByteArray.data_append,ByteArray.data_append];simp[qq]
theorem vK:Xs 0:=fun _ _ _ _ _ _ h=>h.elim
theorem yT (B b:Nat)(l:List UInt8)(w:World)(hB:Bld B b l w)(hlen:l.length+3<=140737488355328) :
  Calls prog 31 #[.pointer (some ⟨b,0,none⟩),.nilIface] w (Bx B b l Z6 w):=by
 have a:Hid (Calls _ 70 #[_,_] w _):=I9 B b l ⟨#[110,105,108]⟩ w hB (by simpa [ByteArray.size] using hlen);go_enter func31,ntmps31
 go_wp2_with fail
 refine a.out.mono ?_;rintro e f ⟨⟨g,rfl⟩,c⟩;have d:Hid (Bx B b l Z6 w _ f):=⟨rfl,c⟩;clear c a;go_wp2_with fail
 go_end0
 exact d.out
theorem vL (B b:Nat)(l:List UInt8)(w:World)(bo:Bool)(hB:Bld B b l w)(hlen:l.length+(Lib.formatBool bo).length<=140737488355328) :
  Calls prog 31 #[.pointer (some ⟨b,0,none⟩),.iface 4 (.bool bo)] w (Bx B b l (Lib.formatBool bo) w):=by
 have a:Hid (Calls _ 70 #[_,_] w _):=I9 B b l ⟨(Lib.formatBool bo).toArray⟩ w hB (by simpa [ByteArray.size] using hlen);have c:Hid _:=fun w=>Tryz.strconv_FormatBool bo w;generalize Lib.formatBool bo=t at a c hlen |-;go_enter func31,ntmps31
 go_wp2_with fail
 refine(c.out _).mono ?_;rintro e g ⟨rfl,rfl⟩;go_wp2_with fail
 refine a.out.mono ?_;rintro e h ⟨⟨i,rfl⟩,d⟩;have f:Hid (Bx B b l t g _ h):=⟨rfl,d⟩;clear d a;go_wp2_with fail
 go_end0
 exact f.out
theorem yU (B b:Nat)(l:List UInt8)(w:World)(i:Int)(hi:-9223372036854775808<=i/\i<=9223372036854775807)(hB:Bld B b l w)(hlen:l.length+(Lib.itoa i).length<=140737488355328) :
  Calls prog 31 #[.pointer (some ⟨b,0,none⟩),.iface 2 (.int .i64 i)] w (Bx B b l (Lib.itoa i) w):=by
 have c:Hid _:=fun(W:World) hW=>I9 B b l ⟨(Lib.itoa i).toArray⟩ W (hB.grew hW) (by simpa [ByteArray.size] using hlen);have a:Hid (Calls _ 72 #[_,_] w _):=Tryz.strconv_FormatInt_10 i hi.1 hi.2 w hB.tab;have k:Hid (B<=w.heap.size):=hB.low;generalize Lib.itoa i=t at c a hlen |-;clear hi;go_enter func31,ntmps31
 go_wp2_with fail
 refine a.out.mono ?_;rintro e j ⟨rfl,h⟩;have d:Hid (Ac w j):=h;clear h a;go_wp2_with fail
 refine(c.out j d.out).mono ?_;rintro e n ⟨⟨o,rfl⟩,f,g⟩;have m:Hid (Bx B b l t w _ n):=⟨rfl,f,(Kp.grew d.out k.out).trans g⟩;clear f g c;go_wp2_with fail
 go_end0
 exact m.out
theorem vM (B b:Nat)(l:List UInt8)(w:World)(s:ByteArray)(hB:Bld B b l w)(hlen:l.length+s.data.toList.length<=140737488355328) :
  Calls prog 31 #[.pointer (some ⟨b,0,none⟩),.iface 120 (.string s)] w (Bx B b l s.data.toList w):=by
 have a:Hid (Calls _ 70 #[_,_] w _):=I9 B b l s w hB (by simpa using hlen);generalize s.data.toList=t at a hlen |-;go_enter func31,ntmps31
 go_wp2_with fail
 refine a.out.mono ?_;rintro e f ⟨⟨g,rfl⟩,c⟩;have d:Hid (Bx B b l t w _ f):=⟨rfl,c⟩;clear c a;go_wp2_with fail
 go_end0
 exact d.out
theorem vN (B b:Nat)(l:List UInt8)(w:World)(s:ByteArray)(hB:Bld B b l w)(hlen:l.length+(Sc s.data.toList).length<=140737488355328) :
  Calls prog 31 #[.pointer (some ⟨b,0,none⟩),.iface 119 (.string s)] w (Bx B b l (Sc s.data.toList) w):=by
 have h:s.size<=140737488355328:=by simp[Sc] at hlen;omega
 have d:Hid _:=xZ s;have a:Hid (Calls _ 70 #[_,_] w _):=I9 B b l _ w hB (by have e:=congrArg List.length (xZ s);rw[<- e] at hlen;simpa using hlen);go_enter func31,ntmps31
 go_wp2_with fail
 refine a.out.mono ?_;rintro e g ⟨⟨i,rfl⟩,c⟩;have f:Hid (Bx B b l (Sc _) w _ g):=⟨rfl,by rw[<- d.out];exact c⟩;clear c a;go_wp2_with fail
 go_end0
 exact f.out
theorem yV (n:Nat)(hW:Xs n)(B b:Nat)(l:List UInt8)(w:World)(es:List (AV n))(fb:Nat)(hs:Dy (·<B) w (Aj (·<B) w n) (wt n) fb es)(hwf:∀x∈es,WF n x)(hB:Bld B b l w)(hlen:l.length+(123::jL [125] (es.map (sh n))).length<=140737488355328) :
  Calls prog 31 #[.pointer (some ⟨b,0,none⟩),.iface 121 (.pointer (some ⟨fb,0,none⟩))] w (Bx B b l (123::jL [125] (es.map (sh n))) w):=by
 obtain⟨o,a,f,d,j,h⟩:=hs;have c:Hid (Calls _ 73 #[_,_,_,_] w (Bx B b l (123::jL [125] _) w)):=Pt n hW B b l w ⟨#[123]⟩ ⟨#[125]⟩ a f d es h hwf hB (by simpa using hlen);have m:=Ab j 0;generalize (123::jL [125] _)=T at c hlen |-;clear h hwf;go_enter func31,ntmps31
 go_wp2_with fail
 refine c.out.mono ?_;rintro e k ⟨rfl,g⟩;have i:Hid (Bx B b l T w _ k):=⟨rfl,g⟩;clear g c;go_wp2_with fail
 go_end0
 exact i.out
theorem rD (B b:Nat)(l T:List UInt8)(w:World)(fb:Nat)(hC:Calls prog 74 #[.pointer (some ⟨b,0,none⟩),.pointer (some ⟨fb,0,none⟩)] w (Bx B b l T w)) :
  Calls prog 31 #[.pointer (some ⟨b,0,none⟩),.iface 125 (.pointer (some ⟨fb,0,none⟩))] w (Bx B b l T w):=by
 have a:Hid (Calls _ 74 #[_,_] w _):=hC;clear hC;go_enter func31,ntmps31
 go_wp2_with fail
 refine a.out.mono ?_;rintro e f ⟨rfl,c⟩;have d:Hid (Bx B b l T w _ f):=⟨rfl,c⟩;clear c a;go_wp2_with fail
 go_end0
 exact d.out
theorem vO (n:Nat)(hW:Xs n):Xs (n+1):=by
 intro B b l w a v h g f c;change _+(shN (sh n) (Au n) a).length<=_ at c;change Calls _ 31 #[_,v] w (Bx B b l (shN (sh n) _ a) w);rcases h with⟨rfl,rfl⟩|⟨m,rfl,rfl⟩|⟨i,rfl,rfl⟩|⟨s,rfl,rfl⟩|⟨s,rfl,rfl⟩|⟨t,j,rfl,rfl,x⟩|⟨k,p,j,d,rfl,rfl,r⟩
 ·exact yT B b l w f c
 ·have e:shN (sh n) (Au n) (Bj m)=Lib.formatBool m:=by rw[kX];cases m<;>rfl
  rw[e] at c |-;exact vL B b l w m f c
 ·exact yU B b l w i (yR g) f c
 ·exact vN B b l w s f c
 ·exact vM B b l w s f c
 ·exact yV n hW B b l w t j x (yS g) f c
 ·obtain⟨u,q⟩:=Aa2 g;cases o:A7 (Au n) k with
  | true =>
   rw[gG _ _ k p o] at c |-;exact rD B b l _ w j (dD n hW B b l w j d k p r o q f c)
  | false =>
   rw[qA _ _ k p (by simp[o])] at c |-;exact rD B b l _ w j (iD n hW B b l w j d k p r o u q f c)
theorem Aa3:∀n,Xs n
 | 0=>vK
 | n+1=>vO n (Aa3 n)
end
theorem Aj.low {P:Nat->Prop}{w:World}{n:Nat}{a:AV n}{v:Value}(h:Aj P w n a v):Aj (·<w.heap.size) w n a v:=h.fr (Fr.refl P w) (fun _ hk _=>hk) n a v
theorem dE {P : Nat -> Prop} (w : World) (n : Nat) (a : AV n) (v : Value) (h : Aj P w n a v) (hwf : WF n a) (htab : Lib.TabIs prog w "internal/strconv.uint64pow10" .u64 Lib.pow10Tab) (hg : 2 < w.heap.size) (hlen : (sh n a).length <= 140737488355328) :
  Calls prog 12 #[.agg #[v]] w fun e w'=>e=.returned (.string ⟨(sh n a).toArray⟩)/\Below w.heap.size w w':=by
 have p:=Ae (h.rep _ _ _).one;have f:Hid _:=fun(W:World) (b:Nat) hW hB=>Aa3 n _ b [] W a v (h.low.keep (frB hW)) hwf hB (by simpa using hlen);have j : Hid (Lib.TabIs _ w "internal/strconv.uint64pow10" .u64 _) := htab;clear hwf h htab;generalize sh n a=t at f hlen |-;go_enter func12,ntmps12
 go_wp2_with fail
 have G:Ac w ((w.alloc (.cells #[v] 23)).alloc (.cells #[.pointer none,.slice none 0 0] 76)):=((Ac.refl w).alloc _).alloc _;have o:((w.alloc (.cells #[v] 23)).alloc (.cells #[.pointer none,.slice none 0 0] 76)).heap[w.heap.size+1]?=_:=Af (by simp);have d:Bld _ _ [] _ :=
  ⟨.inl ⟨by omega,_,o,⟨rfl,.inl ⟨rfl,rfl⟩⟩,by simp[Value.ownBlock]⟩,G.below.size,O5 G.below hg j.out,hg⟩
 generalize (w.alloc (.cells #[v] 23)).alloc _=wA at G d |-;refine(f.out wA _ G.below d).mono ?_;rintro e l ⟨rfl,c,k⟩;have i:Hid (Calls _ 32 #[_] l _):=Tryz.Builder_String_any _ _ t l c.is c.low;have g:Hid _:=G.below.trans k.1;clear c k f j d G;go_wp2_with fail
 refine i.out.mono ?_;rintro e q ⟨rfl,c⟩;have m:Hid _:=g.out.trans c;clear c i g;go_wp2_with fail
 go_ret
 exact⟨rfl,m.out⟩
end Go.Proofs.YtdpeliifdlhhkaaGreatDoor.Sx
