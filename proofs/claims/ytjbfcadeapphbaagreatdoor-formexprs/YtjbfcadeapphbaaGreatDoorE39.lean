/- The reference: expressions as text: brackets, commas. -/
import Derived.Test.YtjbfcadeapphbaaGreatDoorE22
import Derived.Deep.LoopGhost
import Derived.Laws.IdiomStrings
import Derived.Test.YtjbfcadeapphbaaGreatDoorE30
namespace Go.Proofs.YtjbfcadeapphbaaGreatDoor.Sx
set_option maxRecDepth 100000
set_option maxHeartbeats 4000000
open Go.RowKit Go.Sort
theorem M5 (k:Nat)(h:9<k):Lib.decDigits k=Lib.decDigits (k / 10)++[UInt8.ofNat (48+k % 10)]:=by
 rw[Lib.decDigits,dif_neg (by omega)]
theorem M6 (x y:List UInt8):(⟨x.toArray⟩:ByteArray)++⟨y.toArray⟩=⟨(x++y).toArray⟩:=ByteArray.ext (by simp[ByteArray.data_append])
theorem Qy (r:Nat):UInt8.ofNat (48+r)=48+UInt8.ofNat r:=by simp
theorem Ia (r:Nat)(hr:r<10)(wr:World):(convert 41 9 (.slice (some ⟨wr.heap.size,0,none⟩) 1 1)).run Tryz.prog (wr.alloc (.cells #[.int .u8 (48+(r:Int))] 5))=.ok (.string ⟨#[UInt8.ofNat (48+r)]⟩) (wr.alloc (.cells #[.int .u8 (48+(r:Int))] 5)):=by
 have c:(wr.alloc _).heap[wr.heap.size]?=some (.cells #[.int .u8 (48+(r:Int))] 5 (0,0)):=Al rfl;have b:=Aa c 0;refine run_convert_bytes_back _ 41 9 5 _ 1 [_] Tryz.underlying41 Tryz.underlying5 Tryz.underlying9 (fun j hj=>?_);have a:j=0:=by simp at hj;omega
 subst a;refine b.trans ?_;simp;omega
theorem N1 (m:Nat)(w:World)(hm:m<=9223372036854775807):Calls Tryz.prog 76 #[.int .i64 (m:Int)] w fun e w'=>e=.returned (.string ⟨(Lib.decDigits m).toArray⟩)/\Ad w w':=by
 have F:IntKind.u64.wrap (m:Int)=(m:Int):=by rw[IntKind.wrap_u64];omega
 have E:¬(m:Int)<0:=by omega
 go_enter Tryz.func76,Tryz.ntmps76
 go_wp2_with fail
 go_loopw [3,4] (fun u s wr=>∃(k:Nat)(l:List UInt8),u=.int .u64 k/\s=.string ⟨l.toArray⟩/\k<=m/\l.length*9+k<=m/\Hid (Lib.decDigits m=Lib.decDigits k++l)/\Hid (Ad w wr)) (fun u _ _=>(intOf u).toNat)
 case atStart=>exact⟨m,[],rfl,rfl,Nat.le_refl _,by simp,by show _=_;simp,Ad.refl w⟩
 case round =>
  obtain⟨k,l,rfl,rfl,D,y,f,g⟩:=hrel;have A:¬9223372036854775807<1+l.length:=by omega
  by_cases x:9<k
  ·have n:(9:Int)<(k:Int):=by omega
   obtain⟨r,i⟩:∃r:Nat,r=k % 10:=⟨_,rfl⟩;obtain⟨q,h⟩:∃q:Nat,q=k / 10:=⟨_,rfl⟩;have t:(k:Int) % 10=(r:Int):=by omega
   have o:(k:Int) / 10=(q:Int):=by omega
   have v:(k:Int).tmod 10=(r:Int):=by rw[Int.tmod_eq_emod_of_nonneg (by omega)];exact t
   have p:(k:Int).tdiv 10=(q:Int):=by rw[Int.tdiv_eq_ediv_of_nonneg (by omega)];exact o
   have d:r<10:=by omega
   have G:IntKind.u64.wrap (r:Int)=(r:Int):=by rw[IntKind.wrap_u64];omega
   have B:IntKind.u64.wrap (48+(r:Int))=48+(r:Int):=by rw[IntKind.wrap_u64];omega
   have C:IntKind.u8.wrap (48+(r:Int))=48+(r:Int):=by rw[IntKind.wrap_u8];omega
   have H:IntKind.u64.wrap (q:Int)=(q:Int):=by rw[IntKind.wrap_u64];omega
   have a:Hid (Lib.decDigits m=Lib.decDigits q++(UInt8.ofNat (48+r)::l)):=by
    show _=_;rw[f.out,M5 k x,i,h,List.append_assoc];rfl
   have j:=Ia r d wr;have c:Hid (Ad w (wr.alloc (.cells #[.int .u8 (48+(r:Int))] 5))):=g.out.alloc _;have z:q+9<=k:=by omega
   clear i h f g;go_wp2_with fail
   go_roundw
   case rel=>exact⟨q,_::l,rfl,by rw[Qy];exact congrArg _ (M6 [48+UInt8.ofNat r] l),by omega,by simp;omega,a,c⟩
   case measure=>simp[intOf];omega
  ·have n:¬(9:Int)<(k:Int):=by omega
   have B:IntKind.u64.wrap (48+(k:Int))=48+(k:Int):=by rw[IntKind.wrap_u64];omega
   have C:IntKind.u8.wrap (48+(k:Int))=48+(k:Int):=by rw[IntKind.wrap_u8];omega
   have j:=Ia k (by omega) wr;have c:Hid (Ad w (wr.alloc (.cells #[.int .u8 (48+(k:Int))] 5))):=g.out.alloc _;have a:Hid (Lib.decDigits m=UInt8.ofNat (48+k)::l):=by
    show _=_;rw[f.out,Lib.decDigits_one (by omega)];rfl
   clear f g;go_wp2_with fail
   go_ret
   refine⟨?_,c.out⟩;rw[a.out,Qy];exact congrArg (fun b=>Ending.returned (Value.string b)) (M6 [48+_] l)
theorem N2 (m:Nat)(w:World)(h1:1<=m)(hm:m<=9223372036854775808):Calls Tryz.prog 76 #[.int .i64 (-(m:Int))] w fun e w'=>e=.returned (.string ⟨(45::Lib.decDigits m).toArray⟩)/\Ad w w':=by
 obtain⟨z,E⟩:∃z:Nat,z=18446744073709551616-m:=⟨_,rfl⟩;have J:IntKind.u64.wrap (-(m:Int))=(z:Int):=by rw[IntKind.wrap_u64];omega
 have D:IntKind.u64.wrap (-(z:Int))=(m:Int):=by rw[IntKind.wrap_u64];omega
 have I:-(m:Int)<0:=by omega
 clear E;go_enter Tryz.func76,Tryz.ntmps76
 go_wp2_with fail
 go_loopw [3,4] (fun u s wr=>∃(k:Nat)(l:List UInt8),u=.int .u64 k/\s=.string ⟨l.toArray⟩/\k<=m/\l.length*9+k<=m/\Hid (Lib.decDigits m=Lib.decDigits k++l)/\Hid (Ad w wr)) (fun u _ _=>(intOf u).toNat)
 case atStart=>exact⟨m,[],rfl,rfl,Nat.le_refl _,by simp,by show _=_;simp,Ad.refl w⟩
 case round =>
  obtain⟨k,l,rfl,rfl,H,y,f,g⟩:=hrel;have B:¬9223372036854775807<1+l.length:=by omega
  have C:¬9223372036854775807<1+(1+l.length):=by omega
  by_cases x:9<k
  ·have n:(9:Int)<(k:Int):=by omega
   obtain⟨r,i⟩:∃r:Nat,r=k % 10:=⟨_,rfl⟩;obtain⟨q,h⟩:∃q:Nat,q=k / 10:=⟨_,rfl⟩;have t:(k:Int) % 10=(r:Int):=by omega
   have o:(k:Int) / 10=(q:Int):=by omega
   have v:(k:Int).tmod 10=(r:Int):=by rw[Int.tmod_eq_emod_of_nonneg (by omega)];exact t
   have p:(k:Int).tdiv 10=(q:Int):=by rw[Int.tdiv_eq_ediv_of_nonneg (by omega)];exact o
   have d:r<10:=by omega
   have K:IntKind.u64.wrap (r:Int)=(r:Int):=by rw[IntKind.wrap_u64];omega
   have F:IntKind.u64.wrap (48+(r:Int))=48+(r:Int):=by rw[IntKind.wrap_u64];omega
   have G:IntKind.u8.wrap (48+(r:Int))=48+(r:Int):=by rw[IntKind.wrap_u8];omega
   have L:IntKind.u64.wrap (q:Int)=(q:Int):=by rw[IntKind.wrap_u64];omega
   have a:Hid (Lib.decDigits m=Lib.decDigits q++(UInt8.ofNat (48+r)::l)):=by
    show _=_;rw[f.out,M5 k x,i,h,List.append_assoc];rfl
   have j:=Ia r d wr;have c:Hid (Ad w (wr.alloc (.cells #[.int .u8 (48+(r:Int))] 5))):=g.out.alloc _;have A:q+9<=k:=by omega
   clear i h f g;go_wp2_with fail
   go_roundw
   case rel=>exact⟨q,_::l,rfl,by rw[Qy];exact congrArg _ (M6 [48+UInt8.ofNat r] l),by omega,by simp;omega,a,c⟩
   case measure=>simp[intOf];omega
  ·have n:¬(9:Int)<(k:Int):=by omega
   have F:IntKind.u64.wrap (48+(k:Int))=48+(k:Int):=by rw[IntKind.wrap_u64];omega
   have G:IntKind.u8.wrap (48+(k:Int))=48+(k:Int):=by rw[IntKind.wrap_u8];omega
   have j:=Ia k (by omega) wr;have c:Hid (Ad w (wr.alloc (.cells #[.int .u8 (48+(k:Int))] 5))):=g.out.alloc _;have a:Hid (Lib.decDigits m=UInt8.ofNat (48+k)::l):=by
    show _=_;rw[f.out,Lib.decDigits_one (by omega)];rfl
   clear f g;go_wp2_with fail
   go_ret
   refine⟨?_,c.out⟩;rw[a.out,Qy];exact congrArg (fun b=>Ending.returned (Value.string b)) ((congrArg (fun b=>(⟨#[45]⟩:ByteArray)++b) (M6 [48+UInt8.ofNat k] l)).trans (M6 [45] _))
theorem N3 (n:Int)(w:World)(h1:-9223372036854775808<=n)(h2:n<=9223372036854775807):Calls Tryz.prog 76 #[.int .i64 n] w fun e w'=>e=.returned (.string ⟨(Lib.itoa n).toArray⟩)/\Ad w w':=by
 by_cases h:n<0
 ·have a:n=-((n.natAbs:Nat):Int):=by omega
  have q:=N2 n.natAbs w (by omega) (by omega);rw[<- a] at q;unfold Lib.itoa;rw[if_pos h];exact q
 ·have a:n=((n.toNat:Nat):Int):=by omega
  have q:=N1 n.toNat w (by omega);rw[<- a] at q;unfold Lib.itoa;rw[if_neg h];exact q
theorem Vn (w:World)(k n:Int)(tx:ByteArray)(x:PX)(h:Mz k n tx.data.toList x)(hs:k=3->tx.size<=1099511627776) :
  Calls Tryz.prog 49 #[.agg #[.int .i64 k,.int .i64 n,.string tx,.slice none 0 0,.slice none 0 0]] w fun e w'=>e=.returned (.string ⟨x.tx.toArray⟩)/\Ad w w':=by
 have a:Hid ((w.alloc (.cells #[.int .i64 k,.int .i64 n,.string tx,.slice none 0 0,.slice none 0 0] 92)).heap[w.heap.size]?=some (.cells #[.int .i64 k,.int .i64 n,.string tx,.slice none 0 0,.slice none 0 0] 92 (0,0))):=Al rfl;have c:Hid (Ad w (w.alloc (.cells #[.int .i64 k,.int .i64 n,.string tx,.slice none 0 0,.slice none 0 0] 92))):=(Ad.refl w).alloc _;have t:=follows;rcases h with⟨rfl,rfl⟩|⟨rfl,rfl,rfl⟩|⟨rfl,rfl,rfl⟩|⟨rfl,g,i,rfl⟩|⟨rfl,rfl⟩
 ·go_enter Tryz.func49,Tryz.ntmps49
  go_upto_region 1 with fail
  generalize w.alloc _=W0 at a c |-;have d:=Aa a.out 0;go_wp2_with fail
  go_ret
  exact⟨rfl,c.out⟩
 ·go_enter Tryz.func49,Tryz.ntmps49
  go_upto_region 1 with fail
  generalize w.alloc _=W0 at a c |-;have d:=Aa a.out 0;have f:=Aa a.out 1;go_wp2_with fail
  go_ret
  exact⟨rfl,c.out⟩
 ·go_enter Tryz.func49,Tryz.ntmps49
  go_upto_region 1 with fail
  generalize w.alloc _=W0 at a c |-;have d:=Aa a.out 0;have f:=Aa a.out 1;go_wp2_with fail
  go_ret
  exact⟨rfl,c.out⟩
 ·have m:Hid (∀W,Calls _ _ _ _ _):=fun W=>N3 n W g i;clear g i;go_enter Tryz.func49,Tryz.ntmps49
  go_upto_region 1 with fail
  generalize w.alloc _=W0 at a c |-;have d:=Aa a.out 0;have f:=Aa a.out 1;go_wp2_with fail
  refine(m.out _).mono ?_;rintro e r ⟨rfl,j⟩;have l:Hid (Ad w r):=c.out.trans j;clear j;go_wp2_with fail
  go_ret
  exact⟨rfl,l.out⟩
 ·have hs:=hs rfl;have p:¬9223372036854775807<1+tx.size:=by omega
  have q:¬9223372036854775807<1+tx.size+1:=by omega
  have o:Hid ((⟨#[34]⟩:ByteArray)++tx++⟨#[34]⟩=⟨(Du tx.data.toList).tx.toArray⟩):=ByteArray.ext (by simp[Du,ByteArray.data_append]);go_enter Tryz.func49,Tryz.ntmps49
  go_upto_region 1 with fail
  generalize w.alloc _=W0 at a c |-;have d:=Aa a.out 0;have s:=Aa a.out 2;go_wp2_with fail
  go_ret
  exact⟨congrArg (fun b=>Ending.returned (Value.string b)) o.out,c.out⟩
def PrT (n:Nat):Prop:=∀(P:Nat->Prop)(w:World)(x:PX)(v:Value)(q:Nat),D2 P w n x v->x.tx.length<=1000000000->q<=14->Calls Tryz.prog 8 #[v,.int .i64 (q:Int)] w fun e w'=>e=.returned (.string ⟨(Ai x q).toArray⟩)/\Ad w w'
theorem D2.grew {P:Nat->Prop}{w w':World}{n:Nat}{x:PX}{v:Value}(h:D2 P w n x v)(g:Ad w w'):D2 P w' n x v:=D2.fr (Fr.grew g) (fun _ _ q=>q) n x v h
theorem Ao.grew {w w':World}{b:Nat}{op nm tx:ByteArray}{a k n:Int}{pa:Option Addr}{len cap:Nat}(h:Ao w b op a nm k n tx pa len cap)(g:Ad w w'):Ao w' b op a nm k n tx pa len cap:=h.of (P:=fun _=>True) (Fr.grew g) trivial
theorem O4 {P:Nat->Prop}{w w':World}{n:Nat}{a:Option Addr}{len:Nat}{es:List PX}(h:Bh P w (D2 P w n) a len es)(g:Ad w w'):Bh P w' (D2 P w' n) a len es:=Bh.fr (Fr.grew g) (fun _ _ h=>h.grew g) (fun _ _ q=>q) h
theorem Yy (w:World)(be q:Nat)(op:ByteArray)(x:PX)(c0:w.cell? ⟨be,0,none⟩=some (.string op))(hrk:x.rk=Ve op.data.toList)(hl:x.tx.length<=1000000000)
  (hB:Calls Tryz.prog 21 #[.pointer (some ⟨be,0,none⟩),.int .i64 (x.rk:Int)] w fun e w'=>e=.returned (.string ⟨x.tx.toArray⟩)/\Ad w w') :
  Calls Tryz.prog 8 #[.pointer (some ⟨be,0,none⟩),.int .i64 (q:Int)] w fun e w'=>e=.returned (.string ⟨(Ai x q).toArray⟩)/\Ad w w':=by
 have f:Hid (Calls _ _ _ _ _):=aX op w be c0;rw[<- hrk] at f;have i:Hid (Calls _ _ _ _ _):=hB;unfold Ai;obtain⟨rk,a⟩:∃rk,x.rk=rk:=⟨_,rfl⟩;obtain⟨l,c⟩:∃l,x.tx=l:=⟨_,rfl⟩;rw[a,c] at i |-;rw[a] at f;rw[c] at hl;clear hrk hB a c c0;by_cases h:rk<q
 ·rw[if_pos h];have n:(rk:Int)<(q:Int):=by omega
  have o:¬9223372036854775807<1+l.length:=by omega
  have p:¬9223372036854775807<1+l.length+1:=by omega
  have m:Hid ((⟨#[40]⟩:ByteArray)++⟨l.toArray⟩++⟨#[41]⟩=⟨(40::(l++[41])).toArray⟩):=ByteArray.ext (by simp[ByteArray.data_append]);clear h;go_enter Tryz.func8,Tryz.ntmps8
  go_wp2_with fail
  refine f.out.mono ?_;rintro e r ⟨rfl,j⟩;obtain rfl:=j.symm;go_wp2_with fail
  refine i.out.mono ?_;rintro e k ⟨rfl,d⟩;have g:Hid (Ad w k):=d;clear d;go_wp2_with fail
  go_ret
  exact⟨congrArg (fun b=>Ending.returned (Value.string b)) m.out,g.out⟩
 ·rw[if_neg h];have n:¬(rk:Int)<(q:Int):=by omega
  clear h;go_enter Tryz.func8,Tryz.ntmps8
  go_wp2_with fail
  refine f.out.mono ?_;rintro e r ⟨rfl,j⟩;obtain rfl:=j.symm;go_wp2_with fail
  refine i.out.mono ?_;rintro e k ⟨rfl,d⟩;have g:Hid (Ad w k):=d;clear d;go_wp2_with fail
  go_ret
  exact⟨rfl,g.out⟩
def Ef (sep:Nat->List UInt8)(kids:List PX)(k:Nat):List UInt8:=Bd sep 0 ((kids.take k).map PX.tx)
theorem O5 (sep:Nat->List UInt8)(a:List UInt8):∀(l:List (List UInt8))(i:Nat),Bd sep i (l++[a])=Bd sep i l++(sep (i+l.length)++a)
 | [],i=>by simp[Bd]
 | b::l,i=>by
  have:=O5 sep a l (i+1);simp only[List.cons_append,Bd,List.length_cons] at this |-;rw[this,show i+1+l.length=i+(l.length+1) by omega];simp
theorem M7 (sep:Nat->List UInt8)(kids:List PX)(k:Nat)(x:PX)(h:kids[k]?=some x):Ef sep kids (k+1)=Ef sep kids k++(sep k++x.tx):=by
 have a:=(List.getElem?_eq_some_iff.1 h).1;unfold Ef;rw[List.take_add_one,h,Option.toList_some,List.map_append,List.map_cons,List.map_nil,O5];rw[List.length_map,List.length_take,Nat.zero_add,Nat.min_eq_left (by omega)]
theorem O6 (sep:Nat->List UInt8)(kids:List PX)(k:Nat)(h:kids.length<=k):Ef sep kids k=Bd sep 0 (kids.map PX.tx):=by
 unfold Ef;rw[List.take_of_length_le h]
theorem Wv (sep:Nat->List UInt8):∀(l m:List (List UInt8))(i:Nat),(Bd sep i l).length<=(Bd sep i (l++m)).length
 | [],m,i=>by simp[Bd]
 | b::l,m,i=>by
  have:=Wv sep l m (i+1);simp only[List.cons_append,Bd,List.length_append] at this |-;omega
theorem S7 (sep:Nat->List UInt8)(kids:List PX)(k:Nat):(Ef sep kids k).length<=(Bd sep 0 (kids.map PX.tx)).length:=by
 have:=Wv sep ((kids.take k).map PX.tx) ((kids.drop k).map PX.tx) 0;rw[<- List.map_append,List.take_append_drop] at this;exact this
theorem Fv (x:PX):Ai x 0=x.tx:=by unfold Ai;rw[if_neg (by omega)]
theorem Qz (a b:List UInt8):(⟨a.toArray⟩:ByteArray)++⟨b.toArray⟩=⟨(a++b).toArray⟩:=ByteArray.ext (by simp[ByteArray.data_append])
theorem I0 {n:Nat}(hP:PrT n)(P:Nat->Prop)(w:World)(pa:Option Addr)(len cap:Nat)(kids:List PX)(hr:Bh P w (D2 P w n) pa len kids)(hl:(Cb kids).length<=1000000000) :
  Calls Tryz.prog 50 #[.slice pa len cap] w fun e w'=>e=.returned (.string ⟨(Cb kids).toArray⟩)/\Ad w w':=by
 have H:Hid (PrT n):=hP;have I:Hid (Bh P w (D2 P w n) pa len kids):=hr;have m:∀k,(Ef Co kids k).length<=1000000000:=fun k=>Nat.le_trans (S7 _ _ _) hl;have l:Hid (∀k,(Ef Co kids k).length<=1000000000):=m;have d:=hr.1;have J:=hr.2.1;have u:Hid (len=kids.length):=d;obtain⟨S,z⟩:∃S,Cb kids=S:=⟨_,rfl⟩;rw[z];have y:Hid (Ef Co kids len=S):=by show _=_;rw[<- z];exact O6 _ _ _ (by omega)
 clear hP hr m hl d z;have U:=follows;go_enter Tryz.func50,Tryz.ntmps50
 go_wp2_with fail
 go_loopw [3,4] (fun s3 i wr=>∃k:Nat,k<=len/\i=.int .i64 (k:Int)/\s3=.string ⟨(Ef Co kids k).toArray⟩/\Hid (Ad w wr)) (fun _ i _=>len-(intOf i).toNat)
 case atStart=>exact⟨0,Nat.zero_le _,rfl,by simp[Ef,Bd],Ad.refl _⟩
 case round =>
  obtain⟨k,R,rfl,rfl,p⟩:=hrel;by_cases L:k<len
  ·obtain⟨x,C⟩:∃x,kids[k]?=some x:=⟨_,List.getElem?_eq_getElem (by have:=u.out;omega)⟩;obtain⟨-,-,T|⟨g,O,rfl,Q,-,E⟩⟩:=O4 I.out p.out
   ·omega
   obtain⟨v,N,f⟩:=E k x C;have j:=M7 Co kids k x C;have a:=l.out (k+1);have A:=l.out k;rw[j] at a;simp only[List.length_append] at a;have o:Hid (Calls _ _ _ _ _):=H.out P wr x v 0 f (by omega) (by omega);rw[Fv] at o;have b:Hid (Ef Co kids (k+1)=Ef Co kids k++(Co k++x.tx)):=j;obtain⟨t,G⟩:∃t,x.tx=t:=⟨_,rfl⟩;obtain⟨s,F⟩:∃s,Ef Co kids k=s:=⟨_,rfl⟩;rw[G] at o b a;rw[F] at b a A |-;clear C E f j G F;by_cases h:k=0
   ·subst h;rw[Nat.add_zero] at N;have q:Co 0=[]:=rfl;rw[q] at b a;have B:¬9223372036854775807<s.length+t.length:=by simp at a;omega
    go_wp2_with fail
    refine o.out.mono ?_;rintro e D ⟨rfl,c⟩;have r:Hid (Ad w D):=p.out.trans c;clear c;go_wp2_with fail
    go_roundw
    case rel=>exact⟨1,by omega,by go_num,by show Value.string (_++_)=_;rw[Qz,b.out];rfl,r⟩
    case measure=>simp[intOf];omega
   ·have q:Co k=[44,32]:=by unfold Co;rw[if_neg h]
    rw[q] at b a;simp only[List.length_cons,List.length_nil] at a;have B:¬9223372036854775807<s.length+2:=by omega
    have M:¬9223372036854775807<s.length+2+t.length:=by omega
    have K:(0:Int)<(k:Int):=by omega
    clear q h;go_wp2_with fail
    refine o.out.mono ?_;rintro e D ⟨rfl,c⟩;have r:Hid (Ad w D):=p.out.trans c;clear c;go_wp2_with fail
    go_roundw
    case rel=>exact⟨k+1,by omega,by go_num,by show Value.string ((⟨s.toArray⟩++⟨[44,32].toArray⟩)++⟨t.toArray⟩)=_;rw[Qz,Qz,b.out,List.append_assoc],r⟩
    case measure=>simp[intOf];omega
  ·obtain rfl:k=len:=by omega
   go_wp2_with fail
   go_ret
   exact⟨by rw[y.out];rfl,p.out⟩
end Go.Proofs.YtjbfcadeapphbaaGreatDoor.Sx
