/- The reference: functions as text. -/
import Derived.Test.YtjbfcadeapphbaaGreatDoorF20
import Derived.Deep.LoopGhost
import Derived.Laws.IdiomStrings
import Derived.Test.YtjbfcadeapphbaaGreatDoorF25
namespace Go.Proofs.YtjbfcadeapphbaaGreatDoor.Sx
set_option maxRecDepth 100000
set_option maxHeartbeats 4000000
open Go.RowKit Go.Sort
theorem Qz (k:Nat)(h:9<k):Lib.decDigits k=Lib.decDigits (k / 10)++[UInt8.ofNat (48+k % 10)]:=by
 rw[Lib.decDigits,dif_neg (by omega)]
theorem Q3 (x y:List UInt8):(⟨x.toArray⟩:ByteArray)++⟨y.toArray⟩=⟨(x++y).toArray⟩:=ByteArray.ext (by simp[ByteArray.data_append])
theorem Vg (r:Nat):UInt8.ofNat (48+r)=48+UInt8.ofNat r:=by simp
theorem J7 (r:Nat)(hr:r<10)(wr:World):(convert 41 9 (.slice (some ⟨wr.heap.size,0,none⟩) 1 1)).run Tryz.prog (wr.alloc (.cells #[.int .u8 (48+(r:Int))] 5))=.ok (.string ⟨#[UInt8.ofNat (48+r)]⟩) (wr.alloc (.cells #[.int .u8 (48+(r:Int))] 5)):=by
 have c:(wr.alloc _).heap[wr.heap.size]?=some (.cells #[.int .u8 (48+(r:Int))] 5 (0,0)):=Af rfl;have b:=Aa c 0;refine run_convert_bytes_back _ 41 9 5 _ 1 [_] Tryz.underlying41 Tryz.underlying5 Tryz.underlying9 (fun j hj=>?_);have a:j=0:=by simp at hj;omega
 subst a;refine b.trans ?_;simp;omega
theorem Sk (m:Nat)(w:World)(hm:m<=9223372036854775807):Calls Tryz.prog 76 #[.int .i64 (m:Int)] w fun e w'=>e=.returned (.string ⟨(Lib.decDigits m).toArray⟩)/\Ad w w':=by
 have F:IntKind.u64.wrap (m:Int)=(m:Int):=by rw[IntKind.wrap_u64];omega
 have E:¬(m:Int)<0:=by omega
 go_enter Tryz.func76,Tryz.ntmps76
 go_wp2_with fail
 go_loopw [3,4] (fun u s wr=>∃(k:Nat)(l:List UInt8),u=.int .u64 k/\s=.string ⟨l.toArray⟩/\k<=m/\l.length*9+k<=m/\Hid (Lib.decDigits m=Lib.decDigits k++l)/\Hid (Ad w wr)) (fun u _ _=>(intOf u).toNat)
 case atStart=>exact⟨m,[],rfl,rfl,Nat.le_refl _,by simp,by show _=_;simp,Ad.refl w⟩
 case round =>
  obtain⟨k,l,rfl,rfl,D,y,f,g⟩:=hrel;have A:¬9223372036854775807<1+l.length:=by omega
  by_cases x:9<k
  ·have n:(9:Int)<(k:Int):=by omega
   obtain⟨r,i⟩:∃r:Nat,r=k % 10:=⟨_,rfl⟩;obtain⟨q,h⟩:∃q:Nat,q=k / 10:=⟨_,rfl⟩;have t:(k:Int) % 10=(r:Int):=by omega
   have o:(k:Int) / 10=(q:Int):=by omega
   have v:(k:Int).tmod 10=(r:Int):=by rw[Int.tmod_eq_emod_of_nonneg (by omega)];exact t
   have p:(k:Int).tdiv 10=(q:Int):=by rw[Int.tdiv_eq_ediv_of_nonneg (by omega)];exact o
   have d:r<10:=by omega
   have G:IntKind.u64.wrap (r:Int)=(r:Int):=by rw[IntKind.wrap_u64];omega
   have B:IntKind.u64.wrap (48+(r:Int))=48+(r:Int):=by rw[IntKind.wrap_u64];omega
   have C:IntKind.u8.wrap (48+(r:Int))=48+(r:Int):=by rw[IntKind.wrap_u8];omega
   have H:IntKind.u64.wrap (q:Int)=(q:Int):=by rw[IntKind.wrap_u64];omega
   have a:Hid (Lib.decDigits m=Lib.decDigits q++(UInt8.ofNat (48+r)::l)):=by
    show _=_;rw[f.out,Qz k x,i,h,List.append_assoc];rfl
   have j:=J7 r d wr;have c:Hid (Ad w (wr.alloc (.cells #[.int .u8 (48+(r:Int))] 5))):=g.out.alloc _;have z:q+9<=k:=by omega
   clear i h f g;go_wp2_with fail
   go_roundw
   case rel=>exact⟨q,_::l,rfl,by rw[Vg];exact congrArg _ (Q3 [48+UInt8.ofNat r] l),by omega,by simp;omega,a,c⟩
   case measure=>simp[intOf];omega
  ·have n:¬(9:Int)<(k:Int):=by omega
   have B:IntKind.u64.wrap (48+(k:Int))=48+(k:Int):=by rw[IntKind.wrap_u64];omega
   have C:IntKind.u8.wrap (48+(k:Int))=48+(k:Int):=by rw[IntKind.wrap_u8];omega
   have j:=J7 k (by omega) wr;have c:Hid (Ad w (wr.alloc (.cells #[.int .u8 (48+(k:Int))] 5))):=g.out.alloc _;have a:Hid (Lib.decDigits m=UInt8.ofNat (48+k)::l):=by
    show _=_;rw[f.out,Lib.decDigits_one (by omega)];rfl
   clear f g;go_wp2_with fail
   go_ret
   refine⟨?_,c.out⟩;rw[a.out,Vg];exact congrArg (fun b=>Ending.returned (Value.string b)) (Q3 [48+_] l)
theorem Sl (m:Nat)(w:World)(h1:1<=m)(hm:m<=9223372036854775808):Calls Tryz.prog 76 #[.int .i64 (-(m:Int))] w fun e w'=>e=.returned (.string ⟨(45::Lib.decDigits m).toArray⟩)/\Ad w w':=by
 obtain⟨z,E⟩:∃z:Nat,z=18446744073709551616-m:=⟨_,rfl⟩;have J:IntKind.u64.wrap (-(m:Int))=(z:Int):=by rw[IntKind.wrap_u64];omega
 have D:IntKind.u64.wrap (-(z:Int))=(m:Int):=by rw[IntKind.wrap_u64];omega
 have I:-(m:Int)<0:=by omega
 clear E;go_enter Tryz.func76,Tryz.ntmps76
 go_wp2_with fail
 go_loopw [3,4] (fun u s wr=>∃(k:Nat)(l:List UInt8),u=.int .u64 k/\s=.string ⟨l.toArray⟩/\k<=m/\l.length*9+k<=m/\Hid (Lib.decDigits m=Lib.decDigits k++l)/\Hid (Ad w wr)) (fun u _ _=>(intOf u).toNat)
 case atStart=>exact⟨m,[],rfl,rfl,Nat.le_refl _,by simp,by show _=_;simp,Ad.refl w⟩
 case round =>
  obtain⟨k,l,rfl,rfl,H,y,f,g⟩:=hrel;have B:¬9223372036854775807<1+l.length:=by omega
  have C:¬9223372036854775807<1+(1+l.length):=by omega
  by_cases x:9<k
  ·have n:(9:Int)<(k:Int):=by omega
   obtain⟨r,i⟩:∃r:Nat,r=k % 10:=⟨_,rfl⟩;obtain⟨q,h⟩:∃q:Nat,q=k / 10:=⟨_,rfl⟩;have t:(k:Int) % 10=(r:Int):=by omega
   have o:(k:Int) / 10=(q:Int):=by omega
   have v:(k:Int).tmod 10=(r:Int):=by rw[Int.tmod_eq_emod_of_nonneg (by omega)];exact t
   have p:(k:Int).tdiv 10=(q:Int):=by rw[Int.tdiv_eq_ediv_of_nonneg (by omega)];exact o
   have d:r<10:=by omega
   have K:IntKind.u64.wrap (r:Int)=(r:Int):=by rw[IntKind.wrap_u64];omega
   have F:IntKind.u64.wrap (48+(r:Int))=48+(r:Int):=by rw[IntKind.wrap_u64];omega
   have G:IntKind.u8.wrap (48+(r:Int))=48+(r:Int):=by rw[IntKind.wrap_u8];omega
   have L:IntKind.u64.wrap (q:Int)=(q:Int):=by rw[IntKind.wrap_u64];omega
   have a:Hid (Lib.decDigits m=Lib.decDigits q++(UInt8.ofNat (48+r)::l)):=by
    show _=_;rw[f.out,Qz k x,i,h,List.append_assoc];rfl
   have j:=J7 r d wr;have c:Hid (Ad w (wr.alloc (.cells #[.int .u8 (48+(r:Int))] 5))):=g.out.alloc _;have A:q+9<=k:=by omega
   clear i h f g;go_wp2_with fail
   go_roundw
   case rel=>exact⟨q,_::l,rfl,by rw[Vg];exact congrArg _ (Q3 [48+UInt8.ofNat r] l),by omega,by simp;omega,a,c⟩
   case measure=>simp[intOf];omega
  ·have n:¬(9:Int)<(k:Int):=by omega
   have F:IntKind.u64.wrap (48+(k:Int))=48+(k:Int):=by rw[IntKind.wrap_u64];omega
   have G:IntKind.u8.wrap (48+(k:Int))=48+(k:Int):=by rw[IntKind.wrap_u8];omega
   have j:=J7 k (by omega) wr;have c:Hid (Ad w (wr.alloc (.cells #[.int .u8 (48+(k:Int))] 5))):=g.out.alloc _;have a:Hid (Lib.decDigits m=UInt8.ofNat (48+k)::l):=by
    show _=_;rw[f.out,Lib.decDigits_one (by omega)];rfl
   clear f g;go_wp2_with fail
   go_ret
   refine⟨?_,c.out⟩;rw[a.out,Vg];exact congrArg (fun b=>Ending.returned (Value.string b)) ((congrArg (fun b=>(⟨#[45]⟩:ByteArray)++b) (Q3 [48+UInt8.ofNat k] l)).trans (Q3 [45] _))
theorem Sm (n:Int)(w:World)(h1:-9223372036854775808<=n)(h2:n<=9223372036854775807):Calls Tryz.prog 76 #[.int .i64 n] w fun e w'=>e=.returned (.string ⟨(Lib.itoa n).toArray⟩)/\Ad w w':=by
 by_cases h:n<0
 ·have a:n=-((n.natAbs:Nat):Int):=by omega
  have q:=Sl n.natAbs w (by omega) (by omega);rw[<- a] at q;unfold Lib.itoa;rw[if_pos h];exact q
 ·have a:n=((n.toNat:Nat):Int):=by omega
  have q:=Sk n.toNat w (by omega);rw[<- a] at q;unfold Lib.itoa;rw[if_neg h];exact q
theorem aV (w:World)(k n:Int)(tx:ByteArray)(x:PX)(h:Qt k n tx.data.toList x)(hs:k=3->tx.size<=1099511627776) :
  Calls Tryz.prog 49 #[.agg #[.int .i64 k,.int .i64 n,.string tx,.slice none 0 0,.slice none 0 0]] w fun e w'=>e=.returned (.string ⟨x.tx.toArray⟩)/\Ad w w':=by
 have a:Hid ((w.alloc (.cells #[.int .i64 k,.int .i64 n,.string tx,.slice none 0 0,.slice none 0 0] 92)).heap[w.heap.size]?=some (.cells #[.int .i64 k,.int .i64 n,.string tx,.slice none 0 0,.slice none 0 0] 92 (0,0))):=Af rfl;have c:Hid (Ad w (w.alloc (.cells #[.int .i64 k,.int .i64 n,.string tx,.slice none 0 0,.slice none 0 0] 92))):=(Ad.refl w).alloc _;have t:=follows;rcases h with⟨rfl,rfl⟩|⟨rfl,rfl,rfl⟩|⟨rfl,rfl,rfl⟩|⟨rfl,g,i,rfl⟩|⟨rfl,rfl⟩
 ·go_enter Tryz.func49,Tryz.ntmps49
  go_upto_region 1 with fail
  generalize w.alloc _=W0 at a c |-;have d:=Aa a.out 0;go_wp2_with fail
  go_ret
  exact⟨rfl,c.out⟩
 ·go_enter Tryz.func49,Tryz.ntmps49
  go_upto_region 1 with fail
  generalize w.alloc _=W0 at a c |-;have d:=Aa a.out 0;have f:=Aa a.out 1;go_wp2_with fail
  go_ret
  exact⟨rfl,c.out⟩
 ·go_enter Tryz.func49,Tryz.ntmps49
  go_upto_region 1 with fail
  generalize w.alloc _=W0 at a c |-;have d:=Aa a.out 0;have f:=Aa a.out 1;go_wp2_with fail
  go_ret
  exact⟨rfl,c.out⟩
 ·have m:Hid (∀W,Calls _ _ _ _ _):=fun W=>Sm n W g i;clear g i;go_enter Tryz.func49,Tryz.ntmps49
  go_upto_region 1 with fail
  generalize w.alloc _=W0 at a c |-;have d:=Aa a.out 0;have f:=Aa a.out 1;go_wp2_with fail
  refine(m.out _).mono ?_;rintro e r ⟨rfl,j⟩;have l:Hid (Ad w r):=c.out.trans j;clear j;go_wp2_with fail
  go_ret
  exact⟨rfl,l.out⟩
 ·have hs:=hs rfl;have p:¬9223372036854775807<1+tx.size:=by omega
  have q:¬9223372036854775807<1+tx.size+1:=by omega
  have o:Hid ((⟨#[34]⟩:ByteArray)++tx++⟨#[34]⟩=⟨(Fg tx.data.toList).tx.toArray⟩):=ByteArray.ext (by simp[Fg,ByteArray.data_append]);go_enter Tryz.func49,Tryz.ntmps49
  go_upto_region 1 with fail
  generalize w.alloc _=W0 at a c |-;have d:=Aa a.out 0;have s:=Aa a.out 2;go_wp2_with fail
  go_ret
  exact⟨congrArg (fun b=>Ending.returned (Value.string b)) o.out,c.out⟩
def PrT (n:Nat):Prop:=∀(P:Nat->Prop)(w:World)(x:PX)(v:Value)(q:Nat),Fc P w n x v->x.tx.length<=1000000000->q<=14->Calls Tryz.prog 8 #[v,.int .i64 (q:Int)] w fun e w'=>e=.returned (.string ⟨(Al x q).toArray⟩)/\Ad w w'
theorem Fc.grew {P:Nat->Prop}{w w':World}{n:Nat}{x:PX}{v:Value}(h:Fc P w n x v)(g:Ad w w'):Fc P w' n x v:=Fc.fr (Fr.grew g) (fun _ _ q=>q) n x v h
theorem Av.grew {w w':World}{b:Nat}{op nm tx:ByteArray}{a k n:Int}{pa:Option Addr}{len cap:Nat}(h:Av w b op a nm k n tx pa len cap)(g:Ad w w'):Av w' b op a nm k n tx pa len cap:=h.of (P:=fun _=>True) (Fr.grew g) trivial
theorem Tf {P:Nat->Prop}{w w':World}{n:Nat}{a:Option Addr}{len:Nat}{es:List PX}(h:Bw P w (Fc P w n) a len es)(g:Ad w w'):Bw P w' (Fc P w' n) a len es:=Bw.fr (Fr.grew g) (fun _ _ h=>h.grew g) (fun _ _ q=>q) h
theorem eR (w:World)(be q:Nat)(op:ByteArray)(x:PX)(c0:w.cell? ⟨be,0,none⟩=some (.string op))(hrk:x.rk=aN op.data.toList)(hl:x.tx.length<=1000000000)
  (hB:Calls Tryz.prog 21 #[.pointer (some ⟨be,0,none⟩),.int .i64 (x.rk:Int)] w fun e w'=>e=.returned (.string ⟨x.tx.toArray⟩)/\Ad w w') :
  Calls Tryz.prog 8 #[.pointer (some ⟨be,0,none⟩),.int .i64 (q:Int)] w fun e w'=>e=.returned (.string ⟨(Al x q).toArray⟩)/\Ad w w':=by
 have f:Hid (Calls _ _ _ _ _):=iD op w be c0;rw[<- hrk] at f;have i:Hid (Calls _ _ _ _ _):=hB;unfold Al;obtain⟨rk,a⟩:∃rk,x.rk=rk:=⟨_,rfl⟩;obtain⟨l,c⟩:∃l,x.tx=l:=⟨_,rfl⟩;rw[a,c] at i |-;rw[a] at f;rw[c] at hl;clear hrk hB a c c0;by_cases h:rk<q
 ·rw[if_pos h];have n:(rk:Int)<(q:Int):=by omega
  have o:¬9223372036854775807<1+l.length:=by omega
  have p:¬9223372036854775807<1+l.length+1:=by omega
  have m:Hid ((⟨#[40]⟩:ByteArray)++⟨l.toArray⟩++⟨#[41]⟩=⟨(40::(l++[41])).toArray⟩):=ByteArray.ext (by simp[ByteArray.data_append]);clear h;go_enter Tryz.func8,Tryz.ntmps8
  go_wp2_with fail
  refine f.out.mono ?_;rintro e r ⟨rfl,j⟩;obtain rfl:=j.symm;go_wp2_with fail
  refine i.out.mono ?_;rintro e k ⟨rfl,d⟩;have g:Hid (Ad w k):=d;clear d;go_wp2_with fail
  go_ret
  exact⟨congrArg (fun b=>Ending.returned (Value.string b)) m.out,g.out⟩
 ·rw[if_neg h];have n:¬(rk:Int)<(q:Int):=by omega
  clear h;go_enter Tryz.func8,Tryz.ntmps8
  go_wp2_with fail
  refine f.out.mono ?_;rintro e r ⟨rfl,j⟩;obtain rfl:=j.symm;go_wp2_with fail
  refine i.out.mono ?_;rintro e k ⟨rfl,d⟩;have g:Hid (Ad w k):=d;clear d;go_wp2_with fail
  go_ret
  exact⟨rfl,g.out⟩
def Gg (sep:Nat->List UInt8)(kids:List PX)(k:Nat):List UInt8:=Bh sep 0 ((kids.take k).map PX.tx)
theorem N2 (sep:Nat->List UInt8)(a:List UInt8):∀(l:List (List UInt8))(i:Nat),Bh sep i (l++[a])=Bh sep i l++(sep (i+l.length)++a)
 | [],i=>by simp[Bh]
 | b::l,i=>by
  have:=N2 sep a l (i+1);simp only[List.cons_append,Bh,List.length_cons] at this |-;rw[this,show i+1+l.length=i+(l.length+1) by omega];simp
theorem Q4 (sep:Nat->List UInt8)(kids:List PX)(k:Nat)(x:PX)(h:kids[k]?=some x):Gg sep kids (k+1)=Gg sep kids k++(sep k++x.tx):=by
 have a:=(List.getElem?_eq_some_iff.1 h).1;unfold Gg;rw[List.take_add_one,h,Option.toList_some,List.map_append,List.map_cons,List.map_nil,N2];rw[List.length_map,List.length_take,Nat.zero_add,Nat.min_eq_left (by omega)]
theorem Tg (sep:Nat->List UInt8)(kids:List PX)(k:Nat)(h:kids.length<=k):Gg sep kids k=Bh sep 0 (kids.map PX.tx):=by
 unfold Gg;rw[List.take_of_length_le h]
theorem Vh (sep:Nat->List UInt8):∀(l m:List (List UInt8))(i:Nat),(Bh sep i l).length<=(Bh sep i (l++m)).length
 | [],m,i=>by simp[Bh]
 | b::l,m,i=>by
  have:=Vh sep l m (i+1);simp only[List.cons_append,Bh,List.length_append] at this |-;omega
theorem Xz (sep:Nat->List UInt8)(kids:List PX)(k:Nat):(Gg sep kids k).length<=(Bh sep 0 (kids.map PX.tx)).length:=by
 have:=Vh sep ((kids.take k).map PX.tx) ((kids.drop k).map PX.tx) 0;rw[<- List.map_append,List.take_append_drop] at this;exact this
theorem Hx (x:PX):Al x 0=x.tx:=by unfold Al;rw[if_neg (by omega)]
theorem Mc (a b:List UInt8):(⟨a.toArray⟩:ByteArray)++⟨b.toArray⟩=⟨(a++b).toArray⟩:=ByteArray.ext (by simp[ByteArray.data_append])
theorem Kx {n:Nat}(hP:PrT n)(P:Nat->Prop)(w:World)(pa:Option Addr)(len cap:Nat)(kids:List PX)(hr:Bw P w (Fc P w n) pa len kids)(hl:(Cx kids).length<=1000000000) :
  Calls Tryz.prog 50 #[.slice pa len cap] w fun e w'=>e=.returned (.string ⟨(Cx kids).toArray⟩)/\Ad w w':=by
 have H:Hid (PrT n):=hP;have I:Hid (Bw P w (Fc P w n) pa len kids):=hr;have m:∀k,(Gg Br kids k).length<=1000000000:=fun k=>Nat.le_trans (Xz _ _ _) hl;have l:Hid (∀k,(Gg Br kids k).length<=1000000000):=m;have d:=hr.1;have J:=hr.2.1;have u:Hid (len=kids.length):=d;obtain⟨S,z⟩:∃S,Cx kids=S:=⟨_,rfl⟩;rw[z];have y:Hid (Gg Br kids len=S):=by show _=_;rw[<- z];exact Tg _ _ _ (by omega)
 clear hP hr m hl d z;have U:=follows;go_enter Tryz.func50,Tryz.ntmps50
 go_wp2_with fail
 go_loopw [3,4] (fun s3 i wr=>∃k:Nat,k<=len/\i=.int .i64 (k:Int)/\s3=.string ⟨(Gg Br kids k).toArray⟩/\Hid (Ad w wr)) (fun _ i _=>len-(intOf i).toNat)
 case atStart=>exact⟨0,Nat.zero_le _,rfl,by simp[Gg,Bh],Ad.refl _⟩
 case round =>
  obtain⟨k,R,rfl,rfl,p⟩:=hrel;by_cases L:k<len
  ·obtain⟨x,C⟩:∃x,kids[k]?=some x:=⟨_,List.getElem?_eq_getElem (by have:=u.out;omega)⟩;obtain⟨-,-,T|⟨g,O,rfl,Q,-,E⟩⟩:=Tf I.out p.out
   ·omega
   obtain⟨v,N,f⟩:=E k x C;have j:=Q4 Br kids k x C;have a:=l.out (k+1);have A:=l.out k;rw[j] at a;simp only[List.length_append] at a;have o:Hid (Calls _ _ _ _ _):=H.out P wr x v 0 f (by omega) (by omega);rw[Hx] at o;have b:Hid (Gg Br kids (k+1)=Gg Br kids k++(Br k++x.tx)):=j;obtain⟨t,G⟩:∃t,x.tx=t:=⟨_,rfl⟩;obtain⟨s,F⟩:∃s,Gg Br kids k=s:=⟨_,rfl⟩;rw[G] at o b a;rw[F] at b a A |-;clear C E f j G F;by_cases h:k=0
   ·subst h;rw[Nat.add_zero] at N;have q:Br 0=[]:=rfl;rw[q] at b a;have B:¬9223372036854775807<s.length+t.length:=by simp at a;omega
    go_wp2_with fail
    refine o.out.mono ?_;rintro e D ⟨rfl,c⟩;have r:Hid (Ad w D):=p.out.trans c;clear c;go_wp2_with fail
    go_roundw
    case rel=>exact⟨1,by omega,by go_num,by show Value.string (_++_)=_;rw[Mc,b.out];rfl,r⟩
    case measure=>simp[intOf];omega
   ·have q:Br k=[44,32]:=by unfold Br;rw[if_neg h]
    rw[q] at b a;simp only[List.length_cons,List.length_nil] at a;have B:¬9223372036854775807<s.length+2:=by omega
    have M:¬9223372036854775807<s.length+2+t.length:=by omega
    have K:(0:Int)<(k:Int):=by omega
    clear q h;go_wp2_with fail
    refine o.out.mono ?_;rintro e D ⟨rfl,c⟩;have r:Hid (Ad w D):=p.out.trans c;clear c;go_wp2_with fail
    go_roundw
    case rel=>exact⟨k+1,by omega,by go_num,by show Value.string ((⟨s.toArray⟩++⟨[44,32].toArray⟩)++⟨t.toArray⟩)=_;rw[Mc,Mc,b.out,List.append_assoc],r⟩
    case measure=>simp[intOf];omega
  ·obtain rfl:k=len:=by omega
   go_wp2_with fail
   go_ret
   exact⟨by rw[y.out];rfl,p.out⟩
theorem aW {s:ByteArray}{l:List UInt8}(h:s.data.toList=l):s=⟨l.toArray⟩:=by rw[<- h]
theorem nM (b:ByteArray)(l:List UInt8):b++⟨l.toArray⟩=⟨(b.data.toList++l).toArray⟩:=by
 have:=Mc b.data.toList l;rw[<- aW (s:=b) rfl] at this;exact this
def Cg (w:World)(be:Nat)(x:PX):Prop:=Calls Tryz.prog 21 #[.pointer (some ⟨be,0,none⟩),.int .i64 (x.rk:Int)] w fun e w'=>e=.returned (.string ⟨x.tx.toArray⟩)/\Ad w w'
theorem Ya (w:World)(be:Nat)(nm tx:ByteArray)(a k n:Int)(pa:Option Addr)(len cap:Nat)(x:PX)(he:Av w be ⟨#[118,97,108,117,101]⟩ a nm k n tx pa len cap)(hx:Qt k n tx.data.toList x)(hl:x.tx.length<=1000000000):Cg w be x:=by
 have b:Hid (Calls _ _ _ _ _):=aV w k n tx x hx (fun e=>by
  subst e;rcases hx with⟨h,-⟩|⟨h,-⟩|⟨h,-⟩|⟨h,-⟩|⟨-,rfl⟩
  ·omega
  ·omega
  ·omega
  ·omega
  ·simp[Fg] at hl;omega)
 have g:=Aa he 0;have i:=Aa he 3;have j:=Aa he 4;have m:=Aa he 5;have o:=Aa he 6;have p:=Aa he 7;have q:=Ac he;have r:=follows;clear he hx hl;unfold Cg;generalize x.tx=l at b |-;generalize (x.rk:Int)=rk;go_enter Tryz.func21,Tryz.ntmps21
 go_wp2_with fail
 refine b.out.mono ?_;rintro e f ⟨rfl,c⟩;have d:Hid (Ad w f):=c;clear c;go_wp2_with fail
 go_ret
 exact⟨rfl,d.out⟩
theorem aX (w:World)(be:Nat)(nm tx:ByteArray)(a k n:Int)(pa:Option Addr)(len cap:Nat)(he:Av w be ⟨#[110,97,109,101]⟩ a nm k n tx pa len cap):Cg w be (Cw nm.data.toList):=by
 have c:=Aa he 0;have d:=Aa he 2;have e:=Ac he;have f:=follows;clear he;have b:Hid (nm=⟨(Cw nm.data.toList).tx.toArray⟩):=aW rfl;unfold Cg;generalize (Cw nm.data.toList).tx=l at b |-;generalize (((Cw nm.data.toList).rk:Nat):Int)=rk;go_enter Tryz.func21,Tryz.ntmps21
 go_wp2_with fail
 go_ret
 exact⟨by rw[<- b.out];rfl,Ad.refl _⟩
theorem Yb (w:World)(be:Nat)(nm tx:ByteArray)(a k n:Int)(pa:Option Addr)(len cap:Nat)(he:Av w be ⟨#[112,114,105,109,101]⟩ a nm k n tx pa len cap)(hl:(Cw (nm.data.toList++[39])).tx.length<=1000000000):Cg w be (Cw (nm.data.toList++[39])):=by
 have e:=Aa he 0;have f:=Aa he 2;have g:=Ac he;have h:=follows;clear he;have d:¬9223372036854775807<nm.size+1:=by simp[Cw] at hl;omega
 have c:Hid (nm++⟨#[39]⟩=⟨(Cw (nm.data.toList++[39])).tx.toArray⟩):=nM nm [39];unfold Cg;generalize (Cw (nm.data.toList++[39])).tx=l at c hl |-;generalize (((Cw (nm.data.toList++[39])).rk:Nat):Int)=rk;clear hl;go_enter Tryz.func21,Tryz.ntmps21
 go_wp2_with fail
 go_ret
 exact⟨congrArg (fun b=>Ending.returned (Value.string b)) c.out,Ad.refl _⟩
theorem Ng (w:World)(be r:Nat)(op nm tx:ByteArray)(a k n:Int)(pa:Option Addr)(len cap:Nat)(he:Av w be op a nm k n tx pa len cap)(ho:op=⟨#[117,110,99,104,97,110,103,101,100]⟩\/op=⟨#[101,110,97,98,108,101,100]⟩)(hl:(Ed r op.data.toList nm.data.toList).tx.length<=1000000000):Cg w be (Ed r op.data.toList nm.data.toList):=by
 have i:=Aa he 0;have j:=Aa he 2;have m:=Aa (he.grew (Ad.refl w).drew) 0;have o:=Aa (he.grew (Ad.refl w).drew) 2;have p:=Ac he;have q:=follows;clear he;have d:Hid (op++⟨#[32]⟩++nm=⟨(Ed r op.data.toList nm.data.toList).tx.toArray⟩):=ByteArray.ext (by simp[Ed,ByteArray.data_append]);have e:op.size+1+nm.size<=1000000000:=by simp[Ed] at hl;omega
 unfold Cg;generalize (Ed r op.data.toList nm.data.toList).tx=l at d hl |-;generalize (((Ed r op.data.toList nm.data.toList).rk:Nat):Int)=rk;clear hl;rcases ho with rfl|rfl
 all_goals
  have f:nm.size<=1000000000:=by omega
  have g:¬9223372036854775807<10+nm.size:=by omega
  have h:¬9223372036854775807<8+nm.size:=by omega
  clear e;go_enter Tryz.func21,Tryz.ntmps21
  go_wp2_with fail
  go_big_region_o
  have c:Hid (Ad w w.drew):=(Ad.refl w).drew;generalize w.drew=W1 at c |-;go_wp2_with fail
  go_ret
  exact⟨congrArg (fun b=>Ending.returned (Value.string b)) d.out,c.out⟩
def lit (l:List UInt8):ByteArray:=⟨l.toArray⟩
theorem Q5 {N:Nat}(hP:PrT N)(P:Nat->Prop)(w:World)(be:Nat)(op nm tx:ByteArray)(a k n:Int)(pa:Option Addr)(len cap:Nat)(kids:List PX)(he:Av w be op a nm k n tx pa len cap)(hr:Bw P w (Fc P w N) pa len kids)(ho:op.data.toList=hH\/op.data.toList∈Cs)(hl:(Ef nm.data.toList kids).tx.length<=1000000000):Cg w be (Ef nm.data.toList kids):=by
 have h:nm.size+1+(Cx kids).length+1<=1000000000:=by simp[Ef] at hl;omega
 have f:Hid (Calls _ _ _ _ _):=Kx hP P w pa len cap kids hr (by omega);have j:Hid (Av w be op a nm k n tx pa len cap):=he;have m:=Aa he 0;have o:=Aa he 8;have u:=Ac he;have v:=follows;clear he hr hP;have c:Hid (nm++⟨#[40]⟩++⟨(Cx kids).toArray⟩++⟨#[41]⟩=⟨(Ef nm.data.toList kids).tx.toArray⟩):=ByteArray.ext (by simp[Ef,ByteArray.data_append]);unfold Cg;generalize (Ef nm.data.toList kids).tx=l at c hl |-;generalize (((Ef nm.data.toList kids).rk:Nat):Int)=rk;generalize Cx kids=S at c f h;clear hl;have p:¬9223372036854775807<nm.size+1:=by omega
 have q:¬9223372036854775807<nm.size+1+S.length:=by omega
 have r:¬9223372036854775807<nm.size+1+S.length+1:=by omega
 clear h;simp only[hH,Cs,List.mem_cons,List.not_mem_nil,or_false] at ho;have g:op=⟨⟨op.data.toList⟩⟩:=by cases op;rfl
 generalize op.data.toList=lo at ho g;subst g;rcases ho with rfl|rfl|rfl|rfl|rfl|rfl|rfl|rfl
 all_goals
  go_enter Tryz.func21,Tryz.ntmps21
  go_wp2_with fail
  refine f.out.mono ?_;rintro e s ⟨rfl,d⟩;have i:Hid (Ad w s):=d;have t:=Aa (j.out.grew d) 2;clear d m o;go_wp2_with fail
  go_ret
  exact⟨congrArg (fun b=>Ending.returned (Value.string b)) c.out,i.out⟩
theorem eS {N:Nat}(hP:PrT N)(P:Nat->Prop)(w:World)(be:Nat)(nm tx:ByteArray)(a k n:Int)(pa:Option Addr)(len cap:Nat)(kids:List PX)(he:Av w be ⟨#[115,101,116]⟩ a nm k n tx pa len cap)(hr:Bw P w (Fc P w N) pa len kids)(hl:(Jo kids).tx.length<=1000000000):Cg w be (Jo kids):=by
 have g:1+(Cx kids).length+1<=1000000000:=by simp[Jo] at hl;omega
 have d:Hid (Calls _ _ _ _ _):=Kx hP P w pa len cap kids hr (by omega);have i:=Aa he 0;have j:=Aa he 8;have q:=Ac he;have r:=follows;clear he hr hP;have c:Hid ((⟨#[123]⟩:ByteArray)++⟨(Cx kids).toArray⟩++⟨#[125]⟩=⟨(Jo kids).tx.toArray⟩):=ByteArray.ext (by simp[Jo,ByteArray.data_append]);unfold Cg;generalize (Jo kids).tx=l at c hl |-;generalize (((Jo kids).rk:Nat):Int)=rk;generalize Cx kids=S at c d g;clear hl;have m:¬9223372036854775807<1+S.length:=by omega
 have o:¬9223372036854775807<1+S.length+1:=by omega
 clear g;go_enter Tryz.func21,Tryz.ntmps21
 go_wp2_with fail
 refine d.out.mono ?_;rintro e p ⟨rfl,f⟩;have h:Hid (Ad w p):=f;clear f i j;go_wp2_with fail
 go_ret
 exact⟨congrArg (fun b=>Ending.returned (Value.string b)) c.out,h.out⟩
theorem eT {N:Nat}(hP:PrT N)(P:Nat->Prop)(w:World)(be:Nat)(nm tx:ByteArray)(a k n:Int)(pa:Option Addr)(len cap:Nat)(kids:List PX)(he:Av w be ⟨#[115,101,113]⟩ a nm k n tx pa len cap)(hr:Bw P w (Fc P w N) pa len kids)(hl:(Iz kids).tx.length<=1000000000):Cg w be (Iz kids):=by
 have g:2+(Cx kids).length+2<=1000000000:=by simp[Iz] at hl;omega
 have d:Hid (Calls _ _ _ _ _):=Kx hP P w pa len cap kids hr (by omega);have i:=Aa he 0;have j:=Aa he 8;have q:=Ac he;have r:=follows;clear he hr hP;have c:Hid ((⟨#[60,60]⟩:ByteArray)++⟨(Cx kids).toArray⟩++⟨#[62,62]⟩=⟨(Iz kids).tx.toArray⟩):=ByteArray.ext (by simp[Iz,ByteArray.data_append]);unfold Cg;generalize (Iz kids).tx=l at c hl |-;generalize (((Iz kids).rk:Nat):Int)=rk;generalize Cx kids=S at c d g;clear hl;have m:¬9223372036854775807<2+S.length:=by omega
 have o:¬9223372036854775807<2+S.length+2:=by omega
 clear g;go_enter Tryz.func21,Tryz.ntmps21
 go_wp2_with fail
 refine d.out.mono ?_;rintro e p ⟨rfl,f⟩;have h:Hid (Ad w p):=f;clear f i j;go_wp2_with fail
 go_ret
 exact⟨congrArg (fun b=>Ending.returned (Value.string b)) c.out,h.out⟩
theorem eU {N:Nat}(hP:PrT N)(P:Nat->Prop)(w:World)(be:Nat)(nm tx:ByteArray)(a k0 n:Int)(pa:Option Addr)(len cap:Nat)(kids:List PX)(he:Av w be ⟨#[102,117,110]⟩ a nm k0 n tx pa len cap)(hr:Bw P w (Fc P w N) pa len kids)(hl:(Jh kids).tx.length<=1000000000):Cg w be (Jh kids):=by
 have K:1+(Bh C9 0 (kids.map PX.tx)).length+1<=1000000000:=by simp[Jh] at hl;omega
 have R:Hid (PrT N):=hP;have T:Hid (Bw P w (Fc P w N) pa len kids):=hr;have L:Hid (Av w be ⟨#[102,117,110]⟩ a nm k0 n tx pa len cap):=he;have z:Hid (∀k,(Gg C9 kids k).length<=999999998):=fun k=>Nat.le_trans (Xz _ _ _) (by omega);have m:=hr.1;have V:=hr.2.1;have E:Hid (len=kids.length):=m;have U:=Aa he 0;have hb:=Ac he;have mo:=follows;have A:Hid (Gg C9 kids len=Bh C9 0 (kids.map PX.tx)):=Tg _ _ _ (by omega);have D:Hid ((⟨#[91]⟩:ByteArray)++⟨(Bh C9 0 (kids.map PX.tx)).toArray⟩++⟨#[93]⟩=⟨(Jh kids).tx.toArray⟩):=ByteArray.ext (by simp[Jh,ByteArray.data_append]);unfold Cg;generalize (Jh kids).tx=l at D hl |-;generalize (((Jh kids).rk:Nat):Int)=rk;generalize Bh C9 0 (kids.map PX.tx)=S at D A K;have a0:¬9223372036854775807<1+S.length:=by omega
 have a1:¬9223372036854775807<1+S.length+1:=by omega
 clear hl K hP hr m he;go_enter Tryz.func21,Tryz.ntmps21
 go_wp2_with fail
 go_loopw [8,9] (fun s8 i wr=>∃k:Nat,k<=len/\i=.int .i64 (k:Int)/\s8=.string ⟨(Gg C9 kids k).toArray⟩/\Hid (Ad w wr)) (fun _ i _=>len-(intOf i).toNat)
 case atStart=>exact⟨0,Nat.zero_le _,rfl,by simp[Gg,Bh],Ad.refl _⟩
 case round =>
  clear U;obtain⟨k,hk,rfl,rfl,p⟩:=hrel;have F:=Aa (L.out.grew p.out) 8;have W:=Ac (L.out.grew p.out);by_cases X:k<len
  ·obtain⟨x,J⟩:∃x,kids[k]?=some x:=⟨_,List.getElem?_eq_getElem (by have:=E.out;omega)⟩;obtain⟨-,-,K|⟨g,a2,rfl,hg,-,M⟩⟩:=Tf T.out p.out
   ·omega
   obtain⟨v,Z,o⟩:=M k x J;have r:=Q4 C9 kids k x J;have c:=z.out (k+1);have H:=z.out k;rw[r] at c;simp only[List.length_append] at c;have y:Hid (Calls _ _ _ _ _):=R.out P wr x v 0 o (by omega) (by omega);rw[Hx] at y;have d:Hid (Gg C9 kids (k+1)=Gg C9 kids k++(C9 k++x.tx)):=r;obtain⟨t,Q⟩:∃t,x.tx=t:=⟨_,rfl⟩;obtain⟨s,O⟩:∃s,Gg C9 kids k=s:=⟨_,rfl⟩;rw[Q] at y d c;rw[O] at d c H |-;clear J M o r Q O;by_cases h:k % 2=1
   ·have j:C9 k=[58,32]:=by unfold C9;rw[if_pos h]
    rw[j] at d c;simp only[List.length_cons,List.length_nil] at c;have B:¬9223372036854775807<s.length+2:=by omega
    have I:¬9223372036854775807<s.length+2+t.length:=by omega
    have G:(0:Int)<(k:Int):=by omega
    have Y:(k:Int) % 2=1:=by omega
    clear j;go_wp2_with fail
    refine y.out.mono ?_;rintro e C ⟨rfl,f⟩;have u:Hid (Ad w C):=p.out.trans f;clear f F;go_wp2_with fail
    go_roundw
    case rel=>exact⟨k+1,by omega,by go_num,by show Value.string ((⟨s.toArray⟩++⟨[58,32].toArray⟩)++⟨t.toArray⟩)=_;rw[Mc,Mc,d.out,List.append_assoc],u⟩
    case measure=>simp[intOf];omega
   ·by_cases q:k=0
    ·subst q;rw[Nat.add_zero] at Z;have j:C9 0=[]:=rfl;rw[j] at d c;simp only[List.length_nil] at c;have B:¬9223372036854775807<s.length+t.length:=by omega
     clear j h;go_wp2_with fail
     refine y.out.mono ?_;rintro e C ⟨rfl,f⟩;have u:Hid (Ad w C):=p.out.trans f;clear f F;go_wp2_with fail
     go_roundw
     case rel=>exact⟨1,by omega,by go_num,by show Value.string (_++_)=_;rw[Mc,d.out];rfl,u⟩
     case measure=>simp[intOf];omega
    ·have j:C9 k=[44,32]:=by unfold C9;rw[if_neg h,if_neg q]
     rw[j] at d c;simp only[List.length_cons,List.length_nil] at c;have B:¬9223372036854775807<s.length+2:=by omega
     have I:¬9223372036854775807<s.length+2+t.length:=by omega
     have G:(0:Int)<(k:Int):=by omega
     have Y:(k:Int) % 2=0:=by omega
     clear j h q;go_wp2_with fail
     refine y.out.mono ?_;rintro e C ⟨rfl,f⟩;have u:Hid (Ad w C):=p.out.trans f;clear f F;go_wp2_with fail
     go_roundw
     case rel=>exact⟨k+1,by omega,by go_num,by show Value.string ((⟨s.toArray⟩++⟨[44,32].toArray⟩)++⟨t.toArray⟩)=_;rw[Mc,Mc,d.out,List.append_assoc],u⟩
     case measure=>simp[intOf];omega
  ·obtain rfl:k=len:=by omega
   rw[A.out];go_wp2_with fail
   go_ret
   exact⟨congrArg (fun b=>Ending.returned (Value.string b)) D.out,p.out⟩
end Go.Proofs.YtjbfcadeapphbaaGreatDoor.Sx
