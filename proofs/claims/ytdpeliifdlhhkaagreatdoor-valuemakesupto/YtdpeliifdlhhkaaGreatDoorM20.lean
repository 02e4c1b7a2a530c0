/- The law of orders: its walk. -/
import Derived.Test.YtdpeliifdlhhkaaGreatDoorM10
import Derived.Test.YtdpeliifdlhhkaaGreatDoorM19
import Derived.WalkKit
import Derived.LaidEql
import Derived.Stop.Asserts
import Derived.RowKitTokens
import Derived.Laws.IdiomStrings
namespace Go.Proofs.YtdpeliifdlhhkaaGreatDoor.Sx
open Go.RowKit Go.Sort Tryz
set_option maxRecDepth 100000
set_option maxHeartbeats 8000000
/-- a text read on both sides: the same value -/
structure zF (w:World)(x:AV 25)(v u:Value):Prop where
 had:Had w x v
 ref:Ref (fun _=>True) w 25 x u
theorem zF.below {w w':World}{x:AV 25}{v u:Value}(h:zF w x v u)(hb:Below w.heap.size w w'):zF w' x v u:=⟨h.had.below hb,h.ref.keep (Fr.below hb)⟩
theorem Fr.all {w w':World}(h:Fr (fun _=>True) w w'):Below w.heap.size w w':=⟨h.os,h.tape,h.output,h.size,fun i hi=>h.block i hi trivial⟩
/-- what the law of reading starts from -/
structure lN (w:World):Prop where
 base:Ju w
 et:w.cell? ⟨0,0,none⟩=some (.iface 216 (.agg #[.pointer (some ⟨7,25,none⟩)]))
theorem sC {w:World}{v:Value}(h:w.cell? ⟨0,0,none⟩=some v):0<w.heap.size:=by
 rcases Nat.eq_zero_or_pos w.heap.size with a|b
 ·simp[World.cell?,a] at h
 ·exact b
theorem oD {w w':World}(hb:Below w.heap.size w w'){v:Value}(h:w.cell? ⟨0,0,none⟩=some v):w'.cell? ⟨0,0,none⟩=some v:=by
 have:=hb.block 0 (sC h);simp only[World.cell?] at h |-;rw[this];exact h
theorem lN.below {w w':World}(h:lN w)(hb:Below w.heap.size w w'):lN w':=⟨h.base.below hb,oD hb h.et⟩
theorem eA (k:Nat)(h:9<k):Lib.decDigits k=Lib.decDigits (k / 10)++[UInt8.ofNat (48+k % 10)]:=by
 rw[Lib.decDigits,dif_neg (by omega)]
theorem Oi (x y:List UInt8):(⟨x.toArray⟩:ByteArray)++⟨y.toArray⟩=⟨(x++y).toArray⟩:=ByteArray.ext (by simp[ByteArray.data_append])
theorem vY (r:Nat):UInt8.ofNat (48+r)=48+UInt8.ofNat r:=by simp
theorem Rb (r:Nat)(hr:r<10)(wr:World):(convert 74 9 (.slice (some ⟨wr.heap.size,0,none⟩) 1 1)).run prog (wr.alloc (.cells #[.int .u8 (48+(r:Int))] 5))=.ok (.string ⟨#[UInt8.ofNat (48+r)]⟩) (wr.alloc (.cells #[.int .u8 (48+(r:Int))] 5)):=by
 have c:(wr.alloc _).heap[wr.heap.size]?=some (.cells #[.int .u8 (48+(r:Int))] 5 (0,0)):=Af rfl;have b:=Ab c 0;refine run_convert_bytes_back _ 74 9 5 _ 1 [_] underlying74 underlying5 underlying9 (fun j hj=>?_);have a:j=0:=by simp at hj;omega
 subst a;refine b.trans ?_;simp;omega
theorem eB (m:Nat)(w:World)(hm:m<=9223372036854775807):Calls prog 33 #[.int .i64 (m:Int)] w fun e w'=>e=.returned (.string ⟨(Lib.decDigits m).toArray⟩)/\Ac w w':=by
 have F:IntKind.u64.wrap (m:Int)=(m:Int):=by rw[IntKind.wrap_u64];omega
 have E:¬(m:Int)<0:=by omega
 go_enter func33,ntmps33
 go_wp2_with fail
 go_loopw [3,4] (fun u s wr=>∃(k:Nat)(l:List UInt8),u=.int .u64 k/\s=.string ⟨l.toArray⟩/\k<=m/\l.length*9+k<=m/\Hid (Lib.decDigits m=Lib.decDigits k++l)/\Hid (Ac w wr)) (fun u _ _=>(intOf u).toNat)
 case atStart=>exact⟨m,[],rfl,rfl,Ad9 _,by simp,by show _=_;simp,Ac.refl w⟩
 case round =>
  obtain⟨k,l,rfl,rfl,D,y,f,g⟩:=hrel;have A:¬9223372036854775807<1+l.length:=by omega
  by_cases x:9<k
  ·have n:(9:Int)<(k:Int):=by omega
   obtain⟨r,i⟩:∃r:Nat,r=k % 10:=⟨_,rfl⟩;obtain⟨q,h⟩:∃q:Nat,q=k / 10:=⟨_,rfl⟩;have t:(k:Int) % 10=(r:Int):=by omega
   have o:(k:Int) / 10=(q:Int):=by omega
   have v:(k:Int).tmod 10=(r:Int):=by rw[Int.tmod_eq_emod_of_nonneg (by omega)];exact t
   have p:(k:Int).tdiv 10=(q:Int):=by rw[Int.tdiv_eq_ediv_of_nonneg (by omega)];exact o
   have d:r<10:=by omega
   have G:IntKind.u64.wrap (r:Int)=(r:Int):=by rw[IntKind.wrap_u64];omega
   have B:IntKind.u64.wrap (48+(r:Int))=48+(r:Int):=by rw[IntKind.wrap_u64];omega
   have C:IntKind.u8.wrap (48+(r:Int))=48+(r:Int):=by rw[IntKind.wrap_u8];omega
   have H:IntKind.u64.wrap (q:Int)=(q:Int):=by rw[IntKind.wrap_u64];omega
   have a:Hid (Lib.decDigits m=Lib.decDigits q++(UInt8.ofNat (48+r)::l)):=by
    show _=_;rw[f.out,eA k x,i,h,List.append_assoc];rfl
   have j:=Rb r d wr;have c:Hid (Ac w (wr.alloc (.cells #[.int .u8 (48+(r:Int))] 5))):=g.out.alloc _;have z:q+9<=k:=by omega
   clear i h f g;go_wp2_with fail
   go_roundw
   case rel=>exact⟨q,_::l,rfl,by rw[vY];exact congrArg _ (Oi [48+UInt8.ofNat r] l),by omega,by simp;omega,a,c⟩
   case measure=>simp[intOf];omega
  ·have n:¬(9:Int)<(k:Int):=by omega
   have B:IntKind.u64.wrap (48+(k:Int))=48+(k:Int):=by rw[IntKind.wrap_u64];omega
   have C:IntKind.u8.wrap (48+(k:Int))=48+(k:Int):=by rw[IntKind.wrap_u8];omega
   have j:=Rb k (by omega) wr;have c:Hid (Ac w (wr.alloc (.cells #[.int .u8 (48+(k:Int))] 5))):=g.out.alloc _;have a:Hid (Lib.decDigits m=UInt8.ofNat (48+k)::l):=by
    show _=_;rw[f.out,Lib.decDigits_one (by omega)];rfl
   clear f g;go_wp2_with fail
   go_ret
   refine⟨?_,c.out⟩;rw[a.out,vY];exact congrArg (fun b=>Ending.returned (Value.string b)) (Oi [48+_] l)
theorem eC (m:Nat)(w:World)(h1:1<=m)(hm:m<=9223372036854775808):Calls prog 33 #[.int .i64 (-(m:Int))] w fun e w'=>e=.returned (.string ⟨(45::Lib.decDigits m).toArray⟩)/\Ac w w':=by
 obtain⟨z,E⟩:∃z:Nat,z=18446744073709551616-m:=⟨_,rfl⟩;have J:IntKind.u64.wrap (-(m:Int))=(z:Int):=by rw[IntKind.wrap_u64];omega
 have D:IntKind.u64.wrap (-(z:Int))=(m:Int):=by rw[IntKind.wrap_u64];omega
 have I:-(m:Int)<0:=by omega
 clear E;go_enter func33,ntmps33
 go_wp2_with fail
 go_loopw [3,4] (fun u s wr=>∃(k:Nat)(l:List UInt8),u=.int .u64 k/\s=.string ⟨l.toArray⟩/\k<=m/\l.length*9+k<=m/\Hid (Lib.decDigits m=Lib.decDigits k++l)/\Hid (Ac w wr)) (fun u _ _=>(intOf u).toNat)
 case atStart=>exact⟨m,[],rfl,rfl,Ad9 _,by simp,by show _=_;simp,Ac.refl w⟩
 case round =>
  obtain⟨k,l,rfl,rfl,H,y,f,g⟩:=hrel;have B:¬9223372036854775807<1+l.length:=by omega
  have C:¬9223372036854775807<1+(1+l.length):=by omega
  by_cases x:9<k
  ·have n:(9:Int)<(k:Int):=by omega
   obtain⟨r,i⟩:∃r:Nat,r=k % 10:=⟨_,rfl⟩;obtain⟨q,h⟩:∃q:Nat,q=k / 10:=⟨_,rfl⟩;have t:(k:Int) % 10=(r:Int):=by omega
   have o:(k:Int) / 10=(q:Int):=by omega
   have v:(k:Int).tmod 10=(r:Int):=by rw[Int.tmod_eq_emod_of_nonneg (by omega)];exact t
   have p:(k:Int).tdiv 10=(q:Int):=by rw[Int.tdiv_eq_ediv_of_nonneg (by omega)];exact o
   have d:r<10:=by omega
   have K:IntKind.u64.wrap (r:Int)=(r:Int):=by rw[IntKind.wrap_u64];omega
   have F:IntKind.u64.wrap (48+(r:Int))=48+(r:Int):=by rw[IntKind.wrap_u64];omega
   have G:IntKind.u8.wrap (48+(r:Int))=48+(r:Int):=by rw[IntKind.wrap_u8];omega
   have L:IntKind.u64.wrap (q:Int)=(q:Int):=by rw[IntKind.wrap_u64];omega
   have a:Hid (Lib.decDigits m=Lib.decDigits q++(UInt8.ofNat (48+r)::l)):=by
    show _=_;rw[f.out,eA k x,i,h,List.append_assoc];rfl
   have j:=Rb r d wr;have c:Hid (Ac w (wr.alloc (.cells #[.int .u8 (48+(r:Int))] 5))):=g.out.alloc _;have A:q+9<=k:=by omega
   clear i h f g;go_wp2_with fail
   go_roundw
   case rel=>exact⟨q,_::l,rfl,by rw[vY];exact congrArg _ (Oi [48+UInt8.ofNat r] l),by omega,by simp;omega,a,c⟩
   case measure=>simp[intOf];omega
  ·have n:¬(9:Int)<(k:Int):=by omega
   have F:IntKind.u64.wrap (48+(k:Int))=48+(k:Int):=by rw[IntKind.wrap_u64];omega
   have G:IntKind.u8.wrap (48+(k:Int))=48+(k:Int):=by rw[IntKind.wrap_u8];omega
   have j:=Rb k (by omega) wr;have c:Hid (Ac w (wr.alloc (.cells #[.int .u8 (48+(k:Int))] 5))):=g.out.alloc _;have a:Hid (Lib.decDigits m=UInt8.ofNat (48+k)::l):=by
    show _=_;rw[f.out,Lib.decDigits_one (by omega)];rfl
   clear f g;go_wp2_with fail
   go_ret
   refine⟨?_,c.out⟩;rw[a.out,vY];exact congrArg (fun b=>Ending.returned (Value.string b)) ((congrArg (fun b=>(⟨#[45]⟩:ByteArray)++b) (Oi [48+UInt8.ofNat k] l)).trans (Oi [45] _))
theorem eD (n:Int)(w:World)(h1:-9223372036854775808<=n)(h2:n<=9223372036854775807):Calls prog 33 #[.int .i64 n] w fun e w'=>e=.returned (.string ⟨(Lib.itoa n).toArray⟩)/\Ac w w':=by
 by_cases h:n<0
 ·have a:n=-((n.natAbs:Nat):Int):=by omega
  have q:=eC n.natAbs w (by omega) (by omega);rw[<- a] at q;unfold Lib.itoa;rw[if_pos h];exact q
 ·have a:n=((n.toNat:Nat):Int):=by omega
  have q:=eB n.toNat w (by omega);rw[<- a] at q;unfold Lib.itoa;rw[if_neg h];exact q
theorem eE {n:Nat}(x:Ag (AV n))(r:List (AV (n+1)))(k:Nat):Cn (Au (n+1)) k ((x:AV (n+1))::r)=((decide (x.kind=2)&&decide (x.int=(k:Int)))&&Cn (Au (n+1)) (k+1) r):=by
 show((if x.kind=2 then some x.int else none)==some (k:Int)&&_)=_;by_cases h:x.kind=2
 ·by_cases a:x.int=(k:Int)<;>simp[h,a]
 ·simp[h]
theorem eF (n:Nat)(P:Nat->Prop)(w:World)(a:Ag (AV (n+1)))(v:Value)(ha:Ref P w (n+2) a v) :
  Calls prog 35 #[v] w fun e w'=>e=.returned (.bool (A7 (Au (n+1)) a.keys&&decide (a.kind=6)))/\Ac w w':=by
 obtain⟨J,x,l,I,K,M,L,rfl,t1,y,q1,_⟩:=ha;clear t1 q1;obtain⟨B,D⟩:∃B,(A7 (Au (n+1)) a.keys&&decide (a.kind=6))=B:=⟨_,rfl⟩;rw[D];have d:Hid ((Cn _ 1 a.keys&&_)=B):=D;clear D;generalize a.keys=ks at y d;obtain⟨H,s⟩:∃i,i=a.int:=⟨_,rfl⟩;obtain⟨m,o⟩:∃i,i=a.kind:=⟨_,rfl⟩;rw[<- s,<- o];rw[<- o] at d;clear s o a;have A:Hid (Bm P w _ x l ks):=y;have lk:l<=4294967296:=y.2.1;clear y;have C:Hid ((w.alloc _).heap[w.heap.size]?=some (.cells #[.int .i64 m,.int .i64 H,.string J,.slice x l I,.slice K M L] 30 (0,0))):=Af rfl;have z:Hid (Ac w (w.alloc (.cells #[.int .i64 m,.int .i64 H,.string J,.slice x l I,.slice K M L] 30))):=(Ac.refl w).alloc _;have mo:=follows;go_enter func35,ntmps35
 go_wp2_with fail
 generalize w.alloc _=W0 at C z |-;go_loopw [3] (fun i wr=>∃k:Nat,k<=l/\i=.int .i64 k/\Hid ((Cn (Au (n+1)) (k+1) (ks.drop k)&&decide (m=6))=B)/\Hid (Ac w wr)/\Hid (wr.heap[w.heap.size]?=some (.cells #[.int .i64 m,.int .i64 H,.string J,.slice x l I,.slice K M L] 30 (0,0)))) (fun i _=>l-(intOf i).toNat)
 case atStart=>exact⟨0,Ae1 _,rfl,d,z,C⟩
 case round =>
  clear z C d;obtain⟨k,Y,rfl,d,p,u⟩:=hrel;have b3:=Ab u.out 3;have zb:=Aa u.out;by_cases E:k<l
  ·have Q:k<ks.length:=by rw[<- A.out.1];exact E
   obtain⟨p1,o1,rfl,F,_,r⟩:=A.out.2.2.resolve_left (by omega);obtain⟨v1,t,G⟩:=r k ks[k] (List.getElem?_eq_getElem Q);obtain⟨x0,x1,x2,x3,x4,rfl,S,T,U,V,W⟩:=G5 p.out F t;obtain⟨_,_,_,_,_,_,_,O,_,_,_⟩:=G;simp only[Value.agg.injEq,Array.mk.injEq,List.cons.injEq,and_true] at O;obtain⟨rfl,rfl,_,_,_⟩:=O;have f:=d.out;rw[List.drop_eq_getElem_cons Q,eE (ks[k]:Ag (AV n))] at f;generalize (ks[k]:_).kind=kd at S f;generalize (ks[k]:_).int=nm at T f;have c:Hid (_=B):=f;clear f r t U V W;by_cases g:kd=2
   ·by_cases j:nm=(k:Int)+1
    ·have N:((kd:Int)==2)=true:=by simp[g]
     have R:(nm==(k:Int)+1)=true:=by simp[j]
     have b:Hid ((Cn (Au (n+1)) (k+1+1) (ks.drop (k+1))&&decide (m=6))=B):=by
      have q:=c.out;simp[g,j] at q;exact q
     clear d c;go_wp2_with fail
     go_roundw
     case rel=>exact⟨k+1,by omega,by go_num,b,p,u⟩
     case measure=>simp[intOf];omega
    ·have N:((kd:Int)==2)=true:=by simp[g]
     have R:(nm==(k:Int)+1)=false:=by simp[j]
     have b:Hid (B=false):=by
      have q:=c.out;simp[j] at q;exact q
     clear d c;go_wp2_with fail
     go_ret
     exact⟨by rw[b.out];rfl,p.out⟩
   ·have N:((kd:Int)==2)=false:=by simp;omega
    have b:Hid (B=false):=by
     have q:=c.out;simp[g] at q;exact q
    clear d c;go_wp2_with fail
    go_ret
    exact⟨by rw[b.out];rfl,p.out⟩
  ·have Z:k=l:=by omega
   subst k;have b:Hid (B=decide (m=6)):=by
    have q:=d.out;rw[List.drop_of_length_le (by rw[<- A.out.1];exact Ad9 _)] at q;simp[Cn] at q;exact q.symm
   have b0:=Ab u.out 0;clear d;go_wp2_with fail
   go_ret
   refine⟨?_,p.out⟩;rw[b.out];by_cases h:m=6
   ·simp[h]
   ·have X:((m:Int)==6)=false:=by simp;omega
    simp[h,X]
theorem bH (cl:List UInt8):∀l m:List (List UInt8),jT cl (l++m)=jT [] l++jT cl m
 | [],m=>rfl
 | a::l,m=>by
  show 44::32::(a++jT cl (l++m))=(44::32::(a++jT [] l))++jT cl m;rw[bH cl l m];simp
theorem iO (cl:List UInt8)(l:List (List UInt8)):jL cl l=jL [] l++cl:=by
 cases l with
 | nil=>rfl
 | cons a l =>
  show a++jT cl l=(a++jT [] l)++cl;have h:=bH cl l [];rw[List.append_nil] at h;rw[h,List.append_assoc];rfl
theorem vZ (x:List UInt8)(l:List (List UInt8)):jL [] (l++[x])=if l=[] then x else(jL [] l++[44,32])++x:=by
 cases l with
 | nil=>show x++[]=x;simp
 | cons a l =>
  rw[if_neg (by simp)];show a++jT [] (l++[x])=((a++jT [] l)++[44,32])++x;rw[bH];show a++(jT [] l++(44::32::(x++[])))=_;simp
theorem wC (l m:List (List UInt8)):(jL [] l).length<=(jL [] (l++m)).length:=by
 cases l with
 | nil=>exact Ae1 _
 | cons a l =>
  show(a++jT [] l).length<=(a++jT [] (l++m)).length;rw[bH];simp
theorem lO (L:List (List UInt8))(k:Nat)(x:List UInt8)(h:L[k]?=some x):jL [] (L.take (k+1))=(if k=0 then x else(jL [] (L.take k)++[44,32])++x)/\(jL [] (L.take k)).length+x.length<=(jL [] L).length/\x.length<=(jL [] L).length:=by
 have d:=(List.getElem?_eq_some_iff.1 h).1;have e:L.take (k+1)=L.take k++[x]:=by rw[List.take_add_one,h];rfl
 have c:(L.take k=[])↔k=0:=by
  constructor
  ·intro q;have:=congrArg List.length q;rw[List.length_take,List.length_nil] at this;omega
  ·rintro rfl;rfl
 have b:jL [] (L.take (k+1))=(if k=0 then x else(jL [] (L.take k)++[44,32])++x):=by
  rw[e,vZ];by_cases q:k=0
  ·rw[if_pos (c.2 q),if_pos q]
  ·rw[if_neg (fun r=>q (c.1 r)),if_neg q]
 have a:=wC (L.take (k+1)) (L.drop (k+1));rw[List.take_append_drop,b] at a;refine⟨b,?_,?_⟩
 ·by_cases q:k=0
  ·subst q;rw[if_pos rfl] at a;show 0+x.length<=_;omega
  ·rw[if_neg q] at a;simp only[List.length_append,List.length_cons,List.length_nil] at a;omega
 ·by_cases q:k=0
  ·rw[if_pos q] at a;exact a
  ·rw[if_neg q] at a;simp only[List.length_append,List.length_cons,List.length_nil] at a;omega
def ShR (n:Nat):Prop:=∀(P:Nat->Prop)(w:World)(a:AV n)(v:Value),Ref P w n a v->WF n a->(sh n a).length<=1099511627776 ->
 Calls prog 13 #[v] w fun e w'=>e=.returned (.string ⟨(sh n a).toArray⟩)/\Ac w w'
theorem Ig (n:Nat)(hC:ShR n)(P:Nat->Prop)(w:World)(a:Option Addr)(len cap:Nat)(es:List (AV n))(h:Bm P w (Ref P w n) a len es)(hW:∀x∈es,WF n x)(hb:(jL [] (es.map (sh n))).length<=1099511627776) :
  Calls prog 34 #[.slice a len cap] w fun e w'=>e=.returned (.string ⟨(jL [] (es.map (sh n))).toArray⟩)/\Ac w w':=by
 have H:Hid (ShR n):=hC;have v:Hid (Bm P w _ a len es):=h;have K:Hid (∀x∈es,WF n x):=hW;have Z:len<=4294967296:=h.2.1;have J:Hid _:=fun k x q=>lO (es.map (sh n)) k x q;clear hC h hW;obtain⟨T,z⟩:∃T,jL [] (es.map (sh n))=T:=⟨_,rfl⟩;have E:Hid (jL [] (es.map (sh n))=T):=z;rw[z] at hb |-;clear z;have mo:=follows;go_enter func34,ntmps34
 go_wp2_with fail
 go_loopw [3,4] (fun s i wr=>∃k:Nat,k<=len/\s=.string ⟨(jL [] ((es.map (sh n)).take k)).toArray⟩/\i=.int .i64 k/\Hid (Ac w wr)) (fun _ i _=>len-(intOf i).toNat)
 case atStart=>exact⟨0,Ae1 _,rfl,rfl,Ac.refl w⟩
 case round =>
  obtain⟨k,N,rfl,rfl,g⟩:=hrel;by_cases B:k<len
  ·have D:k<es.length:=by rw[<- v.out.1];exact B
   obtain⟨p1,o1,rfl,C,_,j⟩:=v.out.2.2.resolve_left (by omega);obtain⟨v1,o,m⟩:=j k es[k] (List.getElem?_eq_getElem D);obtain⟨x0,x1,x2,x3,x4,rfl,Q,R,U,V,Y⟩:=G5 g.out C o;have G:(es.map (sh n))[k]?=some (sh n es[k]):=by simp[List.getElem?_eq_getElem D]
   obtain⟨r,y,F⟩:=J.out k _ G;rw[E.out] at y F;have b:Hid _:=fun(W:World) (hW:_)=>H.out P W es[k] _ (m.grew hW) (K.out _ (List.getElem_mem D)) (by omega);have f:k=0->jL [] ((es.map (sh n)).take k)=[]:=by rintro rfl;rfl
   generalize sh n es[k]=X at b r y F;generalize jL [] ((es.map (sh n)).take k)=S at r y f |-;have p:Hid (_=_):=r;have d:Hid (k=0->S=[]):=f;clear j o m G r f;by_cases c:k=0
   ·have t:Hid (S++X=jL [] ((es.map (sh n)).take (k+1))):=by
     show _=_;rw[p.out,if_pos c,d.out c];rfl
    have A:¬(0:Int)<(k:Int):=by omega
    have L:¬9223372036854775807<S.length+X.length:=by omega
    clear p d c;go_wp2_with (go_at_call 13;refine(b.out _ g.out).mono ?_;rintro e w' ⟨rfl,l⟩;have u:Hid (Ac w w'):=g.out.trans l;clear l)
    go_roundw
    case rel=>exact⟨k+1,by omega,by rw[<- t.out];exact congrArg _ (Oi S X),by go_num,u⟩
    case measure=>simp[intOf];omega
   ·have t:Hid ((S++[44,32])++X=jL [] ((es.map (sh n)).take (k+1))):=by
     show _=_;rw[p.out,if_neg c]
    have A:(0:Int)<(k:Int):=by omega
    have L:¬9223372036854775807<S.length+2:=by omega
    have M:¬9223372036854775807<S.length+2+X.length:=by omega
    clear p d c;go_wp2_with (go_at_call 13;refine(b.out _ g.out).mono ?_;rintro e w' ⟨rfl,l⟩;have u:Hid (Ac w w'):=g.out.trans l;clear l)
    go_roundw
    case rel=>exact⟨k+1,by omega,by rw[<- t.out,<- Oi,<- Oi],by go_num,u⟩
    case measure=>simp[intOf];omega
  ·have O:k=len:=by omega
   subst k;have I:Hid (jL [] ((es.map (sh n)).take len)=T):=by
    show _=_;rw[List.take_of_length_le (by rw[List.length_map,v.out.1];exact Ad9 _)];exact E.out
   rw[I.out];go_wp2_with fail
   go_ret
   exact⟨rfl,g.out⟩
theorem Hk (n:Nat)(P:Nat->Prop)(w:World)(a:Ag (AV n))(v:Value)(ha:Ref P w (n+1) a v) :
  Calls prog 35 #[v] w fun e w'=>e=.returned (.bool (A7 (Au n) a.keys&&decide (a.kind=6)))/\Ac w w':=by
 cases n with
 | succ m=>exact eF m P w a v ha
 | zero =>
  obtain⟨l,i,t,b,c⟩:=a;have g:b=[]:=by
   cases b with
   | nil=>rfl
   | cons x _=>exact(show Empty from x).elim
  have h:c=[]:=by
   cases c with
   | nil=>rfl
   | cons x _=>exact(show Empty from x).elim
  subst g h;obtain⟨r,j,o,k,u,z,y,rfl,s,q,p,_⟩:=ha;have d:o=0:=q.1;have f:z=0:=p.1;subst d f;exact eF 0 P w (⟨l,i,t,[],[]⟩:_) _ ⟨r,j,0,k,u,0,y,rfl,s,B9 _ _ _ _,B9 _ _ _ _,Ae1 _⟩
def two (a b:List UInt8):List UInt8:=a++58::32::b
theorem sD:∀ks vs:List (List UInt8),jQ ks vs=jT [93] (List.zipWith two ks vs)
 | [],vs=>by cases vs<;>rfl
 | k::ks,[]=>rfl
 | k::ks,v::vs=>by
  show 44::32::(k++58::32::(v++jQ ks vs))=44::32::(two k v++jT [93] (List.zipWith two ks vs));rw[sD ks vs];simp[two]
theorem zG (ks vs:List (List UInt8)):jP ks vs=jL [93] (List.zipWith two ks vs):=by
 cases ks with
 | nil=>cases vs<;>rfl
 | cons k ks =>
  cases vs with
  | nil=>rfl
  | cons v vs =>
   show k++58::32::(v++jQ ks vs)=two k v++jT [93] (List.zipWith two ks vs);rw[sD];simp[two]
theorem eG (a b:List UInt8)(l:List UInt8):((⟨a.toArray⟩:ByteArray)++⟨l.toArray⟩)++⟨b.toArray⟩=⟨(a++(l++b)).toArray⟩:=by rw[Oi,Oi,List.append_assoc]
theorem oE (n:Nat)(hC:ShR n)(P:Nat->Prop)(w:World)(v:Value)  (ha:Ref P w (n+1) (Ar:Ag (AV n)) v) (_:(sh (n+1) (Ar:Ag (AV n))).length<=1099511627776) :
  Calls prog 13 #[v] w fun e w'=>e=.returned (.string ⟨(sh (n+1) (Ar:Ag (AV n))).toArray⟩)/\Ac w w':=by
 obtain⟨z,g,i,h,j,l,k,rfl,o,q,q1,_⟩:=id ha;obtain rfl:=Iu o;have a:Hid _:=fun W hW=>Hk n P W _ _ (ha.grew hW);have c:Hid _:=fun W b len cap es q1 q2 q3=>Ig n hC P W b len cap es q1 q2 q3;have p:Hid (ShR n):=hC;clear hC ha;clear a c p q q1 o;have f:sh (n+1) (Ar:_)=[110,105,108]:=rfl;rw[f];show Calls prog 13 #[.agg #[.int .i64 0,.int .i64 0,.string ⟨#[]⟩,.slice g i h,.slice j l k]] w _;have d:Hid ((w.alloc _).heap[w.heap.size]?=some (.cells #[.int .i64 0,.int .i64 0,.string ⟨#[]⟩,.slice g i h,.slice j l k] 30 (0,0))):=Af rfl;have m:Hid (Ac w (w.alloc (.cells #[.int .i64 0,.int .i64 0,.string ⟨#[]⟩,.slice g i h,.slice j l k] 30))):=(Ac.refl w).alloc _;have y:=follows;go_enter func13,ntmps13
 go_upto_region 1 with fail
 generalize w.alloc _=W0 at d m |-;obtain⟨r,s,t,u,x⟩:=Ah d.out;have A:=Aa d.out;go_wp2_with fail
 go_ret
 exact⟨rfl,m.out⟩
theorem iP (n:Nat)(hC:ShR n)(P:Nat->Prop)(w:World)(v:Value)(b:Bool)(ha:Ref P w (n+1) (Bj b:Ag (AV n)) v)(_:(sh (n+1) (Bj b:Ag (AV n))).length<=1099511627776) :
  Calls prog 13 #[v] w fun e w'=>e=.returned (.string ⟨(sh (n+1) (Bj b:Ag (AV n))).toArray⟩)/\Ac w w':=by
 obtain⟨A,d,g,f,h,j,i,rfl,o,y,q1,_⟩:=id ha;obtain rfl:=Iu o;have l:Hid _:=fun W hW=>Hk n P W _ _ (ha.grew hW);have m:Hid _:=fun W b len cap es q1 q2 q3=>Ig n hC P W b len cap es q1 q2 q3;have p:Hid (ShR n):=hC;clear hC ha;clear l m p y q1 o;cases b with
 | false =>
  have c:sh (n+1) (Bj false:_)=[102,97,108,115,101]:=rfl;rw[c];show Calls prog 13 #[.agg #[.int .i64 1,.int .i64 0,.string ⟨#[]⟩,.slice d g f,.slice h j i]] w _;have a:Hid ((w.alloc _).heap[w.heap.size]?=some (.cells #[.int .i64 1,.int .i64 0,.string ⟨#[]⟩,.slice d g f,.slice h j i] 30 (0,0))):=Af rfl;have k:Hid (Ac w (w.alloc (.cells #[.int .i64 1,.int .i64 0,.string ⟨#[]⟩,.slice d g f,.slice h j i] 30))):=(Ac.refl w).alloc _;have x:=follows;go_enter func13,ntmps13
  go_upto_region 1 with fail
  generalize w.alloc _=W0 at a k |-;obtain⟨q,r,s,t,u⟩:=Ah a.out;have z:=Aa a.out;go_wp2_with fail
  go_ret
  exact⟨rfl,k.out⟩
 | true =>
  have c:sh (n+1) (Bj true:_)=[116,114,117,101]:=rfl;rw[c];show Calls prog 13 #[.agg #[.int .i64 1,.int .i64 1,.string ⟨#[]⟩,.slice d g f,.slice h j i]] w _;have a:Hid ((w.alloc _).heap[w.heap.size]?=some (.cells #[.int .i64 1,.int .i64 1,.string ⟨#[]⟩,.slice d g f,.slice h j i] 30 (0,0))):=Af rfl;have k:Hid (Ac w (w.alloc (.cells #[.int .i64 1,.int .i64 1,.string ⟨#[]⟩,.slice d g f,.slice h j i] 30))):=(Ac.refl w).alloc _;have x:=follows;go_enter func13,ntmps13
  go_upto_region 1 with fail
  generalize w.alloc _=W0 at a k |-;obtain⟨q,r,s,t,u⟩:=Ah a.out;have z:=Aa a.out;go_wp2_with fail
  go_ret
  exact⟨rfl,k.out⟩
theorem oF (n:Nat)(hC:ShR n)(P:Nat->Prop)(w:World)(v:Value)(i:Int)(i1:-9223372036854775808<=i)(i2:i<=9223372036854775807)(ha:Ref P w (n+1) (Cu i:Ag (AV n)) v)(_:(sh (n+1) (Cu i:Ag (AV n))).length<=1099511627776) :
  Calls prog 13 #[v] w fun e w'=>e=.returned (.string ⟨(sh (n+1) (Cu i:Ag (AV n))).toArray⟩)/\Ac w w':=by
 obtain⟨D,g,j,h,k,m,l,rfl,q,u,q1,_⟩:=id ha;obtain rfl:=Iu q;have a:Hid _:=fun W hW=>Hk n P W _ _ (ha.grew hW);have c:Hid _:=fun W b len cap es q1 q2 q3=>Ig n hC P W b len cap es q1 q2 q3;have s:Hid (ShR n):=hC;clear hC ha;clear a c s u q1 q;have f:sh (n+1) (Cu i:_)=Lib.itoa i:=rfl;rw[f];show Calls prog 13 #[.agg #[.int .i64 2,.int .i64 i,.string ⟨#[]⟩,.slice g j h,.slice k m l]] w _;have t:Hid _:=fun W=>eD i W i1 i2;have d:Hid ((w.alloc _).heap[w.heap.size]?=some (.cells #[.int .i64 2,.int .i64 i,.string ⟨#[]⟩,.slice g j h,.slice k m l] 30 (0,0))):=Af rfl;have o:Hid (Ac w (w.alloc (.cells #[.int .i64 2,.int .i64 i,.string ⟨#[]⟩,.slice g j h,.slice k m l] 30))):=(Ac.refl w).alloc _;have C:=follows;go_enter func13,ntmps13
 go_upto_region 1 with fail
 generalize w.alloc _=W0 at d o |-;obtain⟨x,y,z,A,B⟩:=Ah d.out;have E:=Aa d.out;go_wp2_with (go_at_call 33;refine(t.out _).mono ?_;rintro e w' ⟨rfl,p⟩;have r:Hid (Ac w w'):=o.out.trans p;clear p)
 go_ret
 exact⟨rfl,r.out⟩
theorem iQ (n:Nat)(hC:ShR n)(P:Nat->Prop)(w:World)(v:Value)(l:List UInt8)(ha:Ref P w (n+1) (Dm l:Ag (AV n)) v)(hb:(sh (n+1) (Dm l:Ag (AV n))).length<=1099511627776) :
  Calls prog 13 #[v] w fun e w'=>e=.returned (.string ⟨(sh (n+1) (Dm l:Ag (AV n))).toArray⟩)/\Ac w w':=by
 obtain⟨E,g,i,h,j,m,k,rfl,p,u,q1,_⟩:=id ha;obtain rfl:=Iu p;have a:Hid _:=fun W hW=>Hk n P W _ _ (ha.grew hW);have c:Hid _:=fun W b len cap es q1 q2 q3=>Ig n hC P W b len cap es q1 q2 q3;have q:Hid (ShR n):=hC;clear hC ha;clear a c q u q1 p;have f:sh (n+1) (Dm l:_)=34::(l++[34]):=rfl;rw[f] at hb |-;show Calls prog 13 #[.agg #[.int .i64 3,.int .i64 0,.string ⟨l.toArray⟩,.slice g i h,.slice j m k]] w _;have C:l.length+2<=1099511627776:=by simp at hb;omega
 have s:¬9223372036854775807<1+l.length:=by omega
 have t:¬9223372036854775807<1+l.length+1:=by omega
 have r:Hid (_=_):=eG [34] [34] l;have d:Hid ((w.alloc _).heap[w.heap.size]?=some (.cells #[.int .i64 3,.int .i64 0,.string ⟨l.toArray⟩,.slice g i h,.slice j m k] 30 (0,0))):=Af rfl;have o:Hid (Ac w (w.alloc (.cells #[.int .i64 3,.int .i64 0,.string ⟨l.toArray⟩,.slice g i h,.slice j m k] 30))):=(Ac.refl w).alloc _;have D:=follows;go_enter func13,ntmps13
 go_upto_region 1 with fail
 generalize w.alloc _=W0 at d o |-;obtain⟨x,y,z,A,B⟩:=Ah d.out;have F:=Aa d.out;go_wp2_with fail
 go_ret
 exact⟨congrArg (fun b=>Ending.returned (Value.string b)) r.out,o.out⟩
theorem iR (n:Nat)(hC:ShR n)(P:Nat->Prop)(w:World)(v:Value)(l:List UInt8)(ha:Ref P w (n+1) (D9 l:Ag (AV n)) v)(_:(sh (n+1) (D9 l:Ag (AV n))).length<=1099511627776) :
  Calls prog 13 #[v] w fun e w'=>e=.returned (.string ⟨(sh (n+1) (D9 l:Ag (AV n))).toArray⟩)/\Ac w w':=by
 obtain⟨A,g,i,h,j,m,k,rfl,p,r,q1,_⟩:=id ha;obtain rfl:=Iu p;have a:Hid _:=fun W hW=>Hk n P W _ _ (ha.grew hW);have c:Hid _:=fun W b len cap es q1 q2 q3=>Ig n hC P W b len cap es q1 q2 q3;have q:Hid (ShR n):=hC;clear hC ha;clear a c q r q1 p;have f:sh (n+1) (D9 l:_)=l:=rfl;rw[f];show Calls prog 13 #[.agg #[.int .i64 4,.int .i64 0,.string ⟨l.toArray⟩,.slice g i h,.slice j m k]] w _;have d:Hid ((w.alloc _).heap[w.heap.size]?=some (.cells #[.int .i64 4,.int .i64 0,.string ⟨l.toArray⟩,.slice g i h,.slice j m k] 30 (0,0))):=Af rfl;have o:Hid (Ac w (w.alloc (.cells #[.int .i64 4,.int .i64 0,.string ⟨l.toArray⟩,.slice g i h,.slice j m k] 30))):=(Ac.refl w).alloc _;have z:=follows;go_enter func13,ntmps13
 go_upto_region 1 with fail
 generalize w.alloc _=W0 at d o |-;obtain⟨s,t,u,x,y⟩:=Ah d.out;have B:=Aa d.out;go_wp2_with fail
 go_ret
 exact⟨rfl,o.out⟩
theorem oG (n:Nat)(hC:ShR n)(P:Nat->Prop)(w:World)(v:Value)(es:List (AV n))(we:∀x∈es,WF n x)(ha:Ref P w (n+1) (Bt es:Ag (AV n)) v)(hb:(sh (n+1) (Bt es:Ag (AV n))).length<=1099511627776) :
  Calls prog 13 #[v] w fun e w'=>e=.returned (.string ⟨(sh (n+1) (Bt es:Ag (AV n))).toArray⟩)/\Ac w w':=by
 obtain⟨H,f,h,g,k,m,l,rfl,r,q,q1,_⟩:=id ha;obtain rfl:=Iu r;have a:Hid _:=fun W hW=>Hk n P W _ _ (ha.grew hW);have c:Hid _:=fun W b len cap es q1 q2 q3=>Ig n hC P W b len cap es q1 q2 q3;have t:Hid (ShR n):=hC;clear hC ha;clear a t q1 r;have d:sh (n+1) (Bt es:_)=[123]++(jL [] (es.map (sh n))++[125]):=by
  show 123::jL [125] (es.map (sh n))=_;rw[iO];rfl
 rw[d] at hb |-;show Calls prog 13 #[.agg #[.int .i64 5,.int .i64 0,.string ⟨#[]⟩,.slice f h g,.slice k m l]] w _;have y:(jL [] (es.map (sh n))).length+2<=1099511627776:=by simp at hb;omega
 have o:Hid _:=fun W hW=>c.out W f h g es (Bm.grew hW q) we (by omega);clear c q we;generalize jL [] (es.map (sh n))=S at o y |-;have z:¬9223372036854775807<1+S.length:=by omega
 have A:¬9223372036854775807<1+S.length+1:=by omega
 have u:Hid (_=_):=eG [123] [125] S;clear d hb;have j:Hid ((w.alloc _).heap[w.heap.size]?=some (.cells #[.int .i64 5,.int .i64 0,.string ⟨#[]⟩,.slice f h g,.slice k m l] 30 (0,0))):=Af rfl;have i:Hid (Ac w (w.alloc (.cells #[.int .i64 5,.int .i64 0,.string ⟨#[]⟩,.slice f h g,.slice k m l] 30))):=(Ac.refl w).alloc _;have G:=follows;go_enter func13,ntmps13
 go_upto_region 1 with fail
 generalize w.alloc _=W0 at j i |-;obtain⟨B,C,D,E,F⟩:=Ah j.out;have I:=Aa j.out;go_wp2_with (go_at_call 34;refine(o.out _ i.out).mono ?_;rintro e w' ⟨rfl,p⟩;have s:Hid (Ac w w'):=i.out.trans p;clear p)
 go_ret
 exact⟨congrArg (fun b=>Ending.returned (Value.string b)) u.out,s.out⟩
theorem oH (n:Nat)(hC:ShR n)(P:Nat->Prop)(w:World)(v:Value)(ks vs:List (AV n))(_:∀x∈ks,WF n x)(wv:∀x∈vs,WF n x)(_:ks.length=vs.length)(hc:A7 (Au n) ks=true)(ha:Ref P w (n+1) (Dd ks vs:Ag (AV n)) v)(hb:(sh (n+1) (Dd ks vs:Ag (AV n))).length<=1099511627776) :
  Calls prog 13 #[v] w fun e w'=>e=.returned (.string ⟨(sh (n+1) (Dd ks vs:Ag (AV n))).toArray⟩)/\Ac w w':=by
 obtain⟨N,m,p,o,j,l,k,rfl,u,J,q1,_⟩:=id ha;obtain rfl:=Iu u;have c:Hid _:=fun W hW=>Hk n P W _ _ (ha.grew hW);have f:Hid _:=fun W b len cap es q1 q2 q3=>Ig n hC P W b len cap es q1 q2 q3;have z:Hid (ShR n):=hC;clear hC ha;clear u;show Calls prog 13 #[.agg #[.int .i64 6,.int .i64 0,.string ⟨#[]⟩,.slice m p o,.slice j l k]] w _;have a:Hid (∀W:World,_->Calls _ 35 #[.agg #[.int .i64 6,.int .i64 0,.string ⟨#[]⟩,_,_]] W _):=fun W hW=>by
  have q:=c.out W hW;have e:(A7 (Au n) (Dd ks vs:_).keys&&decide ((Dd ks vs:_).kind=6))=A7 (Au n) ks:=by
   show(A7 (Au n) ks&&decide (6=6))=_;simp
  rw[e] at q;exact q
 clear c;have h:sh (n+1) (Dd ks vs:_)=[60,60]++(jL [] (vs.map (sh n))++[62,62]):=by
  show shN (sh n) (Au n) (Dd ks vs)=_;rw[gG _ _ ks vs hc,iO];rfl
 rw[h] at hb |-;have G:(jL [] (vs.map (sh n))).length+4<=1099511627776:=by simp at hb;omega
 have s:Hid _:=fun W hW=>f.out W j l k vs (Bm.grew hW q1) wv (by omega);rw[hc] at a;clear f J q1 wv z;generalize jL [] (vs.map (sh n))=S at s G |-;have H:¬9223372036854775807<2+S.length:=by omega
 have I:¬9223372036854775807<2+S.length+2:=by omega
 have A:Hid (_=_):=eG [60,60] [62,62] S;clear h hb;have g:Hid ((w.alloc _).heap[w.heap.size]?=some (.cells #[.int .i64 6,.int .i64 0,.string ⟨#[]⟩,.slice m p o,.slice j l k] 30 (0,0))):=Af rfl;have i:Hid (Ac w (w.alloc (.cells #[.int .i64 6,.int .i64 0,.string ⟨#[]⟩,.slice m p o,.slice j l k] 30))):=(Ac.refl w).alloc _;have M:=follows;go_enter func13,ntmps13
 go_upto_region 1 with fail
 generalize w.alloc _=W0 at g i |-;obtain⟨B,C,D,E,F⟩:=Ah g.out;have O:=Aa g.out;go_wp2_with fail
 refine(a.out W0 i.out).mono ?_;rintro e w' ⟨rfl,d⟩;have r:Hid (Ac w w'):=i.out.trans d;have t:Hid _:=Ac1 d.below g.out;clear d B C D E F g i;have L:=Ab t.out 4;have Q:=Aa t.out;go_wp2_with fail
 refine(s.out w' r.out).mono ?_;rintro e K ⟨rfl,d⟩;have y:Hid (Ac w K):=r.out.trans d;clear d;go_wp2_with fail
 go_ret
 exact⟨congrArg (fun b=>Ending.returned (Value.string b)) A.out,y.out⟩
theorem sE (n:Nat)(hC:ShR n)(P:Nat->Prop)(w:World)(v:Value)(ks vs:List (AV n))(wk:∀x∈ks,WF n x)(wv:∀x∈vs,WF n x)(hlen:ks.length=vs.length)(hc:¬A7 (Au n) ks=true)(ha:Ref P w (n+1) (Dd ks vs:Ag (AV n)) v)(hb:(sh (n+1) (Dd ks vs:Ag (AV n))).length<=1099511627776) :
  Calls prog 13 #[v] w fun e w'=>e=.returned (.string ⟨(sh (n+1) (Dd ks vs:Ag (AV n))).toArray⟩)/\Ac w w':=by
 obtain⟨s1,V,d,kc,Y,z,uc,rfl,t1,X,q1,_⟩:=id ha;obtain rfl:=Iu t1;have j:Hid _:=fun W hW=>Hk n P W _ _ (ha.grew hW);have a1:Hid _:=fun W b len cap es q1 q2 q3=>Ig n hC P W b len cap es q1 q2 q3;have HC:Hid (ShR n):=hC;clear hC ha;clear t1;show Calls prog 13 #[.agg #[.int .i64 6,.int .i64 0,.string ⟨#[]⟩,.slice V d kc,.slice Y z uc]] w _;have c:Hid (∀W:World,_->Calls _ 35 #[.agg #[.int .i64 6,.int .i64 0,.string ⟨#[]⟩,_,_]] W _):=fun W hW=>by
  have q:=j.out W hW;have e:(A7 (Au n) (Dd ks vs:_).keys&&decide ((Dd ks vs:_).kind=6))=A7 (Au n) ks:=by
   show(A7 (Au n) ks&&decide (6=6))=_;simp
  rw[e] at q;exact q
 clear j;have Q:sh (n+1) (Dd ks vs:_)=[91]++(jL [] (List.zipWith two (ks.map (sh n)) (vs.map (sh n)))++[93]):=by
  show shN (sh n) (Au n) (Dd ks vs)=_;rw[qA _ _ ks vs hc,zG,iO];rfl
 rw[Q] at hb |-;have hl:(jL [] (List.zipWith two (ks.map (sh n)) (vs.map (sh n)))).length+2<=1099511627776:=by rw[List.length_append,List.length_append] at hb;simp only[List.length_cons,List.length_nil] at hb;omega
 have M:=by simpa using hc
 rw[M] at c;have R1:Hid (Bm P w _ V d ks):=X;have Q1:Hid (Bm P w _ Y z vs):=q1;have lk:d<=4294967296:=X.2.1;have a0:Hid _:=X.1.trans (hlen.trans q1.1.symm);have WK:Hid (∀x∈ks,WF n x):=wk;have WV:Hid (∀x∈vs,WF n x):=wv;have HJ:Hid (∀k x,(List.zipWith two (ks.map (sh n)) (vs.map (sh n)))[k]?=some x->_):=fun k x q=>lO _ k x q;have HL:Hid (ks.length=vs.length):=hlen;have HZ:Hid (∀(k:Nat)(u:k<_)(y:k<vs.length),(List.zipWith two (ks.map (sh n)) (vs.map (sh n)))[k]?=some (two (sh n ks[k]) (sh n vs[k]))):=by
  intro k u y;simp[List.getElem?_zipWith,List.getElem?_eq_getElem u,List.getElem?_eq_getElem y]
 have D:Hid ((List.zipWith two (ks.map (sh n)) (vs.map (sh n))).length=d):=by
  show _=_;rw[List.length_zipWith,List.length_map,List.length_map,<- hlen,X.1,Nat.min_self];rfl
 clear a1 X q1 wv wk hlen Q hb hc M;generalize List.zipWith two _ _=L at HJ HZ D hl |-;obtain⟨T,hT⟩:∃T,jL [] L=T:=⟨_,rfl⟩;rw[hT] at hl |-;have HT:Hid (jL [] L=T):=hT;clear hT;have b9:¬9223372036854775807<1+T.length:=by omega
 have c0:¬9223372036854775807<1+T.length+1:=by omega
 have HE:Hid (_=_):=eG [91] [93] T;have E:Hid ((w.alloc _).heap[w.heap.size]?=some (.cells #[.int .i64 6,.int .i64 0,.string ⟨#[]⟩,.slice V d kc,.slice Y z uc] 30 (0,0))):=Af rfl;have G0:Hid (Ac w (w.alloc (.cells #[.int .i64 6,.int .i64 0,.string ⟨#[]⟩,.slice V d kc,.slice Y z uc] 30))):=(Ac.refl w).alloc _;have mo:=follows;go_enter func13,ntmps13
 go_upto_region 1 with fail
 generalize w.alloc _=W0 at E G0 |-;obtain⟨b0,b1,b2,b3,F⟩:=Ah E.out;have zb:=Aa E.out;go_wp2_with fail
 refine(c.out W0 G0.out).mono ?_;rintro e w' ⟨rfl,a⟩;have G1:Hid (Ac w w'):=G0.out.trans a;have X1:Hid _:=Ac1 a.below E.out;clear a b0 b1 b2 b3 F E G0 zb c;have zc:=Aa X1.out;go_wp2_with fail
 go_loopw [6,7] (fun s i wr=>∃k:Nat,k<=d/\s=.string ⟨(jL [] (L.take k)).toArray⟩/\i=.int .i64 k/\Hid (Ac w wr)/\Hid (wr.heap[w.heap.size]?=some (.cells #[.int .i64 6,.int .i64 0,.string ⟨#[]⟩,.slice V d kc,.slice Y z uc] 30 (0,0)))) (fun _ i _=>d-(intOf i).toNat)
 case atStart=>exact⟨0,Ae1 _,rfl,rfl,G1,X1⟩
 case round =>
  clear G1 X1 zc;obtain⟨k,b6,rfl,rfl,t,HX⟩:=hrel;have b3:=Ab HX.out 3;have zb:=Aa HX.out;by_cases a7:k<d
  ·have hx:k<ks.length:=by rw[<- R1.out.1];exact a7
   have hy:k<vs.length:=by rw[<- HL.out];exact hx
   have b8:k<z:=by have:=a0.out;omega
   obtain⟨p1,o1,rfl,a8,_,J⟩:=R1.out.2.2.resolve_left (by omega);obtain⟨v1,R,N⟩:=J k ks[k] (List.getElem?_eq_getElem hx);obtain⟨p2,o2,rfl,a9,_,K⟩:=Q1.out.2.2.resolve_left (by omega);obtain⟨v2,U,O⟩:=K k vs[k] (List.getElem?_eq_getElem hy);obtain⟨x0,x1,x2,x3,x4,rfl,g0,g1,g2,g3,g4⟩:=G5 t.out a8 R;obtain⟨G,H,f3⟩:=HJ.out k _ (HZ.out k hx hy);rw[HT.out] at H f3;have I:(two (sh n ks[k]) (sh n vs[k])).length=(sh n ks[k]).length+2+(sh n vs[k]).length:=by simp[two];omega
   rw[I] at H f3;have f:Hid _:=fun(W:World) (hW:_)=>HC.out P W ks[k] _ (N.grew hW) (WK.out _ (List.getElem_mem hx)) (by omega);have g:Hid _:=fun(W:World) (hW:_)=>HC.out P W vs[k] v2 (O.grew hW) (WV.out _ (List.getElem_mem hy)) (by omega);have C:Hid (∀W:World,Ac w W->_):=fun W hW=>G5 hW a9 U;have p:k=0->jL [] (L.take k)=[]:=by rintro rfl;rfl
   generalize sh n ks[k]=A at f G H f3;generalize sh n vs[k]=B at g G H f3;generalize jL [] (L.take k)=S at G H p |-;have Z:Hid (_=_):=G;have m:Hid (k=0->S=[]):=p;clear J K R U N O G p I;by_cases h:k=0
   ·have F2:Hid (((S++A)++[58,32])++B=jL [] (L.take (k+1))):=by
     show _=_;rw[Z.out,if_pos h,m.out h];simp[two]
    have a6:¬(0:Int)<(k:Int):=by omega
    have a3:¬9223372036854775807<S.length+A.length:=by omega
    have a4:¬9223372036854775807<S.length+A.length+2:=by omega
    have a5:¬9223372036854775807<S.length+A.length+2+B.length:=by omega
    clear Z m h;go_wp2_with fail
    refine(f.out wr t.out).mono ?_;rintro e r ⟨rfl,a⟩;have l:Hid (Ac w r):=t.out.trans a;have o:Hid _:=Ac1 a.below HX.out;clear a f b3 g0 g1 g2 g3 g4;obtain⟨y0,y1,y2,y3,y4,rfl,h0,u,y,h3,h4⟩:=C.out r l.out;have F:=Ab o.out 4;have z3:=Aa o.out;go_wp2_with fail
    refine(g.out r l.out).mono ?_;rintro e w4 ⟨rfl,a⟩;have G4:Hid (Ac w w4):=l.out.trans a;have X4:Hid _:=Ac1 a.below o.out;clear a g F h0 u y h3 h4;go_wp2_with fail
    go_roundw
    case rel=>exact⟨k+1,by omega,by rw[<- F2.out,<- Oi,<- Oi,<- Oi],by go_num,G4,X4⟩
    case measure=>simp[intOf];omega
   ·have F2:Hid ((((S++[44,32])++A)++[58,32])++B=jL [] (L.take (k+1))):=by
     show _=_;rw[Z.out,if_neg h];simp[two]
    have a6:(0:Int)<(k:Int):=by omega
    have b5:¬9223372036854775807<S.length+2:=by omega
    have a3:¬9223372036854775807<S.length+2+A.length:=by omega
    have a4:¬9223372036854775807<S.length+2+A.length+2:=by omega
    have a5:¬9223372036854775807<S.length+2+A.length+2+B.length:=by omega
    clear Z m h;go_wp2_with fail
    refine(f.out wr t.out).mono ?_;rintro e r ⟨rfl,a⟩;have l:Hid (Ac w r):=t.out.trans a;have o:Hid _:=Ac1 a.below HX.out;clear a f b3 g0 g1 g2 g3 g4;obtain⟨y0,y1,y2,y3,y4,rfl,h0,u,y,h3,h4⟩:=C.out r l.out;have F:=Ab o.out 4;have z3:=Aa o.out;go_wp2_with fail
    refine(g.out r l.out).mono ?_;rintro e w4 ⟨rfl,a⟩;have G4:Hid (Ac w w4):=l.out.trans a;have X4:Hid _:=Ac1 a.below o.out;clear a g F h0 u y h3 h4;go_wp2_with fail
    go_roundw
    case rel=>exact⟨k+1,by omega,by rw[<- F2.out,<- Oi,<- Oi,<- Oi,<- Oi],by go_num,G4,X4⟩
    case measure=>simp[intOf];omega
  ·have b7:k=d:=by omega
   subst k;have a2:Hid (jL [] (L.take d)=T):=by
    show _=_;rw[<- D.out,List.take_length];exact HT.out
   rw[a2.out];go_wp2_with fail
   go_ret
   exact⟨congrArg (fun b=>Ending.returned (Value.string b)) HE.out,t.out⟩
theorem iS (n:Nat)(hC:ShR n):ShR (n+1):=by
 intro P w a v c o d;rcases o with rfl|⟨b,rfl⟩|⟨i,rfl,p,q⟩|⟨l,rfl,_⟩|⟨l,rfl,_⟩|⟨m,rfl,r,_,_⟩|⟨f,h,rfl,j,k,_,e,_⟩
 ·exact oE n hC P w v c d
 ·exact iP n hC P w v b c d
 ·exact oF n hC P w v i p q c d
 ·exact iQ n hC P w v l c d
 ·exact iR n hC P w v l c d
 ·exact oG n hC P w v m r c d
 ·by_cases g:A7 (Au n) f=true
  ·exact oH n hC P w v f h j k e g c d
  ·exact sE n hC P w v f h j k e g c d
theorem Zq:∀n,ShR n
 | 0=>fun _ _ a=>Empty.elim a
 | n+1=>iS n (Zq n)
structure zH (w0 w:World):Prop where
 base:lN w
 low:Below w0.heap.size w0 w
theorem zH.below {w0 w w':World}(h:zH w0 w)(hb:Below w.heap.size w w'):zH w0 w':=⟨h.base.below hb,h.low.trans (hb.mono h.low.size)⟩
end Go.Proofs.YtdpeliifdlhhkaaGreatDoor.Sx
