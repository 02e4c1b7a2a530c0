/- The reference: bytes, words, quotations. -/
import Derived.Test.YtdpeliifdlhhkaaGreatDoorM02
import Derived.Test.YtdpeliifdlhhkaaGreatDoorM03
import Derived.Test.YtdpeliifdlhhkaaGreatDoorM01
namespace Go.Proofs.YtdpeliifdlhhkaaGreatDoor.Sx
open Go.RowKit Go.Sort Tryz
set_option maxRecDepth 100000
set_option maxHeartbeats 4000000
theorem dI (x:Int)(w:World):Calls prog 126 #[.int .u8 x] w fun e w'=>e=.returned (.bool (decide (97<=x/\x<=122)||decide (65<=x/\x<=90)))/\w'=w:=by
 have a:∀b,_=b->(decide (97<=x/\x<=122)||decide (65<=x/\x<=90))=b:=fun _ h=>h;rcases(show x<65\/(65<=x/\x<=90)\/(90<x/\x<97)\/(97<=x/\x<=122)\/122<x from by omega) with h|h|h|h|h
 ·rw[a false (by simp;omega)];clear a;have c:¬97<=x:=by omega
  have f:¬65<=x:=by omega
  go_enter func126,ntmps126
  go_wp2
  go_ret
  exact⟨rfl,rfl⟩
 ·rw[a true (by simp;omega)];clear a;obtain⟨d,g⟩:=h;have c:¬97<=x:=by omega
  go_enter func126,ntmps126
  go_wp2
  go_ret
  exact⟨rfl,rfl⟩
 ·rw[a false (by simp;omega)];clear a;have c:¬97<=x:=by omega
  have f:65<=x:=by omega
  have d:¬x<=90:=by omega
  clear h;go_enter func126,ntmps126
  go_wp2
  go_ret
  exact⟨rfl,rfl⟩
 ·rw[a true (by simp;omega)];clear a;obtain⟨d,g⟩:=h;go_enter func126,ntmps126
  go_wp2
  go_ret
  exact⟨rfl,rfl⟩
 ·rw[a false (by simp;omega)];clear a;have c:97<=x:=by omega
  have f:65<=x:=by omega
  have d:¬x<=90:=by omega
  have g:¬x<=122:=by omega
  clear h;go_enter func126,ntmps126
  go_wp2
  go_ret
  exact⟨rfl,rfl⟩
theorem iF (x:Int)(w:World):Calls prog 124 #[.int .u8 x] w fun e w'=>e=.returned (.bool (decide (48<=x/\x<=57)))/\w'=w:=by
 have a:∀b,_=b->decide (48<=x/\x<=57)=b:=fun _ h=>h;rcases(show x<48\/(48<=x/\x<=57)\/57<x from by omega) with h|h|h
 ·rw[a false (by simp;omega)];clear a;have c:¬48<=x:=by omega
  clear h;go_enter func124,ntmps124
  go_wp2
  go_ret
  exact⟨rfl,rfl⟩
 ·rw[a true (by simp;omega)];clear a;obtain⟨c,d⟩:=h;go_enter func124,ntmps124
  go_wp2
  go_ret
  exact⟨rfl,rfl⟩
 ·rw[a false (by simp;omega)];clear a;have c:48<=x:=by omega
  have d:¬x<=57:=by omega
  clear h;go_enter func124,ntmps124
  go_wp2
  go_ret
  exact⟨rfl,rfl⟩
theorem Tl (c:UInt8)(w:World):Calls prog 126 #[.int .u8 c.toNat] w fun e w'=>e=.returned (.bool (C8 c))/\w'=w:=by
 rw[Tc];exact dI _ w
theorem Qd (c:UInt8)(w:World):Calls prog 124 #[.int .u8 c.toNat] w fun e w'=>e=.returned (.bool (Ay c))/\w'=w:=by
 rw[P6];exact iF _ w
theorem iG (x:Int)(b1 b2:Bool)(w:World)(h1:Calls prog 126 #[.int .u8 x] w fun e w'=>e=.returned (.bool b1)/\w'=w)(h2:Calls prog 124 #[.int .u8 x] w fun e w'=>e=.returned (.bool b2)/\w'=w) :
  Calls prog 102 #[.int .u8 x] w fun e w'=>e=.returned (.bool (b1||b2||decide (x=95)))/\w'=w:=by
 have a:Hid (Calls _ _ _ _ _):=h1;have b:Hid (Calls _ _ _ _ _):=h2;clear h1 h2;by_cases h:x=95
 ·rw[decide_eq_true h];have c:(x==95)=true:=by simp[h]
  clear h;cases b1<;>cases b2 <;>
  (
   go_enter func102,ntmps102
   go_wp2_with (first|(go_at_call 126;refine a.out.mono ?_;rintro e w' ⟨rfl,rfl⟩)|(go_at_call 124;refine b.out.mono ?_;rintro e w' ⟨rfl,rfl⟩))
   go_ret
   exact⟨rfl,rfl⟩)
 ·rw[decide_eq_false h];have c:(x==95)=false:=by simp[h]
  clear h;cases b1<;>cases b2 <;>
  (
   go_enter func102,ntmps102
   go_wp2_with (first|(go_at_call 126;refine a.out.mono ?_;rintro e w' ⟨rfl,rfl⟩)|(go_at_call 124;refine b.out.mono ?_;rintro e w' ⟨rfl,rfl⟩))
   go_ret
   exact⟨rfl,rfl⟩)
theorem nM (c:UInt8)(w:World):Calls prog 102 #[.int .u8 c.toNat] w fun e w'=>e=.returned (.bool (C9 c))/\w'=w:=by
 have e:C9 c=(C8 c||Ay c||decide ((c.toNat:Int)=95)):=by
  unfold C9;congr 1;exact J1 c 95 (by decide)
 rw[e];exact iG _ _ _ w (Tl c w) (Qd c w)
theorem rL (s:ByteArray)(p:Nat)(w:World)(hs:s.size<=4294967296)(hp:p<=s.size):Calls prog 103 #[.string s,.int .i64 p] w fun e w'=>e=.returned (.int .i64 ((p+A5 (s.data.toList.drop p):Nat):Int))/\w'=w:=by
 have n:=Gz (s.data.toList.drop p);have x:s.data.toList.length=s.size:=by simp
 rw[List.length_drop] at n;have t:Hid _:=nM;obtain⟨N,j⟩:∃N,A5 (s.data.toList.drop p)=N:=⟨_,rfl⟩;have m:Hid _:=j;rw[j] at n |-;clear j;have y:=follows;go_enter func103,ntmps103
 go_wp2_with fail
 go_loopw [1] (fun i wr=>∃k:Nat,k<=N/\i=.int .i64 ((p+k:Nat):Int)/\Hid (wr=w)) (fun i _=>s.size-(intOf i).toNat)
 case atStart=>exact⟨0,Ae1 _,rfl,rfl⟩
 case round =>
  obtain⟨k,v,rfl,h⟩:=hrel;obtain⟨q,r⟩:∃q,p+k=q:=⟨_,rfl⟩;rw[r];by_cases u:q<s.size
  ·have l:=Il C9 (s.data.toList.drop p) k s[q] (by have:=m.out;unfold A5 at this;omega) (by rw[List.getElem?_drop,r,List.getElem?_eq_getElem (by omega)];rfl);have c:=t.out s[q];obtain⟨b,o⟩:∃b,C9 s[q]=b:=⟨_,rfl⟩;rw[o] at c l;have f:Hid _:=c;have a:(b=true->k+1<=N)/\(b=false->N=k):=by
    have:=m.out;unfold A5 at this;rw[<- this];exact l
   clear c l o;cases b with
   | true =>
    have d:=a.1 rfl;clear a;go_wp2_with (go_at_call 102;refine(f.out _).mono ?_;rintro e w' ⟨rfl,rfl⟩)
    go_roundw
    case rel=>exact⟨k+1,d,by
     have e:p+(k+1)=q+1:=by omega
     rw[e];go_num,h⟩
    case measure=>simp[intOf];omega
   | false =>
    have d:=a.2 rfl;clear a;have g:Hid (p+N=q):=by show _=_;omega
    clear d;go_wp2_with (go_at_call 102;refine(f.out _).mono ?_;rintro e w' ⟨rfl,rfl⟩)
    go_ret
    exact⟨by rw[g.out];rfl,h.out⟩
  ·have g:Hid (p+N=q):=by show _=_;omega
   go_wp2_with fail
   go_ret
   exact⟨by rw[g.out];rfl,h.out⟩
def nN (r:Nat×Nat):Int:=if r.1=3 then(r.2:Int) else -1
theorem rM (n:Nat):nN (3,n)=n:=rfl
theorem zC (n:Nat):nN (5,n)=-1:=rfl
theorem iH (s:ByteArray)(p:Nat)(w:World)(hs:s.size<=4294967296)(hp:p<s.size):Calls prog 105 #[.string s,.int .i64 p] w fun e w'=>e=.returned (.int .i64 (nN (Ci (s.data.toList.drop (p+1)) (p+1))))/\w'=w:=by
 have B:s.data.toList.length=s.size:=by simp
 obtain⟨r,m⟩:∃r,nN (Ci (s.data.toList.drop (p+1)) (p+1))=r:=⟨_,rfl⟩;rw[m];have j:Hid _:=m;clear m;go_enter func105,ntmps105
 go_wp2_with fail
 go_loop [5] (fun i=>∃k:Nat,p<k/\k<=s.size/\i=.int .i64 k/\Hid (nN (Ci (s.data.toList.drop k) k)=r)) (fun i=>s.size-(intOf i).toNat)
 case atStart=>exact⟨p+1,by omega,by omega,by go_num,j⟩
 case round =>
  obtain⟨k,y,A,rfl,g⟩:=hrel;by_cases z:k<s.size
  ·have d:=U9 s.data.toList k s[k] (by rw[List.getElem?_eq_getElem (by omega)];rfl);rw[(Mg s[k]).1,(Mg s[k]).2] at d;have l:=g.out;rw[d] at l;have a:Hid (_=r):=l;clear d l g j;rcases(show(s[k].toNat:Int)=34\/((s[k].toNat:Int)≠34/\(s[k].toNat:Int)<32)\/((s[k].toNat:Int)≠34/\126<(s[k].toNat:Int))\/(s[k].toNat:Int)=92\/((s[k].toNat:Int)≠34/\(s[k].toNat:Int)≠92/\32<=(s[k].toNat:Int)/\(s[k].toNat:Int)<=126) from by omega) with h|⟨c,f⟩|⟨c,f⟩|h|⟨c,f,q,t⟩
   ·have b:Hid (r=((k+1:Nat):Int)):=by
     have:=a.out;simp[h] at this;rw[<- this];exact rM (k+1)
    have n:((s[k].toNat:Int)==34)=true:=by simp[h]
    clear a h;go_wp2_with fail
    go_ret
    exact⟨by rw[b.out];go_num,rfl⟩
   ·have b:Hid (r=-1):=by
     have:=a.out;simp[c,show ¬32<=(s[k].toNat:Int) from by omega] at this;exact this.symm
    have n:((s[k].toNat:Int)==34)=false:=by simp[c]
    clear a c;go_wp2_with fail
    go_ret
    exact⟨by rw[b.out];rfl,rfl⟩
   ·have b:Hid (r=-1):=by
     have:=a.out;simp[c,show ¬(s[k].toNat:Int)<=126 from by omega] at this;exact this.symm
    have n:((s[k].toNat:Int)==34)=false:=by simp[c]
    have o:¬(s[k].toNat:Int)<32:=by omega
    clear a c;go_wp2_with fail
    go_ret
    exact⟨by rw[b.out];rfl,rfl⟩
   ·have b:Hid (r=-1):=by
     have:=a.out;simp[h] at this;exact this.symm
    have u:((s[k].toNat:Int)==34)=false:=by simp[h]
    have o:¬(s[k].toNat:Int)<32:=by omega
    have v:¬126<(s[k].toNat:Int):=by omega
    have x:((s[k].toNat:Int)==92)=true:=by simp[h]
    clear a h;go_wp2_with fail
    go_ret
    exact⟨by rw[b.out];rfl,rfl⟩
   ·have b:Hid (nN (Ci (s.data.toList.drop (k+1)) (k+1))=r):=by
     have:=a.out;simp[c,f,q,t] at this;exact this
    have u:((s[k].toNat:Int)==34)=false:=by simp[c]
    have o:¬(s[k].toNat:Int)<32:=by omega
    have v:¬126<(s[k].toNat:Int):=by omega
    have x:((s[k].toNat:Int)==92)=false:=by simp[f]
    clear a c f q t;go_wp2_with fail
    go_round
    case rel=>exact⟨k+1,by omega,by omega,by go_num,b⟩
    case measure=>simp[intOf];omega
  ·have b:Hid (r=-1):=by
    have:=g.out;rw[List.drop_of_length_le (by omega)] at this;exact this.symm
   clear g j;go_wp2_with fail
   go_ret
   exact⟨by rw[b.out];rfl,rfl⟩
def aS:Array Value:=(Ct.map fun l=>Value.string ⟨l.toArray⟩).toArray
theorem V9:Ct.length=52:=by decide +kernel
theorem nO (i:Nat)(h:i<52):∃s:ByteArray,aS[i]?=some (.string s)/\Ct[i]?=some s.data.toList:=by
 have a:=V9;have e:_[i]?=some Ct[i]:=List.getElem?_eq_getElem _;refine⟨⟨Ct[i].toArray⟩,?_,by rw[e]⟩;unfold aS;rw[List.getElem?_toArray,List.getElem?_map,e];rfl
theorem Zf (l:List UInt8):Bw l=true↔∃i:Nat,i<52/\Ct[i]?=some l:=by
 unfold Bw;rw[List.contains_iff_mem,List.mem_iff_getElem?];constructor
 ·rintro⟨i,h⟩;have:=(List.getElem?_eq_some_iff.1 h).1;have a:=V9;exact⟨i,by omega,h⟩
 ·rintro⟨i,_,h⟩;exact⟨i,h⟩
theorem Xt (s:ByteArray)(w:World):Calls prog 127 #[.string s] w fun e w'=>e=.returned (.bool (Bw s.data.toList))/\Ac w w':=by
 obtain⟨b,p⟩:∃b,Bw s.data.toList=b:=⟨_,rfl⟩;rw[p];have n:Hid _:=p;clear p;go_enter func127,ntmps127
 go_wp2_with fail
 generalize v:w.alloc (.cells _ 9)=W;have d:W=w.alloc (.cells aS 9):=by rw[<- v];kernel_rfl
 clear v;have r:Hid (Ac w W):=by show Ac w W;rw[d];exact(Ac.refl w).alloc _
 have u:Hid (W.heap[w.heap.size]?=some (.cells aS 9 (0,0))):=by show _=_;rw[d];exact Af rfl
 clear d;have z:=Aa u.out;go_loop [4] (fun i=>∃k:Nat,k<=52/\i=.int .i64 k/\Hid (∀j,j<k->Ct[j]?≠some s.data.toList)) (fun i=>52-(intOf i).toNat)
 case atStart=>exact⟨0,Ae1 _,rfl,fun j h=>absurd h (Nat.not_lt_zero j)⟩
 case round =>
  obtain⟨k,D,rfl,l⟩:=hrel;by_cases c:k<52
  ·obtain⟨t,g,a⟩:=nO k c;have A:=(Ab u.out k).trans g;clear g;have m:(t.toList==s.toList)=(t.data.toList==s.data.toList):=by rw[ByteArray.toList_eq,ByteArray.toList_eq]
   cases f:t.toList==s.toList with
   | true =>
    have o:Hid (b=true):=by
     show _=_;rw[<- n.out,Zf];refine⟨k,c,?_⟩;rw[a,eq_of_beq (m.symm.trans f)]
    clear a n l m;go_wp2_with fail
    go_ret
    exact⟨by rw[o.out];rfl,r.out⟩
   | false =>
    have x:Hid (∀j,j<k+1->Ct[j]?≠some s.data.toList):=by
     intro j C;by_cases e:j<k
     ·exact l.out j e
     ·have:j=k:=by omega
      subst this;rw[a];intro q;rw[m] at f;exact absurd (beq_iff_eq.2 (Ae5 q)) (by rw[f];simp)
    clear a l m;go_wp2_with fail
    go_round
    case rel=>exact⟨k+1,by omega,by go_num,x⟩
    case measure=>simp[intOf];omega
  ·have o:Hid (b=false):=by
    show _=_;rw[<- n.out];cases q:Bw s.data.toList with
    | false=>rfl
    | true =>
     obtain⟨i,B,y⟩:=(Zf _).1 q;exact absurd y (l.out i (by omega))
   go_wp2_with fail
   go_ret
   exact⟨by rw[o.out];rfl,r.out⟩
/-- the number of digits -/
def E7:Nat->List UInt8->Nat
 | a,[]=>a
 | a,c::l=>E7 (a*10+(c.toNat-48)) l
theorem aT:∀(l:List UInt8)(a:Nat),a<=E7 a l
 | [],a=>Ad9 a
 | c::l,a=>Ae0 (Ae0 (Nat.le_mul_of_pos_right a (by decide)) (Nat.le_add_right _ _)) (aT l (a*10+(c.toNat-48)))
theorem nP (l:List UInt8)(k:Nat)(c:UInt8)(a:Nat)(h:l[k]?=some c):E7 a (l.drop k)=E7 (a*10+(c.toNat-48)) (l.drop (k+1)):=by
 obtain⟨d,b⟩:=List.getElem?_eq_some_iff.1 h;rw[List.drop_eq_getElem_cons d,b];rfl
theorem rN (s:ByteArray)(w:World)(hs:s.size<=4294967296)(hd:∀c∈s.data.toList,Ay c=true):Calls prog 177 #[.string s] w fun e w'=>e=.returned (if E7 0 s.data.toList<=9223372036854775808 then .tuple #[.int .u64 (E7 0 s.data.toList),.bool true] else .tuple #[.int .u64 0,.bool false])/\w'=w:=by
 have H:s.data.toList.length=s.size:=by simp
 obtain⟨r,g⟩:∃r,(if E7 0 s.data.toList<=9223372036854775808 then Value.tuple #[.int .u64 (E7 0 s.data.toList),.bool true] else .tuple #[.int .u64 0,.bool false])=r:=⟨_,rfl⟩;rw[g];obtain⟨N,l⟩:∃N,E7 0 s.data.toList=N:=⟨_,rfl⟩;have u:Hid (E7 0 (s.data.toList.drop 0)=N):=l;rw[l] at g;have q:Hid (_=r):=g;have t:Hid (∀k,(h:k<s.size)->48<=s[k].toNat/\s[k].toNat<=57):=by
  intro k h;have:=hd s[k] (by
   have e:s[k]=s.data.toList[k]:=rfl;rw[e];exact List.getElem_mem _)
  simpa [Ay,UInt8.le_iff_toNat_le] using this
 clear g l hd;go_enter func177,ntmps177
 go_wp2_with fail
 go_loop [4,5] (fun n i=>∃k m:Nat,k<=s.size/\m<=9223372036854775808/\n=.int .u64 m/\i=.int .i64 k/\Hid (E7 m (s.data.toList.drop k)=N)) (fun _ i=>s.size-(intOf i).toNat)
 case atStart=>exact⟨0,0,Ae1 _,Ae1 _,rfl,rfl,u⟩
 case round =>
  obtain⟨k,m,G,B,rfl,rfl,f⟩:=hrel;by_cases p:k<s.size
  ·obtain⟨C,D⟩:=t.out k p;have a:=f.out;rw[nP s.data.toList k s[k] m (by rw[List.getElem?_eq_getElem (by omega)];rfl)] at a;obtain⟨d,hd⟩:∃d,s[k].toNat-48=d:=⟨_,rfl⟩;rw[hd] at a;have b:Hid _:=a;have y:((s[k].toNat:Nat):Int)-48=(d:Int):=by omega
   have z:d<=9:=by omega
   have E:IntKind.wrap .u8 (((s[k].toNat:Nat):Int)-48)=(d:Int):=by
    rw[y,IntKind.wrap_u8];omega
   clear a f hd;by_cases A:(9223372036854775808-(d:Int)) / 10<(m:Int)
   ·have j:Hid (r=.tuple #[.int .u64 0,.bool false]):=by
     show _=_;rw[<- q.out,if_neg];have:=aT (s.data.toList.drop (k+1)) (m*10+d);rw[b.out] at this;omega
    clear b;go_wp2_with fail
    go_ret2
    exact⟨by rw[j.out];rfl,rfl⟩
   ·have o:m*10+d<=9223372036854775808:=by omega
    have v:((m:Int)*10)+d=((m*10+d:Nat):Int):=by omega
    have F:IntKind.u64.wrap ((m:Int)*10+d)=((m*10+d:Nat):Int):=by rw[IntKind.wrap_u64];omega
    clear v;go_wp2_with fail
    go_round
    case rel=>exact⟨k+1,m*10+d,by omega,o,rfl,by go_num,b⟩
    case measure=>simp[intOf];omega
  ·have j:Hid (r=.tuple #[.int .u64 m,.bool true]):=by
    have:=f.out;rw[List.drop_of_length_le (by omega)] at this;have x:m=N:=this;show _=_;rw[<- q.out,<- x,if_pos B]
   clear f;go_wp2_with fail
   go_ret2
   exact⟨by rw[j.out];rfl,rfl⟩
section
variable {α:Type} (P:Nat->Prop) (w:World) (R:α->Value->Prop)
def Qe (b o:Nat)(v:Value):Prop :=
 ∃c0 c1 c2 c3 c4,v=.agg #[c0,c1,c2,c3,c4]/\w.cell? ⟨b,o,none⟩=some c0/\w.cell? ⟨b,o+1,none⟩=some c1/\w.cell? ⟨b,o+2,none⟩=some c2/\w.cell? ⟨b,o+3,none⟩=some c3/\w.cell? ⟨b,o+4,none⟩=some c4
def Bm (a:Option Addr)(len:Nat)(es:List α):Prop :=
 len=es.length/\len<=4294967296/\(len=0\/∃b off,a=some ⟨b,off,none⟩/\b<w.heap.size/\P b/\∀i x,es[i]?=some x->∃v,Qe w b (off+i*5) v/\R x v)
def dJ (a:Ag α)(v:Value):Prop :=
 ∃(s:ByteArray)(ka:Option Addr)(kl kc:Nat)(va:Option Addr)(vl vc:Nat),v=.agg #[.int .i64 a.kind,.int .i64 a.int,.string s,.slice ka kl kc,.slice va vl vc]/\s.data.toList=a.text/\Bm P w R ka kl a.keys/\Bm P w R va vl a.vals/\vl<=vc
end
def Ref (P:Nat->Prop)(w:World):(n:Nat)->AV n->Value->Prop
 | 0,_,_=>False
 | n+1,a,v=>dJ P w (Ref P w n) a v
section
variable {α:Type} {P Q:Nat->Prop} {w w':World} {R R':α->Value->Prop}
theorem Qe.fr {b o:Nat}{v:Value}(hb:w'.heap[b]?=w.heap[b]?)(h:Qe w b o v):Qe w' b o v:=by
 obtain⟨c,d,f,g,j,e,k,l,m,n,p⟩:=h;have a:∀i,_=w.cell? ⟨b,i,none⟩:=fun i=>World.cell?_of_block hb;exact⟨c,d,f,g,j,e,(a _).trans k,(a _).trans l,(a _).trans m,(a _).trans n,(a _).trans p⟩
theorem Bm.fr (hf:Fr P w w')(hR:∀x v,R x v->R' x v)(hQ:∀k,k<w.heap.size->P k->Q k){a:Option Addr}{len:Nat}{es:List α}(h:Bm P w R a len es):Bm Q w' R' a len es:=by
 refine⟨h.1,h.2.1,?_⟩;rcases h.2.2 with f|⟨b,d,rfl,c,e,l⟩
 ·exact .inl f
 ·refine .inr ⟨b,d,rfl,Ad8 c hf.size,hQ b c e,fun i x hx=>?_⟩;obtain⟨v,g,j⟩:=l i x hx;exact⟨v,g.fr (hf.block b c e),hR x v j⟩
theorem dJ.fr (hf:Fr P w w')(hR:∀x v,R x v->R' x v)(hQ:∀k,k<w.heap.size->P k->Q k){a:Ag α}{v:Value}(h:dJ P w R a v):dJ Q w' R' a v:=by
 obtain⟨s,g,j,i,l,n,m,e,f,b,c,d⟩:=h;exact⟨s,g,j,i,l,n,m,e,f,b.fr hf hR hQ,c.fr hf hR hQ,d⟩
end
theorem Ref.fr {P Q:Nat->Prop}{w w':World}(hf:Fr P w w')(hQ:∀k,k<w.heap.size->P k->Q k):∀(n:Nat)(a:AV n)(v:Value),Ref P w n a v->Ref Q w' n a v
 | 0,_,_,h=>h
 | n+1,_,_,h=>dJ.fr hf (Ref.fr hf hQ n) hQ h
theorem Ref.keep {P:Nat->Prop}{w w':World}(hf:Fr P w w'){n:Nat}{a:AV n}{v:Value}(h:Ref P w n a v):Ref P w' n a v:=h.fr hf (fun _ _ h=>h) n a v
theorem Bm.keep {P:Nat->Prop}{w w':World}(hf:Fr P w w'){n:Nat}{a:Option Addr}{len:Nat}{es:List (AV n)}(h:Bm P w (Ref P w n) a len es):Bm P w' (Ref P w' n) a len es :=
 h.fr hf (fun x v=>Ref.fr hf (fun _ _ h=>h) n x v) (fun _ _ h=>h)
theorem Ref.grew {P:Nat->Prop}{w w':World}(h:Ac w w'){n:Nat}{a:AV n}{v:Value}(r:Ref P w n a v):Ref P w' n a v:=r.keep (Fr.grew h)
theorem Bm.grew {P:Nat->Prop}{w w':World}(hf:Ac w w'){n:Nat}{a:Option Addr}{len:Nat}{es:List (AV n)}(h:Bm P w (Ref P w n) a len es):Bm P w' (Ref P w' n) a len es:=h.keep (Fr.grew hf)
def rO (n:Nat):Prop:=∀(P:Nat->Prop)(w:World)(a b:AV n)(va vb:Value),Ref P w n a va->Ref P w n b vb ->
 Calls prog 18 #[va,vb] w fun e w'=>e=.returned (.int .i64 (Al n a b))/\Ac w w'
theorem Q5:∀(a b:List UInt8),Op.bytesLess a b=decide (Lib.compareBytes a b=-1)
 | [],[]=>by simp[Op.bytesLess,Lib.compareBytes]
 | [],_::_=>by simp[Op.bytesLess,Lib.compareBytes]
 | _::_,[]=>by simp[Op.bytesLess,Lib.compareBytes]
 | x::a,y::b=>by
  simp only[Op.bytesLess,Lib.compareBytes,Q5 a b,UInt8.lt_iff_toNat_lt];have hxy:x=y↔x.toNat=y.toNat:=UInt8.toNat_inj.symm;by_cases h1:x.toNat<y.toNat
  ·simp[h1]
  ·by_cases h2:y.toNat<x.toNat
   ·have:x≠y:=fun h=>by rw[hxy] at h;omega
    simp[h1,h2,this]
   ·have:x=y:=hxy.2 (by omega);simp[this]
theorem nQ (a b:ByteArray)(w:World):Calls prog 40 #[.string a,.string b] w fun e w'=>e=.returned (.int .i64 (Lib.compareBytes a.data.toList b.data.toList))/\w'=w:=by
 have c:Hid (Op.bytesLess a.toList b.toList=decide (Lib.compareBytes a.data.toList b.data.toList=-1)):=by
  show _=_;rw[Q5,ByteArray.toList_eq,ByteArray.toList_eq]
 have f:Hid ((a.toList==b.toList)=true↔Lib.compareBytes a.data.toList b.data.toList=0):=by
  show _↔_;rw[pX,ByteArray.toList_eq,ByteArray.toList_eq,beq_iff_eq]
 have g:Hid _:=Yb.rng a.data.toList b.data.toList;generalize Lib.compareBytes _ _=d at c f g |-;go_enter func40,ntmps40
 go_wp2_with fail
 ·rename_i h
  have q:=by rw[c.out] at h;simpa using h
  go_ret
  exact⟨by rw[q];rfl,rfl⟩
 ·rename_i h1 _ _ h2
  have q:d=1:=by
   rw[c.out] at h1;have i:¬d=0:=fun h=>by rw[f.out.2 h] at h2;simp at h2
   have:=g.out;simp at h1;omega
  go_ret
  exact⟨by rw[q];rfl,rfl⟩
 ·rename_i h1 h2
  have q:=by
   refine f.out.1 ?_;simpa using h2
  go_ret
  exact⟨by rw[q];rfl,rfl⟩
theorem G5 {w wr:World}(hg:Ac w wr){p o:Nat}{v:Value}(hp:p<w.heap.size)(h:Qe w p o v):Qe wr p o v:=h.fr (hg.below.block p hp)
theorem Zg (n:Nat)(hC:rO n)(P:Nat->Prop)(w:World)(a1 a2:Option Addr)(l1 l2 c1 c2:Nat)(es fs:List (AV n))(h1:Bm P w (Ref P w n) a1 l1 es)(h2:Bm P w (Ref P w n) a2 l2 fs) :
  Calls prog 41 #[.slice a1 l1 c1,.slice a2 l2 c2] w fun e w'=>e=.returned (.int .i64 (Es (Al n) es fs))/\Ac w w':=by
 obtain⟨I,b1,u⟩:=h1;obtain⟨J,b2,v⟩:=h2;have A:Hid (l1=es.length):=I;have B:Hid (l2=fs.length):=J;clear I J;have Y:Hid (rO n):=hC;clear hC;have z:Hid (Es (Al n) es fs=A4 (Lib.compareInt l1 l2) (Ew (Al n) es fs)):=by rw[A.out,B.out];rfl
 by_cases H:l1<l2
 ·have d:Hid (Es (Al n) es fs=-1):=by
   show _=_;rw[z.out];have:Lib.compareInt l1 l2=-1:=by unfold Lib.compareInt;rw[if_pos (by omega)]
   rw[this];rfl
  clear u v;go_enter func41,ntmps41
  go_wp2_with fail
  go_ret
  exact⟨by rw[d.out];rfl,Ac.refl w⟩
 by_cases G:l2<l1
 ·have d:Hid (Es (Al n) es fs=1):=by
   show _=_;rw[z.out];have:Lib.compareInt l1 l2=1:=by unfold Lib.compareInt;rw[if_neg (by omega),if_pos (by omega)]
   rw[this];rfl
  clear u v;go_enter func41,ntmps41
  go_wp2_with fail
  go_ret
  exact⟨by rw[d.out];rfl,Ac.refl w⟩
 have F:l1=l2:=by omega
 subst F;have f:Hid (Es (Al n) es fs=Ew (Al n) es fs):=by
  show _=_;rw[z.out,(Md _ _).2 rfl,Bl]
 clear z H G;go_enter func41,ntmps41
 go_wp2_with fail
 go_loopw [5] (fun i wr=>∃k:Nat,k<=l1/\i=.int .i64 k/\Hid (Ac w wr)/\Hid (Ew (Al n) es fs=Ew (Al n) (es.drop k) (fs.drop k))) (fun i _=>l1-(intOf i).toNat)
 case atStart=>exact⟨0,Ae1 _,rfl,Ac.refl w,by simp[Hid]⟩
 case round =>
  obtain⟨k,Z,rfl,b,D⟩:=hrel;by_cases m:k<l1
  ·have V:k<es.length:=by rw[<- A.out];exact m
   have X:k<fs.length:=by rw[<- B.out];exact m
   obtain⟨p1,o1,rfl,o,_,h⟩:=u.resolve_left (by omega);obtain⟨v1,s,q⟩:=h k es[k] (List.getElem?_eq_getElem V);obtain⟨p2,o2,rfl,p,_,j⟩:=v.resolve_left (by omega);obtain⟨v2,t,r⟩:=j k fs[k] (List.getElem?_eq_getElem X);obtain⟨x0,x1,x2,x3,x4,rfl,Q,R,S,T,U⟩:=G5 b.out o s;obtain⟨y0,y1,y2,y3,y4,rfl,K,L,M,N,O⟩:=G5 b.out p t;have x:=Ad8 o b.out.below.size;have y:=Ad8 p b.out.below.size;have g:=Ye (c:=Al n) (List.getElem?_eq_getElem V) (List.getElem?_eq_getElem X);have g:Hid (_=_):=g;have a:Hid _:=fun(W:World) (hW:_)=>Y.out P W es[k] fs[k] _ _ (q.grew hW) (r.grew hW);clear h j s t q r u v;generalize Al n es[k] fs[k]=cv at a g;have mo:=follows;have i0:=cell_grown x Q;have i1:=cell_grown x R;have i2:=cell_grown x S;have i3:=cell_grown x T;have i4:=cell_grown x U;have j0:=cell_grown y K;have j1:=cell_grown y L;have j2:=cell_grown y M;have j3:=cell_grown y N;have j4:=cell_grown y O;clear Q R S T U K L M N O;go_wp2_with fail
   go_quiet_grown (first|(go_at_call 18;refine Ae3 (a.out _ (b.out.grown _ _))))
   have C:Hid (Ac w (grow (wr.drewN nq) osq)):=b.out.grown _ _;show Exit.then _ _ _ _ (grow (wr.drewN nq) osq);clear i0 i1 i2 i3 i4 j0 j1 j2 j3 j4 a b;generalize grow (wr.drewN nq) osq=W1 at C |-;clear nq osq;by_cases E:cv=0
   ·subst E;go_wp2_with fail
    go_roundw
    case rel=>exact⟨k+1,by omega,by go_num,C,by show Hid (_=_);rw[D.out,g.out];rfl⟩
    case measure=>simp[intOf];omega
   ·have hb:(cv==0)=false:=by simp[E]
    have d:Hid (Es (Al n) es fs=cv):=by show _=_;rw[f.out,D.out,g.out];simp[A4,E]
    go_wp2_with fail
    go_ret
    exact⟨by rw[d.out];rfl,C.out⟩
  ·have d:Hid (Es (Al n) es fs=0):=by
    show _=_;rw[f.out,D.out,List.drop_of_length_le (l:=es) (by rw[<- A.out];omega),List.drop_of_length_le (l:=fs) (by rw[<- B.out];omega)];rfl
   clear u v;go_wp2_with fail
   go_ret
   exact⟨by rw[d.out];rfl,b.out⟩
theorem Xu (w:World)(k1 k2:Nat)(i1 i2:Int)(s1 s2:ByteArray)(K1 U1 K2 U2:Value)(d1 d2 d3:Int)
  (h1:∀W:World,Calls prog 40 #[.string s1,.string s2] W fun e w'=>e=.returned (.int .i64 d1)/\w'=W)
  (h2:∀W:World,Ac w W->Calls prog 41 #[K1,K2] W fun e w'=>e=.returned (.int .i64 d2)/\Ac W w')
  (h3:∀W:World,Ac w W->Calls prog 41 #[U1,U2] W fun e w'=>e=.returned (.int .i64 d3)/\Ac W w') :
  Calls prog 18 #[.agg #[.int .i64 k1,.int .i64 i1,.string s1,K1,U1],.agg #[.int .i64 k2,.int .i64 i2,.string s2,K2,U2]] w fun e w' =>
   e=.returned (.int .i64 (A4 (Lib.compareInt k1 k2) (A4 (Lib.compareInt i1 i2) (A4 d1 (A4 d2 d3)))))/\Ac w w':=by
 have x:Hid (∀W:World,_):=h1;have y:Hid _:=h2;have z:Hid _:=h3;clear h1 h2 h3;obtain⟨r,a⟩:∃r,A4 (Lib.compareInt k1 k2) (A4 (Lib.compareInt i1 i2) (A4 d1 (A4 d2 d3)))=r:=⟨_,rfl⟩;rw[a];have c:Hid (Ac w ((w.alloc (.cells #[.int .i64 k1,.int .i64 i1,.string s1,K1,U1] 30)).alloc (.cells #[.int .i64 k2,.int .i64 i2,.string s2,K2,U2] 30))):=((Ac.refl w).alloc _).alloc _;by_cases I:k1<k2
 ·have d:Hid (r=-1):=by
   show _=_;rw[<- a,show Lib.compareInt k1 k2=-1 from by unfold Lib.compareInt;rw[if_pos (by omega)]];rfl
  clear a;go_enter func18,ntmps18
  go_wp2_with fail
  go_ret
  exact⟨by rw[d.out];rfl,c.out⟩
 by_cases q:k2<k1
 ·have d:Hid (r=1):=by
   show _=_;rw[<- a,show Lib.compareInt k1 k2=1 from by unfold Lib.compareInt;rw[if_neg (by omega),if_pos (by omega)]];rfl
  clear a;go_enter func18,ntmps18
  go_wp2_with fail
  go_ret
  exact⟨by rw[d.out];rfl,c.out⟩
 have F:k1=k2:=by omega
 subst F;rw[show Lib.compareInt (k1:Int) k1=0 from(Md _ _).2 rfl,Bl] at a;by_cases H:i1<i2
 ·have d:Hid (r=-1):=by
   show _=_;rw[<- a,show Lib.compareInt i1 i2=-1 from by unfold Lib.compareInt;rw[if_pos (by omega)]];rfl
  clear a;go_enter func18,ntmps18
  go_wp2_with fail
  go_ret
  exact⟨by rw[d.out];rfl,c.out⟩
 by_cases p:i2<i1
 ·have d:Hid (r=1):=by
   show _=_;rw[<- a,show Lib.compareInt i1 i2=1 from by unfold Lib.compareInt;rw[if_neg (by omega),if_pos (by omega)]];rfl
  clear a;go_enter func18,ntmps18
  go_wp2_with fail
  go_ret
  exact⟨by rw[d.out];rfl,c.out⟩
 have E:i1=i2:=by omega
 subst E;rw[show Lib.compareInt i1 i1=0 from(Md _ _).2 rfl,Bl] at a;have k:Hid (A4 d1 (A4 d2 d3)=r):=a;clear a I q H p;have h:Hid (((w.alloc (.cells #[.int .i64 k1,.int .i64 i1,.string s1,K1,U1] 30)).alloc (.cells #[.int .i64 k1,.int .i64 i1,.string s2,K2,U2] 30)).heap[w.heap.size]?=_) :=
  Ac1 ((Ac.refl _).alloc _).below (Af rfl)
 have i:Hid (((w.alloc (.cells #[.int .i64 k1,.int .i64 i1,.string s1,K1,U1] 30)).alloc (.cells #[.int .i64 k1,.int .i64 i1,.string s2,K2,U2] 30)).heap[w.heap.size+1]?=_) :=
  Af (by simp)
 have K:=follows;go_enter func18,ntmps18
 go_wp2_with fail
 generalize (w.alloc (.cells #[.int .i64 k1,.int .i64 i1,.string s1,K1,U1] 30)).alloc _=W0 at c h i |-;refine(x.out W0).mono ?_;rintro e w' ⟨rfl,rfl⟩;obtain⟨-,-,-,C,l⟩:=Ah h.out;obtain⟨-,-,-,D,m⟩:=Ah i.out;have u:=Aa h.out;have v:=Aa i.out;by_cases n:d1=0
 ·subst n;have f:Hid (A4 d2 d3=r):=by have:=k.out;rw[Bl] at this;exact this
  clear k x;go_wp2_with fail
  refine(y.out w' c.out).mono ?_;rintro e A ⟨rfl,g⟩;have j:Hid (Ac w A):=c.out.trans g;have s:Hid (_=_):=Ac1 g.below h.out;have t:Hid (_=_):=Ac1 g.below i.out;clear g h i C l D m u v c y;have l:=Ab s.out 4;have m:=Ab t.out 4;have u:=Aa s.out;have v:=Aa t.out;by_cases o:d2=0
  ·subst o;have b:Hid (d3=r):=by have:=f.out;rw[Bl] at this;exact this
   clear f;go_wp2_with fail
   refine(z.out A j.out).mono ?_;rintro e J ⟨rfl,g⟩;have B:Hid (Ac w J):=j.out.trans g;clear g s t l m u v j z;go_wp2_with fail
   go_ret
   exact⟨by rw[<- b.out];rfl,B.out⟩
  ·have G:(d2==0)=false:=by simp[o]
   have b:Hid (d2=r):=by show d2=r;have:=f.out;simpa [A4,o] using this
   go_wp2_with fail
   go_ret
   exact⟨by rw[<- b.out];rfl,j.out⟩
 ·have G:(d1==0)=false:=by simp[n]
  have b:Hid (d1=r):=by show d1=r;have:=k.out;simpa [A4,n] using this
  go_wp2_with fail
  go_ret
  exact⟨by rw[<- b.out];rfl,c.out⟩
theorem Xv (n:Nat)(hC:rO n):rO (n+1):=by
 intro P w a b B C l m;obtain⟨g,o,q,p,y,A,z,rfl,v,t,r,_⟩:=l;obtain⟨h,c,f,d,i,k,j,rfl,x,u,s,_⟩:=m;have e:Al (n+1) a b=A4 (Lib.compareInt a.kind b.kind) (A4 (Lib.compareInt a.int b.int) (A4 (Lib.compareBytes g.data.toList h.data.toList) (A4 (Es (Al n) a.keys b.keys) (Es (Al n) a.vals b.vals)))):=by
  rw[v,x];rfl
 rw[e];exact Xu w _ _ _ _ g h _ _ _ _ _ _ _ (fun W=>nQ g h W) (fun W hW=>Zg n hC P W o c q f p d a.keys b.keys (t.grew hW) (u.grew hW)) (fun W hW=>Zg n hC P W y i A k z j a.vals b.vals (r.grew hW) (s.grew hW))
theorem Mm:∀n,rO n
 | 0=>fun _ _ a=>Empty.elim a
 | n+1=>Xv n (Mm n)
def wtR:(n:Nat)->AV n->Nat
 | 0,_=>0
 | n+1,a=>1+wtL (wtR n) (Ag.keys a)+wtL (wtR n) (Ag.vals a)
theorem Dz {α:Type}{f g:α->Nat}:∀(l:List α),(∀x∈l,f x=g x)->wtL f l=wtL g l
 | [],_=>rfl
 | x::l,h=>by rw[Fo,Fo,h x (by simp),Dz l (fun y hy=>h y (by simp[hy]))]
theorem Wa:∀(n:Nat)(a:AV n),WF n a->wtR n a=wt n a
 | 0,a,_=>Empty.elim a
 | n+1,a,h=>by
  have ih:=Wa n;rcases h with rfl|⟨b,rfl⟩|⟨i,rfl,_⟩|⟨l,rfl,_⟩|⟨l,rfl,_⟩|⟨es,rfl,h1,_⟩|⟨ks,vs,rfl,h1,h2,_⟩
  ·rfl
  ·rfl
  ·rfl
  ·rfl
  ·rfl
  ·show 1+wtL (wtR n) es+0=1+wtL (wt n) es;rw[Dz es (fun x hx=>ih x (h1 x hx))];omega
  ·show 1+wtL (wtR n) ks+wtL (wtR n) vs=1+wtL (wt n) ks+wtL (wt n) vs;rw[Dz ks (fun x hx=>ih x (h1 x hx)),Dz vs (fun x hx=>ih x (h2 x hx))]
theorem Uq {α:Type}(f:α->Nat):∀(l:List α)(x:α),x∈l->f x<=wtL f l
 | [],_,h=>by simp at h
 | y::l,x,h=>by
  rw[Fo];rcases List.mem_cons.1 h with rfl|h
  ·omega
  ·have:=Uq f l x h;omega
theorem Tm {α:Type}(f:α->Nat)(l:List α)(k:Nat):wtL f (l.take k)<=wtL f l:=by
 induction l generalizing k with
 | nil=>simp[wtL]
 | cons x l ih =>
  cases k with
  | zero=>simp[wtL]
  | succ k=>rw[List.take_succ_cons,Fo,Fo];have:=ih k;omega
def WtR (n:Nat):Prop:=∀(P:Nat->Prop)(w:World)(a:AV n)(v:Value),Ref P w n a v->wtR n a<=1099511627776 ->
 Calls prog 15 #[v] w fun e w'=>e=.returned (.int .i64 (wtR n a))/\Ac w w'
theorem aU (n:Nat)(hC:WtR n):WtR (n+1):=by
 intro P w a v ha hb;obtain⟨O,G,g,L,H,j,Q,rfl,t1,N,M,_⟩:=ha;have HC:Hid (WtR n):=hC;clear hC t1;have HW:Hid (wtR (n+1) a=1+_+_):=rfl;rw[HW.out] at hb |-;obtain⟨K,y⟩:∃K,wtL (wtR n) a.keys=K:=⟨_,rfl⟩;obtain⟨U,z⟩:∃U,wtL (wtR n) a.vals=U:=⟨_,rfl⟩;rw[y,z] at hb |-;clear HW;generalize a.keys=ks at N y;generalize a.vals=us at M z;obtain⟨I,C⟩:∃i,i=a.int:=⟨_,rfl⟩;obtain⟨J,D⟩:∃i,i=a.kind:=⟨_,rfl⟩;rw[<- C,<- D];clear C D a;have X:Hid (∀(k:Nat)(x:AV n),ks[k]?=some x->_=_+wtR n x/\wtR n x<=K/\wtL (wtR n) (ks.take (k+1))<=K):=fun k x h =>
  ⟨Vd _ ks k x h,by rw[<- y];exact Uq _ ks x (Ae4 h),by rw[<- y];exact Tm _ _ _⟩
 have Z:Hid (∀(k:Nat)(x:AV n),us[k]?=some x->_=_+wtR n x/\wtR n x<=U/\wtL (wtR n) (us.take (k+1))<=U):=fun k x h =>
  ⟨Vd _ us k x h,by rw[<- z];exact Uq _ us x (Ae4 h),by rw[<- z];exact Tm _ _ _⟩
 have HK:Hid (wtL (wtR n) ks=K):=y;have HU:Hid (wtL (wtR n) us=U):=z;clear y z;have R1:Hid (Bm P w _ G g ks):=N;have Q1:Hid (Bm P w _ H j us):=M;have lk:g<=4294967296:=N.2.1;have lu:j<=4294967296:=M.2.1;clear N M;have X0:Hid ((w.alloc (.cells #[.int .i64 J,.int .i64 I,.string O,.slice G g L,.slice H j Q] 30)).heap[w.heap.size]?=_):=Af rfl;have T:Hid (Ac w (w.alloc (.cells #[.int .i64 J,.int .i64 I,.string O,.slice G g L,.slice H j Q] 30))):=(Ac.refl w).alloc _;have mo:=follows;go_enter func15,ntmps15
 go_wp2_with fail
 generalize w.alloc _=W0 at X0 T |-;go_loopw [3,4] (fun m i wr=>∃k:Nat,k<=g/\m=.int .i64 ((1+wtL (wtR n) (ks.take k):Nat):Int)/\i=.int .i64 k/\Hid (Ac w wr)/\Hid (wr.heap[w.heap.size]?=some (.cells #[.int .i64 J,.int .i64 I,.string O,.slice G g L,.slice H j Q] 30 (0,0)))) (fun _ i _=>g-(intOf i).toNat)
 case atStart=>exact⟨0,Ae1 _,by simp[wtL],rfl,T,X0⟩
 case round =>
  clear T X0;obtain⟨k,a0,rfl,rfl,l,o⟩:=hrel;have b3:=Ab o.out 3;have zb:=Aa o.out;by_cases t:k<g
  ·have F:k<ks.length:=by rw[<- R1.out.1];exact t
   obtain⟨p1,o1,rfl,u,_,c⟩:=R1.out.2.2.resolve_left (by omega);obtain⟨v1,f,d⟩:=c k ks[k] (List.getElem?_eq_getElem F);obtain⟨x0,x1,x2,x3,x4,rfl,g0,g1,g2,g3,g4⟩:=G5 l.out u f;obtain⟨p,B,r⟩:=X.out k ks[k] (List.getElem?_eq_getElem F);have b:Hid _:=fun(W:World) (hW:_)=>HC.out P W ks[k] _ (d.grew hW) (by omega);obtain⟨m,E⟩:∃m,wtL (wtR n) (ks.take k)=m:=⟨_,rfl⟩;rw[E] at p |-;have A:Hid _:=p;rw[p] at r;have S:m+wtR n ks[k]<=K:=r;have R:wtR n ks[k]<=K:=B;clear c f d E p B r;generalize wtR n ks[k]=q at b A R S;go_wp2_with (go_at_call 15;refine(b.out _ l.out).mono ?_;rintro e w' ⟨rfl,s⟩;have V:Hid (Ac w w'):=l.out.trans s;have X1:Hid (_=_):=Ac1 s.below o.out;clear s)
   go_roundw
   case rel=>exact⟨k+1,by omega,by rw[A.out];go_num,by go_num,V,X1⟩
   case measure=>simp[intOf];omega
  ·have a1:k=g:=by omega
   subst k;have Y:Hid (ks.take g=ks):=by show _=_;rw[R1.out.1];exact List.take_length
   rw[Y.out];rw[HK.out];have b4:=Ab o.out 4;go_wp2_with fail
   clear b3 b4;go_loopw [3,6] (fun m i wr=>∃k:Nat,k<=j/\m=.int .i64 ((1+K+wtL (wtR n) (us.take k):Nat):Int)/\i=.int .i64 k/\Hid (Ac w wr)/\Hid (wr.heap[w.heap.size]?=some (.cells #[.int .i64 J,.int .i64 I,.string O,.slice G g L,.slice H j Q] 30 (0,0)))) (fun _ i _=>j-(intOf i).toNat)
   case atStart=>exact⟨0,Ae1 _,by simp[wtL],rfl,l,o⟩
   case round =>
    clear l o zb;obtain⟨k,a0,rfl,rfl,l,o⟩:=hrel;have b4:=Ab o.out 4;have zb:=Aa o.out;by_cases t:k<j
    ·have F:k<us.length:=by rw[<- Q1.out.1];exact t
     obtain⟨p1,o1,rfl,u,_,c⟩:=Q1.out.2.2.resolve_left (by omega);obtain⟨v1,f,d⟩:=c k us[k] (List.getElem?_eq_getElem F);obtain⟨x0,x1,x2,x3,x4,rfl,g0,g1,g2,g3,g4⟩:=G5 l.out u f;obtain⟨p,B,r⟩:=Z.out k us[k] (List.getElem?_eq_getElem F);have b:Hid _:=fun(W:World) (hW:_)=>HC.out P W us[k] _ (d.grew hW) (by omega);obtain⟨m,E⟩:∃m,wtL (wtR n) (us.take k)=m:=⟨_,rfl⟩;rw[E] at p |-;have A:Hid _:=p;rw[p] at r;have S:m+wtR n us[k]<=U:=r;have R:wtR n us[k]<=U:=B;clear c f d E p B r;generalize wtR n us[k]=q at b A R S;go_wp2_with (go_at_call 15;refine(b.out _ l.out).mono ?_;rintro e w' ⟨rfl,s⟩;have V:Hid (Ac w w'):=l.out.trans s;have X1:Hid (_=_):=Ac1 s.below o.out;clear s)
     go_roundw
     case rel=>exact⟨k+1,by omega,by rw[A.out];go_num,by go_num,V,X1⟩
     case measure=>simp[intOf];omega
    ·have a2:k=j:=by omega
     subst k;have Y:Hid (us.take j=us):=by show _=_;rw[Q1.out.1];exact List.take_length
     rw[Y.out];rw[HU.out];go_wp2_with fail
     go_ret
     exact⟨rfl,l.out⟩
theorem N8:∀n,WtR n
 | 0=>fun _ _ a=>Empty.elim a
 | n+1=>aU n (N8 n)
def Bk:Value:=.agg #[.int .i64 0,.int .i64 0,.string ⟨#[]⟩,.slice none 0 0,.slice none 0 0]
theorem B9 {α:Type}(P:Nat->Prop)(w:World)(R:α->Value->Prop)(a:Option Addr):Bm P w R a 0 []:=⟨rfl,by omega,.inl rfl⟩
theorem N9 (P:Nat->Prop)(w:World)(n:Nat)(k:Nat)(i:Int)(s:ByteArray):Ref P w (n+1) (⟨k,i,s.data.toList,[],[]⟩:Ag (AV n)) (.agg #[.int .i64 k,.int .i64 i,.string s,.slice none 0 0,.slice none 0 0]) :=
 ⟨s,none,0,0,none,0,0,rfl,rfl,B9 P w _ none,B9 P w _ none,Ad9 _⟩
theorem Cm (P:Nat->Prop)(w:World)(n:Nat):Ref P w (n+1) (Ar:Ag (AV n)) Bk:=N9 P w n 0 0 ⟨#[]⟩
theorem O6 (P:Nat->Prop)(w:World)(n:Nat)(i:Int):Ref P w (n+1) (Cu i:Ag (AV n)) (.agg #[.int .i64 2,.int .i64 i,.string ⟨#[]⟩,.slice none 0 0,.slice none 0 0]):=N9 P w n 2 i ⟨#[]⟩
theorem Gq (i:Int)(w:World):Calls prog 86 #[.int .i64 i] w fun e w'=>e=.returned (.agg #[.int .i64 2,.int .i64 i,.string ⟨#[]⟩,.slice none 0 0,.slice none 0 0])/\Ac w w':=by
 go_enter func86,ntmps86
 go_wp2_with fail
 refine Ae2 (v:=.agg #[.int .i64 2,.int .i64 i,.string ⟨#[]⟩,.slice none 0 0,.slice none 0 0]) (by simp[results,results86,go_sem]) rfl ?_;exact⟨rfl,(Ac.refl w).alloc _⟩
theorem Ls (b:Bool)(w:World):Calls prog 88 #[.bool b] w fun e w'=>e=.returned (.agg #[.int .i64 1,.int .i64 (if b then 1 else 0),.string ⟨#[]⟩,.slice none 0 0,.slice none 0 0])/\Ac w w':=by
 cases b
 ·go_enter func88,ntmps88
  go_wp2_with fail
  refine Ae2 (v:=.agg #[.int .i64 1,.int .i64 0,.string ⟨#[]⟩,.slice none 0 0,.slice none 0 0]) (by simp[results,results88,go_sem]) rfl ?_;exact⟨rfl,(Ac.refl w).alloc _⟩
 ·go_enter func88,ntmps88
  go_wp2_with fail
  refine Ae2 (v:=.agg #[.int .i64 1,.int .i64 1,.string ⟨#[]⟩,.slice none 0 0,.slice none 0 0]) (by simp[results,results88,go_sem]) rfl ?_;exact⟨rfl,(Ac.refl w).alloc _⟩
def Ao (w:World)(b o:Nat)(c0 c1 c2 c3 c4:Value):World :=
 ((((w.setCell ⟨b,o,none⟩ c0).setCell ⟨b,o+1,none⟩ c1).setCell ⟨b,o+2,none⟩ c2).setCell ⟨b,o+3,none⟩ c3).setCell ⟨b,o+4,none⟩ c4
theorem Bc {w:World}{b:Nat}{v0 v1 v2 v3 v4:Value}{t:TypeId}(h:w.heap[b]?=some (.cells #[v0,v1,v2,v3,v4] t (0,0)))(c0 c1 c2 c3 c4:Value):(Ao w b 0 c0 c1 c2 c3 c4).heap[b]?=some (.cells #[c0,c1,c2,c3,c4] t (0,0)) :=
 Ai (Ai (Ai (Ai (Ai h 0 c0) 1 c1) 2 c2) 3 c3) 4 c4
theorem Lt {w w1:World}(h:Ac w w1){b:Nat}(hp:w.heap.size<=b)(o:Nat)(c0 c1 c2 c3 c4:Value):Ac w (Ao w1 b o c0 c1 c2 c3 c4) :=
 ((((h.setNew hp c0).setNew hp c1).setNew hp c2).setNew hp c3).setNew hp c4
theorem Cz {P:Nat->Prop}{a w:World}(h:Fr P a w){b:Nat}(hp:¬P b)(o:Nat)(c0 c1 c2 c3 c4:Value):Fr P a (Ao w b o c0 c1 c2 c3 c4) :=
 ((((h.set hp c0).set hp c1).set hp c2).set hp c3).set hp c4
theorem Lu (n:Nat)(P:Nat->Prop)(w:World)(a:AV (n+1))(v:Value)(ha:Ref P w (n+1) a v)(hb:wtR (n+1) a<=1099511627776) :
  Calls prog 85 #[v] w fun e w'=>e=.returned (if wtR (n+1) a<=1024 then v else Bk)/\Ac w w':=by
 have t:Hid _:=fun(W:World) (hW:_)=>N8 (n+1) P W a v (ha.grew hW) hb;obtain⟨g,c,f,d,h,j,i,rfl,_,_,_,_⟩:=ha;generalize wtR (n+1) a=q at t hb |-;generalize a.int=i0 at t |-;generalize a.kind=k0 at t |-;obtain⟨r,B⟩:∃r,(if q<=1024 then(Value.agg #[.int .i64 k0,.int .i64 i0,.string g,.slice c f d,.slice h j i]) else Bk)=r:=⟨_,rfl⟩;rw[B];have y:Hid (_=r):=B;clear B;have C:Hid (((w.alloc (.cells #[.int .i64 k0,.int .i64 i0,.string g,.slice c f d,.slice h j i] 30)).alloc (.cells #[.int .i64 0,.int .i64 0,.string ⟨#[]⟩,.slice none 0 0,.slice none 0 0] 30)).heap[w.heap.size]?=_) :=
  Ac1 ((Ac.refl _).alloc _).below (Af rfl)
 have D:Hid (((w.alloc (.cells #[.int .i64 k0,.int .i64 i0,.string g,.slice c f d,.slice h j i] 30)).alloc (.cells #[.int .i64 0,.int .i64 0,.string ⟨#[]⟩,.slice none 0 0,.slice none 0 0] 30)).heap[w.heap.size+1]?=_) :=
  Af (by simp)
 have x:Hid (Ac w ((w.alloc (.cells #[.int .i64 k0,.int .i64 i0,.string g,.slice c f d,.slice h j i] 30)).alloc (.cells #[.int .i64 0,.int .i64 0,.string ⟨#[]⟩,.slice none 0 0,.slice none 0 0] 30))):=((Ac.refl w).alloc _).alloc _;go_enter func85,ntmps85
 go_wp2_with fail
 generalize (w.alloc (.cells #[.int .i64 k0,.int .i64 i0,.string g,.slice c f d,.slice h j i] 30)).alloc _=W0 at x C D |-;refine(t.out W0 x.out).mono ?_;rintro e w' ⟨rfl,z⟩;have F:Hid (Ac w w'):=x.out.trans z;have S:Hid (_=_):=Ac1 z.below C.out;have u:Hid (_=_):=Ac1 z.below D.out;clear z C D x t;obtain⟨G,H,I,J,K⟩:=Ah S.out;obtain⟨k,l,m,o,p⟩:=Ah u.out;obtain⟨L,M,N,O,Q⟩:=Ax u.out;have T:=Aa S.out;have U:=Aa u.out;by_cases R:q<=1024
 ·have A:Hid (r=.agg #[.int .i64 k0,.int .i64 i0,.string g,.slice c f d,.slice h j i]):=by show _=_;rw[<- y.out,if_pos R]
  clear y;go_wp2_with fail
  have E:=Bc u.out (.int .i64 k0) (.int .i64 i0) (.string g) (.slice c f d) (.slice h j i);have s:=Lt F.out (b:=w.heap.size+1) (by omega) 0 (.int .i64 k0) (.int .i64 i0) (.string g) (.slice c f d) (.slice h j i);change bodyPost _ _ _ _ _ (Ao w' _ 0 _ _ _ _ _);clear G H I J K k l m o p L M N O Q;generalize Ao w' _ 0 _ _ _ _ _=WZ at E s |-;obtain⟨k,l,m,o,p⟩:=Ah E;rw[A.out];exact Ae2 (by simp[results,results85,go_sem,k,l,m,o,p]) rfl ⟨rfl,s⟩
 ·have A:Hid (r=Bk):=by show _=_;rw[<- y.out,if_neg R]
  clear y;go_wp2_with fail
  have E:=Bc u.out (.int .i64 0) (.int .i64 0) (.string ⟨#[]⟩) (.slice none 0 0) (.slice none 0 0);have s:=Lt F.out (b:=w.heap.size+1) (by omega) 0 (.int .i64 0) (.int .i64 0) (.string ⟨#[]⟩) (.slice none 0 0) (.slice none 0 0);change bodyPost _ _ _ _ _ (Ao w' _ 0 _ _ _ _ _);clear G H I J K k l m o p L M N O Q;generalize Ao w' _ 0 _ _ _ _ _=WZ at E s |-;obtain⟨k,l,m,o,p⟩:=Ah E;rw[A.out];exact Ae2 (by simp[results,results85,go_sem,k,l,m,o,p,Bk]) rfl ⟨rfl,s⟩
structure Mn (n:Nat)(es:List (AV n))(x:AV n)(i:Nat)(f:Bool):Prop where
 le:i<=es.length
 yes:f=true->es[i]?=some x
 no:f=false->∀(j:Nat)(y:AV n),es[j]?=some y->(j<i->Al n y x<0)/\(i<=j->0<Al n y x)
def Zh (n:Nat)(w:World)(es:List (AV n))(x:AV n)(e:Ending)(w':World):Prop:=∃(i:Nat)(f:Bool),e=.returned (.tuple #[.int .i64 i,.bool f])/\Ac w w'/\Mn n es x i f
theorem Mo {n:Nat}{es:List (AV n)}(h:Asc (Al n) es){i j:Nat}{x y:AV n}(hij:i<j)(hx:es[i]?=some x)(hy:es[j]?=some y):Al n x y<0:=by
 obtain⟨c,a⟩:=List.getElem?_eq_some_iff.1 hx;obtain⟨d,b⟩:=List.getElem?_eq_some_iff.1 hy;have:=List.pairwise_iff_getElem.1 h i j c d hij;rw[a,b] at this;exact this
theorem dK {n:Nat}{x y z:AV n}(h1:Al n x y<0)(h2:Al n y z<0):Al n x z<0:=Yo (ord n) h1 (by omega)
theorem nR (n:Nat)(P:Nat->Prop)(w:World)(a:Option Addr)(len cap:Nat)(es:List (AV n))(x:AV n)(v:Value)(h1:Bm P w (Ref P w n) a len es)(hx:Ref P w n x v)(hA:Asc (Al n) es)(hv:∃c0 c1 c2 c3 c4,v=.agg #[c0,c1,c2,c3,c4]) :
  Calls prog 83 #[.slice a len cap,v] w (Zh n w es x):=by
 obtain⟨S,b1,J⟩:=h1;have C:Hid (len=es.length):=S;clear S;obtain⟨K,L,M,N,O,rfl⟩:=hv;have HX:Hid _:=hx;have Q:Hid (Asc (Al n) es):=hA;clear hx hA;have mo:=follows;go_enter func83,ntmps83
 go_wp2_with fail
 have F:Hid ((w.alloc (.cells #[K,L,M,N,O] 30)).heap[w.heap.size]?=_):=Af rfl;have D:Hid (Ac w (w.alloc (.cells #[K,L,M,N,O] 30))):=(Ac.refl w).alloc _;generalize w.alloc _=W0 at F D |-;go_loopw [6,7] (fun s t wr=>∃(i j:Nat),s=.int .i64 i/\t=.int .i64 j/\i<=j/\j<=len/\Hid (∀(k:Nat)(y:AV n),es[k]?=some y->(k<i->Al n y x<0)/\(j<=k->0<Al n y x))/\Hid (Ac w wr)/\Hid (wr.heap[w.heap.size]?=some (.cells #[K,L,M,N,O] 30 (0,0)))) (fun s t _=>(intOf t).toNat-(intOf s).toNat)
 case atStart=>exact⟨0,len,rfl,rfl,Ae1 _,Ad9 _,fun k y hy=>⟨fun h=>by omega,fun h=>by
  have:=(List.getElem?_eq_some_iff.1 hy).1;have:=C.out;omega⟩,D,F⟩
 case round =>
  clear D F;obtain⟨i,j,rfl,rfl,a4,hj,E,f,d⟩:=hrel;by_cases a5:i<j
  ·obtain⟨h,hh⟩:∃h,h=(i+j) / 2:=⟨_,rfl⟩;have I:h<es.length:=by rw[<- C.out];omega
   obtain⟨p1,o1,rfl,o,_,m⟩:=J.resolve_left (by omega);have c:=List.getElem?_eq_getElem I;obtain⟨a6,r,p⟩:=m h es[h] c;obtain⟨x0,x1,x2,x3,x4,rfl,T,U,V,X,Y⟩:=G5 f.out o r;have u:=Ad8 o f.out.below.size;have z:=Aa d.out;have i0:=cell_grown u T;have i1:=cell_grown u U;have i2:=cell_grown u V;have i3:=cell_grown u X;have i4:=cell_grown u Y;have j0:=cell_grown z (Ab d.out 0);have j1:=cell_grown z (Ab d.out 1);have j2:=cell_grown z (Ab d.out 2);have j3:=cell_grown z (Ab d.out 3);have j4:=cell_grown z (Ab d.out 4);have ea:(((i:Int)+(j:Int)) / 2).toNat=h:=by omega
   have pa:(0:Int)<=((i:Int)+(j:Int)) / 2:=by omega
   have ba:((i:Int)+(j:Int)) / 2<(len:Int):=by omega
   have ra:IntKind.i64.wrap (((i:Int)+(j:Int)) / 2)=((i:Int)+(j:Int)) / 2:=by rw[IntKind.wrap_i64];omega
   have b:Hid _:=fun(W:World) (hW:_)=>Mm n P W es[h] x _ _ (p.grew hW) (HX.out.grew hW);have R:Hid (Al n es[h] x=0->es[h]?=some x):=fun e=>by rw[c,(Em n _ _).1 e]
   have l:Hid (Al n es[h] x<0->∀(k:Nat)(y:AV n),es[k]?=some y->(k<h+1->Al n y x<0)/\_):=fun e k y hy=>by
    refine⟨fun hk=>?_,(E.out k y hy).2⟩;by_cases q:k=h
    ·subst q;rw[c] at hy;rw[<- Option.some.inj hy];exact e
    ·exact dK (Mo Q.out (by omega) hy c) e
   have g:Hid (0<Al n es[h] x->∀(k:Nat)(y:AV n),es[k]?=some y->_/\(h<=k->0<Al n y x)):=fun e k y hy=>by
    refine⟨(E.out k y hy).1,fun hk=>?_⟩;by_cases q:k=h
    ·subst q;rw[c] at hy;rw[<- Option.some.inj hy];exact e
    ·have a1:=(ord n).anti es[h] x;have a2:=(ord n).anti y x;have:=dK (show Al n x es[h]<0 by omega) (Mo Q.out (show h<k by omega) c hy);omega
   clear m r p J T U V X Y;have a0:i<=h:=by omega
   have a3:h<j:=by omega
   have HH:Hid (h=(i+j) / 2):=hh;clear hh;generalize Al n es[h] x=cv at b R l g;go_wp2_with fail
   go_quiet_grown (first|(go_at_call 18;refine Ae3 (b.out _ (f.out.grown _ _))))
   have A:Hid (Ac w (grow (wr.drewN nq) osq)):=f.out.grown _ _;have B:Hid _:=Ac1 (Ac.below ⟨nq,osq,rfl⟩) d.out;show Exit.then _ _ _ _ (grow (wr.drewN nq) osq);clear i0 i1 i2 i3 i4 j0 j1 j2 j3 j4 b f d;generalize grow _ osq=W1 at A B |-;clear nq osq ea pa ba ra;have hr:((i:Int)+(j:Int)) / 2=(h:Int):=by have:=HH.out;omega
   by_cases Z:cv=0
   ·subst Z;go_wp2_with fail
    go_ret2
    exact⟨h,true,rfl,A.out,⟨by omega,fun _=>R.out trivial,fun e=>(by cases e)⟩⟩
   ·have hb:(cv==0)=false:=by simp[Z]
    by_cases G:cv<0
    ·have H:decide (cv<0)=true:=by simp[G]
     go_wp2_with fail
     go_roundw
     case rel=>exact⟨h+1,j,by go_num,rfl,by omega,by omega,l.out G,A,B⟩
     case measure=>simp[intOf];omega
    ·have H:decide (cv<0)=false:=by simp[G]
     go_wp2_with fail
     go_roundw
     case rel=>exact⟨i,h,rfl,by rw[hr],by omega,by omega,g.out (by omega),A,B⟩
     case measure=>simp[intOf];omega
  ·obtain rfl:i=j:=by omega
   clear J;go_wp2_with fail
   go_ret2
   exact⟨i,false,rfl,f.out,by rw[<- C.out];omega,fun e=>(by cases e),fun _=>E.out⟩
end Go.Proofs.YtdpeliifdlhhkaaGreatDoor.Sx
