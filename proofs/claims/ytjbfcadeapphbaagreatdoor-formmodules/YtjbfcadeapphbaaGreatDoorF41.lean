/- The reference: signs between two parts, as text. -/
import Derived.Test.YtjbfcadeapphbaaGreatDoorF39
namespace Go.Proofs.YtjbfcadeapphbaaGreatDoor.Sx
set_option maxRecDepth 100000
set_option maxHeartbeats 4000000
open Go.RowKit Go.Sort
theorem Fw {P:Nat->Prop}{N:Nat}(hP:PrT N)(w:World)(be g off cap:Nat)(op:ByteArray)(nm:ByteArray)(a b:PX)(hn:ND P N w be op nm g off 2 cap [a,b])(ho:op=⟨#[61]⟩\/op=⟨#[47,61]⟩\/op=⟨#[60]⟩\/op=⟨#[60,61]⟩\/op=⟨#[62]⟩\/op=⟨#[62,61]⟩\/op=⟨#[105,110]⟩\/op=⟨#[115,117,98,115,101,116]⟩)(hl:(B8 op.data.toList a b).tx.length<=1000000000):Cg w be (B8 op.data.toList a b):=by
 have J:Hid (PrT N):=hP;have mo:=follows;obtain⟨c,i⟩:∃l,Al a 8=l:=⟨_,rfl⟩;have L0:Hid (Al a 8=c):=i;have q:=Bx a 8;rw[i] at q;obtain⟨k,j⟩:∃l,Al b 8=l:=⟨_,rfl⟩;have L1:Hid (Al b 8=k):=j;have r:=Bx b 8;rw[j] at r;have D:(B8 op.data.toList a b).tx=c++[32]++op.data.toList++[32]++k:=by rw[<- i,<- j];rcases ho with rfl|rfl|rfl|rfl|rfl|rfl|rfl|rfl<;>rfl
 rw[D] at hl;simp only[List.length_cons,List.length_append,List.length_nil] at hl;have I:Hid ((⟨c.toArray⟩:ByteArray)++⟨#[32]⟩++op++⟨#[32]⟩++⟨k.toArray⟩=⟨(B8 op.data.toList a b).tx.toArray⟩):=by show _=_;rw[D];exact ByteArray.ext (by simp[ByteArray.data_append])
 have E:op.data.toList.length=op.size:=by simp
 have x:Hid (ND P N w be _ nm g off 2 cap _):=hn;unfold Cg;have u:(((B8 op.data.toList a b).rk:Nat):Int)=7:=by rcases ho with rfl|rfl|rfl|rfl|rfl|rfl|rfl|rfl<;>rfl
 rw[u];clear u;generalize (B8 op.data.toList a b).tx=TT at I |-;clear D hn hP i j;have F:a.tx.length<=1000000000:=by omega
 have G:b.tx.length<=1000000000:=by omega
 have W:¬9223372036854775807<c.length+1:=by omega
 have X:¬9223372036854775807<c.length+1+1:=by omega
 have Y:¬9223372036854775807<c.length+1+1+1:=by omega
 have Z:¬9223372036854775807<c.length+1+1+1+k.length:=by omega
 have a0:¬9223372036854775807<c.length+1:=by omega
 have a1:¬9223372036854775807<c.length+1+2:=by omega
 have a2:¬9223372036854775807<c.length+1+2+1:=by omega
 have a3:¬9223372036854775807<c.length+1+2+1+k.length:=by omega
 have a4:¬9223372036854775807<c.length+1:=by omega
 have a5:¬9223372036854775807<c.length+1+6:=by omega
 have a6:¬9223372036854775807<c.length+1+6+1:=by omega
 have a7:¬9223372036854775807<c.length+1+6+1+k.length:=by omega
 have L:¬9223372036854775807<c.length+2:=by omega
 have M:¬9223372036854775807<c.length+3:=by omega
 have O:¬9223372036854775807<c.length+3+k.length:=by omega
 have Q:¬9223372036854775807<c.length+3:=by omega
 have R:¬9223372036854775807<c.length+4:=by omega
 have S:¬9223372036854775807<c.length+4+k.length:=by omega
 have T:¬9223372036854775807<c.length+7:=by omega
 have U:¬9223372036854775807<c.length+8:=by omega
 have V:¬9223372036854775807<c.length+8+k.length:=by omega
 clear hl q r E;rcases ho with rfl|rfl|rfl|rfl|rfl|rfl|rfl|rfl
 all_goals
  obtain⟨y,z,A,f,h⟩:=x.out.cells;obtain⟨v0,v,s⟩:=x.out.2.2.2 0 _ rfl;have m:Hid (Calls _ _ _ _ _):=J.out P w _ v0 8 s F (by omega);rw[L0.out] at m;clear s;rw[Nat.add_zero] at v;go_enter Tryz.func21,Tryz.ntmps21
  go_wp2_with fail
  refine m.out.mono ?_;rintro e C ⟨rfl,o⟩;have G1:Hid (Ad w C):=o;have d:Hid (ND P N C be _ nm g off _ cap _):=x.out.grew o;clear o y z A f h v m x;obtain⟨y,z,A,f,h⟩:=d.out.cells;obtain⟨v1,H,t⟩:=d.out.2.2.2 1 _ rfl;have n:Hid (Calls _ _ _ _ _):=J.out P C _ v1 8 t G (by omega);rw[L1.out] at n;clear t;go_wp2_with fail
  refine n.out.mono ?_;rintro e K ⟨rfl,p⟩;have G2:Hid (Ad w K):=G1.out.trans p;have B:Hid (ND P N K be _ nm g off _ cap _):=d.out.grew p;clear p y z A f h H n d;obtain⟨y,z,A,f,h⟩:=B.out.cells;go_wp2_with fail
  go_ret
  exact⟨congrArg (fun b=>Ending.returned (Value.string b)) I.out,G2.out⟩
end Go.Proofs.YtjbfcadeapphbaaGreatDoor.Sx
