/- The reference: signs between two parts, as text (the others). -/
import Derived.Test.YtjbfcadeapphbaaGreatDoorF39
namespace Go.Proofs.YtjbfcadeapphbaaGreatDoor.Sx
set_option maxRecDepth 100000
set_option maxHeartbeats 4000000
open Go.RowKit Go.Sort
theorem Q6 {P:Nat->Prop}{N:Nat}(hP:PrT N)(w:World)(be g off cap:Nat)(op:ByteArray)(nm:ByteArray)(a b:PX)(hn:ND P N w be op nm g off 2 cap [a,b])(ho:op=⟨#[108,101,97,100,115,116,111]⟩\/op=⟨#[117,110,116,105,108]⟩)(hl:(B8 op.data.toList a b).tx.length<=1000000000):Cg w be (B8 op.data.toList a b):=by
 have J:Hid (PrT N):=hP;have mo:=follows;obtain⟨c,i⟩:∃l,Al a 2=l:=⟨_,rfl⟩;have L0:Hid (Al a 2=c):=i;have q:=Bx a 2;rw[i] at q;obtain⟨p,j⟩:∃l,Al b 2=l:=⟨_,rfl⟩;have L1:Hid (Al b 2=p):=j;have r:=Bx b 2;rw[j] at r;have D:(B8 op.data.toList a b).tx=c++[32]++op.data.toList++[32]++p:=by rw[<- i,<- j];rcases ho with rfl|rfl<;>rfl
 rw[D] at hl;simp only[List.length_cons,List.length_append,List.length_nil] at hl;have I:Hid ((⟨c.toArray⟩:ByteArray)++⟨#[32]⟩++op++⟨#[32]⟩++⟨p.toArray⟩=⟨(B8 op.data.toList a b).tx.toArray⟩):=by show _=_;rw[D];exact ByteArray.ext (by simp[ByteArray.data_append])
 have E:op.data.toList.length=op.size:=by simp
 have x:Hid (ND P N w be _ nm g off 2 cap _):=hn;unfold Cg;have u:(((B8 op.data.toList a b).rk:Nat):Int)=1:=by rcases ho with rfl|rfl<;>rfl
 rw[u];clear u;generalize (B8 op.data.toList a b).tx=TT at I |-;clear D hn hP i j;have F:a.tx.length<=1000000000:=by omega
 have G:b.tx.length<=1000000000:=by omega
 have T:¬9223372036854775807<c.length+1:=by omega
 have U:¬9223372036854775807<c.length+1+5:=by omega
 have V:¬9223372036854775807<c.length+1+5+1:=by omega
 have W:¬9223372036854775807<c.length+1+5+1+p.length:=by omega
 have X:¬9223372036854775807<c.length+1:=by omega
 have Y:¬9223372036854775807<c.length+1+7:=by omega
 have Z:¬9223372036854775807<c.length+1+7+1:=by omega
 have a0:¬9223372036854775807<c.length+1+7+1+p.length:=by omega
 have L:¬9223372036854775807<c.length+6:=by omega
 have M:¬9223372036854775807<c.length+7:=by omega
 have O:¬9223372036854775807<c.length+7+p.length:=by omega
 have Q:¬9223372036854775807<c.length+8:=by omega
 have R:¬9223372036854775807<c.length+9:=by omega
 have S:¬9223372036854775807<c.length+9+p.length:=by omega
 clear hl q r E;rcases ho with rfl|rfl
 all_goals
  obtain⟨y,z,A,f,h⟩:=x.out.cells;obtain⟨v0,v,s⟩:=x.out.2.2.2 0 _ rfl;have k:Hid (Calls _ _ _ _ _):=J.out P w _ v0 2 s F (by omega);rw[L0.out] at k;clear s;rw[Nat.add_zero] at v;go_enter Tryz.func21,Tryz.ntmps21
  go_wp2_with fail
  refine k.out.mono ?_;rintro e C ⟨rfl,n⟩;have G1:Hid (Ad w C):=n;have d:Hid (ND P N C be _ nm g off _ cap _):=x.out.grew n;clear n y z A f h v k x;obtain⟨y,z,A,f,h⟩:=d.out.cells;obtain⟨v1,H,t⟩:=d.out.2.2.2 1 _ rfl;have m:Hid (Calls _ _ _ _ _):=J.out P C _ v1 2 t G (by omega);rw[L1.out] at m;clear t;go_wp2_with fail
  refine m.out.mono ?_;rintro e K ⟨rfl,o⟩;have G2:Hid (Ad w K):=G1.out.trans o;have B:Hid (ND P N K be _ nm g off _ cap _):=d.out.grew o;clear o y z A f h H m d;obtain⟨y,z,A,f,h⟩:=B.out.cells;go_wp2_with fail
  go_ret
  exact⟨congrArg (fun b=>Ending.returned (Value.string b)) I.out,G2.out⟩
theorem bE {P:Nat->Prop}{N:Nat}(hP:PrT N)(w:World)(be g off cap:Nat)  (nm:ByteArray) (a b:PX) (hn:ND P N w be ⟨#[105,102,102]⟩ nm g off 2 cap [a,b]) (hl:(B8 [105,102,102] a b).tx.length<=1000000000):Cg w be (B8 [105,102,102] a b):=by
 have I:Hid (PrT N):=hP;have Z:=follows;obtain⟨c,i⟩:∃l,Al a 2=l:=⟨_,rfl⟩;have V:Hid (Al a 2=c):=i;have p:=Bx a 2;rw[i] at p;obtain⟨v,j⟩:∃l,Al b 3=l:=⟨_,rfl⟩;have W:Hid (Al b 3=v):=j;have q:=Bx b 3;rw[j] at q;have D:(B8 [105,102,102] a b).tx=c++[32]++[105,102,102]++[32]++v:=by rw[<- i,<- j];rfl
 rw[D] at hl;simp only[List.length_cons,List.length_append,List.length_nil] at hl;have H:Hid ((⟨c.toArray⟩:ByteArray)++⟨#[32]⟩++⟨#[105,102,102]⟩++⟨#[32]⟩++⟨v.toArray⟩=⟨(B8 [105,102,102] a b).tx.toArray⟩):=by show _=_;rw[D];exact ByteArray.ext (by simp[ByteArray.data_append])
 have x:Hid (ND P N w be _ nm g off 2 cap _):=hn;unfold Cg;have t:(((B8 [105,102,102] a b).rk:Nat):Int)=2:=by rfl
 rw[t];clear t;generalize (B8 [105,102,102] a b).tx=TT at H |-;clear D hn hP i j;have E:a.tx.length<=1000000000:=by omega
 have F:b.tx.length<=1000000000:=by omega
 have O:¬9223372036854775807<c.length+1:=by omega
 have Q:¬9223372036854775807<c.length+1+3:=by omega
 have R:¬9223372036854775807<c.length+1+3+1:=by omega
 have S:¬9223372036854775807<c.length+1+3+1+v.length:=by omega
 have K:¬9223372036854775807<c.length+4:=by omega
 have L:¬9223372036854775807<c.length+5:=by omega
 have M:¬9223372036854775807<c.length+5+v.length:=by omega
 clear hl p q;obtain⟨y,z,A,f,h⟩:=x.out.cells;obtain⟨X,u,r⟩:=x.out.2.2.2 0 _ rfl;have k:Hid (Calls _ _ _ _ _):=I.out P w _ X 2 r E (by omega);rw[V.out] at k;clear r;rw[Nat.add_zero] at u;go_enter Tryz.func21,Tryz.ntmps21
 go_wp2_with fail
 refine k.out.mono ?_;rintro e C ⟨rfl,n⟩;have T:Hid (Ad w C):=n;have d:Hid (ND P N C be _ nm g off _ cap _):=x.out.grew n;clear n y z A f h u k x;obtain⟨y,z,A,f,h⟩:=d.out.cells;obtain⟨Y,G,s⟩:=d.out.2.2.2 1 _ rfl;have m:Hid (Calls _ _ _ _ _):=I.out P C _ Y 3 s F (by omega);rw[W.out] at m;clear s;go_wp2_with fail
 refine m.out.mono ?_;rintro e J ⟨rfl,o⟩;have U:Hid (Ad w J):=T.out.trans o;have B:Hid (ND P N J be _ nm g off _ cap _):=d.out.grew o;clear o y z A f h G m d;obtain⟨y,z,A,f,h⟩:=B.out.cells;go_wp2_with fail
 go_ret
 exact⟨congrArg (fun b=>Ending.returned (Value.string b)) H.out,U.out⟩
theorem bF {P:Nat->Prop}{N:Nat}(hP:PrT N)(w:World)(be g off cap:Nat)  (nm:ByteArray) (a b:PX) (hn:ND P N w be ⟨#[105,109,112,108,105,101,115]⟩ nm g off 2 cap [a,b]) (hl:(B8 [105,109,112,108,105,101,115] a b).tx.length<=1000000000):Cg w be (B8 [105,109,112,108,105,101,115] a b):=by
 have I:Hid (PrT N):=hP;have Z:=follows;obtain⟨c,i⟩:∃l,Al a 4=l:=⟨_,rfl⟩;have V:Hid (Al a 4=c):=i;have p:=Bx a 4;rw[i] at p;obtain⟨v,j⟩:∃l,Al b 3=l:=⟨_,rfl⟩;have W:Hid (Al b 3=v):=j;have q:=Bx b 3;rw[j] at q;have D:(B8 [105,109,112,108,105,101,115] a b).tx=c++[32]++[105,109,112,108,105,101,115]++[32]++v:=by rw[<- i,<- j];rfl
 rw[D] at hl;simp only[List.length_cons,List.length_append,List.length_nil] at hl;have H:Hid ((⟨c.toArray⟩:ByteArray)++⟨#[32]⟩++⟨#[105,109,112,108,105,101,115]⟩++⟨#[32]⟩++⟨v.toArray⟩=⟨(B8 [105,109,112,108,105,101,115] a b).tx.toArray⟩):=by show _=_;rw[D];exact ByteArray.ext (by simp[ByteArray.data_append])
 have x:Hid (ND P N w be _ nm g off 2 cap _):=hn;unfold Cg;have t:(((B8 [105,109,112,108,105,101,115] a b).rk:Nat):Int)=3:=by rfl
 rw[t];clear t;generalize (B8 [105,109,112,108,105,101,115] a b).tx=TT at H |-;clear D hn hP i j;have E:a.tx.length<=1000000000:=by omega
 have F:b.tx.length<=1000000000:=by omega
 have O:¬9223372036854775807<c.length+1:=by omega
 have Q:¬9223372036854775807<c.length+1+7:=by omega
 have R:¬9223372036854775807<c.length+1+7+1:=by omega
 have S:¬9223372036854775807<c.length+1+7+1+v.length:=by omega
 have K:¬9223372036854775807<c.length+8:=by omega
 have L:¬9223372036854775807<c.length+9:=by omega
 have M:¬9223372036854775807<c.length+9+v.length:=by omega
 clear hl p q;obtain⟨y,z,A,f,h⟩:=x.out.cells;obtain⟨X,u,r⟩:=x.out.2.2.2 0 _ rfl;have k:Hid (Calls _ _ _ _ _):=I.out P w _ X 4 r E (by omega);rw[V.out] at k;clear r;rw[Nat.add_zero] at u;go_enter Tryz.func21,Tryz.ntmps21
 go_wp2_with fail
 refine k.out.mono ?_;rintro e C ⟨rfl,n⟩;have T:Hid (Ad w C):=n;have d:Hid (ND P N C be _ nm g off _ cap _):=x.out.grew n;clear n y z A f h u k x;obtain⟨y,z,A,f,h⟩:=d.out.cells;obtain⟨Y,G,s⟩:=d.out.2.2.2 1 _ rfl;have m:Hid (Calls _ _ _ _ _):=I.out P C _ Y 3 s F (by omega);rw[W.out] at m;clear s;go_wp2_with fail
 refine m.out.mono ?_;rintro e J ⟨rfl,o⟩;have U:Hid (Ad w J):=T.out.trans o;have B:Hid (ND P N J be _ nm g off _ cap _):=d.out.grew o;clear o y z A f h G m d;obtain⟨y,z,A,f,h⟩:=B.out.cells;go_wp2_with fail
 go_ret
 exact⟨congrArg (fun b=>Ending.returned (Value.string b)) H.out,U.out⟩
theorem bG {P:Nat->Prop}{N:Nat}(hP:PrT N)(w:World)(be g off cap:Nat)  (nm:ByteArray) (a b:PX) (hn:ND P N w be ⟨#[111,114]⟩ nm g off 2 cap [a,b]) (hl:(B8 [111,114] a b).tx.length<=1000000000):Cg w be (B8 [111,114] a b):=by
 have I:Hid (PrT N):=hP;have Z:=follows;obtain⟨c,i⟩:∃l,Al a 4=l:=⟨_,rfl⟩;have V:Hid (Al a 4=c):=i;have p:=Bx a 4;rw[i] at p;obtain⟨v,j⟩:∃l,Al b 5=l:=⟨_,rfl⟩;have W:Hid (Al b 5=v):=j;have q:=Bx b 5;rw[j] at q;have D:(B8 [111,114] a b).tx=c++[32]++[111,114]++[32]++v:=by rw[<- i,<- j];rfl
 rw[D] at hl;simp only[List.length_cons,List.length_append,List.length_nil] at hl;have H:Hid ((⟨c.toArray⟩:ByteArray)++⟨#[32]⟩++⟨#[111,114]⟩++⟨#[32]⟩++⟨v.toArray⟩=⟨(B8 [111,114] a b).tx.toArray⟩):=by show _=_;rw[D];exact ByteArray.ext (by simp[ByteArray.data_append])
 have x:Hid (ND P N w be _ nm g off 2 cap _):=hn;unfold Cg;have t:(((B8 [111,114] a b).rk:Nat):Int)=4:=by rfl
 rw[t];clear t;generalize (B8 [111,114] a b).tx=TT at H |-;clear D hn hP i j;have E:a.tx.length<=1000000000:=by omega
 have F:b.tx.length<=1000000000:=by omega
 have O:¬9223372036854775807<c.length+1:=by omega
 have Q:¬9223372036854775807<c.length+1+2:=by omega
 have R:¬9223372036854775807<c.length+1+2+1:=by omega
 have S:¬9223372036854775807<c.length+1+2+1+v.length:=by omega
 have K:¬9223372036854775807<c.length+3:=by omega
 have L:¬9223372036854775807<c.length+4:=by omega
 have M:¬9223372036854775807<c.length+4+v.length:=by omega
 clear hl p q;obtain⟨y,z,A,f,h⟩:=x.out.cells;obtain⟨X,u,r⟩:=x.out.2.2.2 0 _ rfl;have k:Hid (Calls _ _ _ _ _):=I.out P w _ X 4 r E (by omega);rw[V.out] at k;clear r;rw[Nat.add_zero] at u;go_enter Tryz.func21,Tryz.ntmps21
 go_wp2_with fail
 refine k.out.mono ?_;rintro e C ⟨rfl,n⟩;have T:Hid (Ad w C):=n;have d:Hid (ND P N C be _ nm g off _ cap _):=x.out.grew n;clear n y z A f h u k x;obtain⟨y,z,A,f,h⟩:=d.out.cells;obtain⟨Y,G,s⟩:=d.out.2.2.2 1 _ rfl;have m:Hid (Calls _ _ _ _ _):=I.out P C _ Y 5 s F (by omega);rw[W.out] at m;clear s;go_wp2_with fail
 refine m.out.mono ?_;rintro e J ⟨rfl,o⟩;have U:Hid (Ad w J):=T.out.trans o;have B:Hid (ND P N J be _ nm g off _ cap _):=d.out.grew o;clear o y z A f h G m d;obtain⟨y,z,A,f,h⟩:=B.out.cells;go_wp2_with fail
 go_ret
 exact⟨congrArg (fun b=>Ending.returned (Value.string b)) H.out,U.out⟩
theorem bH {P:Nat->Prop}{N:Nat}(hP:PrT N)(w:World)(be g off cap:Nat)  (nm:ByteArray) (a b:PX) (hn:ND P N w be ⟨#[97,110,100]⟩ nm g off 2 cap [a,b]) (hl:(B8 [97,110,100] a b).tx.length<=1000000000):Cg w be (B8 [97,110,100] a b):=by
 have I:Hid (PrT N):=hP;have Z:=follows;obtain⟨c,i⟩:∃l,Al a 5=l:=⟨_,rfl⟩;have V:Hid (Al a 5=c):=i;have p:=Bx a 5;rw[i] at p;obtain⟨v,j⟩:∃l,Al b 6=l:=⟨_,rfl⟩;have W:Hid (Al b 6=v):=j;have q:=Bx b 6;rw[j] at q;have D:(B8 [97,110,100] a b).tx=c++[32]++[97,110,100]++[32]++v:=by rw[<- i,<- j];rfl
 rw[D] at hl;simp only[List.length_cons,List.length_append,List.length_nil] at hl;have H:Hid ((⟨c.toArray⟩:ByteArray)++⟨#[32]⟩++⟨#[97,110,100]⟩++⟨#[32]⟩++⟨v.toArray⟩=⟨(B8 [97,110,100] a b).tx.toArray⟩):=by show _=_;rw[D];exact ByteArray.ext (by simp[ByteArray.data_append])
 have x:Hid (ND P N w be _ nm g off 2 cap _):=hn;unfold Cg;have t:(((B8 [97,110,100] a b).rk:Nat):Int)=5:=by rfl
 rw[t];clear t;generalize (B8 [97,110,100] a b).tx=TT at H |-;clear D hn hP i j;have E:a.tx.length<=1000000000:=by omega
 have F:b.tx.length<=1000000000:=by omega
 have O:¬9223372036854775807<c.length+1:=by omega
 have Q:¬9223372036854775807<c.length+1+3:=by omega
 have R:¬9223372036854775807<c.length+1+3+1:=by omega
 have S:¬9223372036854775807<c.length+1+3+1+v.length:=by omega
 have K:¬9223372036854775807<c.length+4:=by omega
 have L:¬9223372036854775807<c.length+5:=by omega
 have M:¬9223372036854775807<c.length+5+v.length:=by omega
 clear hl p q;obtain⟨y,z,A,f,h⟩:=x.out.cells;obtain⟨X,u,r⟩:=x.out.2.2.2 0 _ rfl;have k:Hid (Calls _ _ _ _ _):=I.out P w _ X 5 r E (by omega);rw[V.out] at k;clear r;rw[Nat.add_zero] at u;go_enter Tryz.func21,Tryz.ntmps21
 go_wp2_with fail
 refine k.out.mono ?_;rintro e C ⟨rfl,n⟩;have T:Hid (Ad w C):=n;have d:Hid (ND P N C be _ nm g off _ cap _):=x.out.grew n;clear n y z A f h u k x;obtain⟨y,z,A,f,h⟩:=d.out.cells;obtain⟨Y,G,s⟩:=d.out.2.2.2 1 _ rfl;have m:Hid (Calls _ _ _ _ _):=I.out P C _ Y 6 s F (by omega);rw[W.out] at m;clear s;go_wp2_with fail
 refine m.out.mono ?_;rintro e J ⟨rfl,o⟩;have U:Hid (Ad w J):=T.out.trans o;have B:Hid (ND P N J be _ nm g off _ cap _):=d.out.grew o;clear o y z A f h G m d;obtain⟨y,z,A,f,h⟩:=B.out.cells;go_wp2_with fail
 go_ret
 exact⟨congrArg (fun b=>Ending.returned (Value.string b)) H.out,U.out⟩
theorem bI {P:Nat->Prop}{N:Nat}(hP:PrT N)(w:World)(be g off cap:Nat)  (nm:ByteArray) (a b:PX) (hn:ND P N w be ⟨#[45,62]⟩ nm g off 2 cap [a,b]) (hl:(B8 [45,62] a b).tx.length<=1000000000):Cg w be (B8 [45,62] a b):=by
 have I:Hid (PrT N):=hP;have Z:=follows;obtain⟨c,i⟩:∃l,Al a 9=l:=⟨_,rfl⟩;have V:Hid (Al a 9=c):=i;have p:=Bx a 9;rw[i] at p;obtain⟨v,j⟩:∃l,Al b 9=l:=⟨_,rfl⟩;have W:Hid (Al b 9=v):=j;have q:=Bx b 9;rw[j] at q;have D:(B8 [45,62] a b).tx=c++[32]++[45,62]++[32]++v:=by rw[<- i,<- j];rfl
 rw[D] at hl;simp only[List.length_cons,List.length_append,List.length_nil] at hl;have H:Hid ((⟨c.toArray⟩:ByteArray)++⟨#[32]⟩++⟨#[45,62]⟩++⟨#[32]⟩++⟨v.toArray⟩=⟨(B8 [45,62] a b).tx.toArray⟩):=by show _=_;rw[D];exact ByteArray.ext (by simp[ByteArray.data_append])
 have x:Hid (ND P N w be _ nm g off 2 cap _):=hn;unfold Cg;have t:(((B8 [45,62] a b).rk:Nat):Int)=8:=by rfl
 rw[t];clear t;generalize (B8 [45,62] a b).tx=TT at H |-;clear D hn hP i j;have E:a.tx.length<=1000000000:=by omega
 have F:b.tx.length<=1000000000:=by omega
 have O:¬9223372036854775807<c.length+1:=by omega
 have Q:¬9223372036854775807<c.length+1+2:=by omega
 have R:¬9223372036854775807<c.length+1+2+1:=by omega
 have S:¬9223372036854775807<c.length+1+2+1+v.length:=by omega
 have K:¬9223372036854775807<c.length+3:=by omega
 have L:¬9223372036854775807<c.length+4:=by omega
 have M:¬9223372036854775807<c.length+4+v.length:=by omega
 clear hl p q;obtain⟨y,z,A,f,h⟩:=x.out.cells;obtain⟨X,u,r⟩:=x.out.2.2.2 0 _ rfl;have k:Hid (Calls _ _ _ _ _):=I.out P w _ X 9 r E (by omega);rw[V.out] at k;clear r;rw[Nat.add_zero] at u;go_enter Tryz.func21,Tryz.ntmps21
 go_wp2_with fail
 refine k.out.mono ?_;rintro e C ⟨rfl,n⟩;have T:Hid (Ad w C):=n;have d:Hid (ND P N C be _ nm g off _ cap _):=x.out.grew n;clear n y z A f h u k x;obtain⟨y,z,A,f,h⟩:=d.out.cells;obtain⟨Y,G,s⟩:=d.out.2.2.2 1 _ rfl;have m:Hid (Calls _ _ _ _ _):=I.out P C _ Y 9 s F (by omega);rw[W.out] at m;clear s;go_wp2_with fail
 refine m.out.mono ?_;rintro e J ⟨rfl,o⟩;have U:Hid (Ad w J):=T.out.trans o;have B:Hid (ND P N J be _ nm g off _ cap _):=d.out.grew o;clear o y z A f h G m d;obtain⟨y,z,A,f,h⟩:=B.out.cells;go_wp2_with fail
 go_ret
 exact⟨congrArg (fun b=>Ending.returned (Value.string b)) H.out,U.out⟩
theorem bJ {P:Nat->Prop}{N:Nat}(hP:PrT N)(w:World)(be g off cap:Nat)  (nm:ByteArray) (a b:PX) (hn:ND P N w be ⟨#[46,46]⟩ nm g off 2 cap [a,b]) (hl:(B8 [46,46] a b).tx.length<=1000000000):Cg w be (B8 [46,46] a b):=by
 have I:Hid (PrT N):=hP;have Z:=follows;obtain⟨c,i⟩:∃l,Al a 10=l:=⟨_,rfl⟩;have V:Hid (Al a 10=c):=i;have p:=Bx a 10;rw[i] at p;obtain⟨v,j⟩:∃l,Al b 10=l:=⟨_,rfl⟩;have W:Hid (Al b 10=v):=j;have q:=Bx b 10;rw[j] at q;have D:(B8 [46,46] a b).tx=c++[32]++[46,46]++[32]++v:=by rw[<- i,<- j];rfl
 rw[D] at hl;simp only[List.length_cons,List.length_append,List.length_nil] at hl;have H:Hid ((⟨c.toArray⟩:ByteArray)++⟨#[32]⟩++⟨#[46,46]⟩++⟨#[32]⟩++⟨v.toArray⟩=⟨(B8 [46,46] a b).tx.toArray⟩):=by show _=_;rw[D];exact ByteArray.ext (by simp[ByteArray.data_append])
 have x:Hid (ND P N w be _ nm g off 2 cap _):=hn;unfold Cg;have t:(((B8 [46,46] a b).rk:Nat):Int)=9:=by rfl
 rw[t];clear t;generalize (B8 [46,46] a b).tx=TT at H |-;clear D hn hP i j;have E:a.tx.length<=1000000000:=by omega
 have F:b.tx.length<=1000000000:=by omega
 have O:¬9223372036854775807<c.length+1:=by omega
 have Q:¬9223372036854775807<c.length+1+2:=by omega
 have R:¬9223372036854775807<c.length+1+2+1:=by omega
 have S:¬9223372036854775807<c.length+1+2+1+v.length:=by omega
 have K:¬9223372036854775807<c.length+3:=by omega
 have L:¬9223372036854775807<c.length+4:=by omega
 have M:¬9223372036854775807<c.length+4+v.length:=by omega
 clear hl p q;obtain⟨y,z,A,f,h⟩:=x.out.cells;obtain⟨X,u,r⟩:=x.out.2.2.2 0 _ rfl;have k:Hid (Calls _ _ _ _ _):=I.out P w _ X 10 r E (by omega);rw[V.out] at k;clear r;rw[Nat.add_zero] at u;go_enter Tryz.func21,Tryz.ntmps21
 go_wp2_with fail
 refine k.out.mono ?_;rintro e C ⟨rfl,n⟩;have T:Hid (Ad w C):=n;have d:Hid (ND P N C be _ nm g off _ cap _):=x.out.grew n;clear n y z A f h u k x;obtain⟨y,z,A,f,h⟩:=d.out.cells;obtain⟨Y,G,s⟩:=d.out.2.2.2 1 _ rfl;have m:Hid (Calls _ _ _ _ _):=I.out P C _ Y 10 s F (by omega);rw[W.out] at m;clear s;go_wp2_with fail
 refine m.out.mono ?_;rintro e J ⟨rfl,o⟩;have U:Hid (Ad w J):=T.out.trans o;have B:Hid (ND P N J be _ nm g off _ cap _):=d.out.grew o;clear o y z A f h G m d;obtain⟨y,z,A,f,h⟩:=B.out.cells;go_wp2_with fail
 go_ret
 exact⟨congrArg (fun b=>Ending.returned (Value.string b)) H.out,U.out⟩
end Go.Proofs.YtjbfcadeapphbaaGreatDoor.Sx
