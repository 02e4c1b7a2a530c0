/- The reference: choices and bindings, as text. -/
import Derived.Test.YtjbfcadeapphbaaGreatDoorF39
namespace Go.Proofs.YtjbfcadeapphbaaGreatDoor.Sx
set_option maxRecDepth 100000
set_option maxHeartbeats 1000000
open Go.RowKit Go.Sort
theorem iM {P:Nat->Prop}{N:Nat}(hP:PrT N)(w:World)(be g off cap:Nat)  (nm:ByteArray) (a b c:PX) (hn:ND P N w be ⟨#[105,102]⟩ nm g off 3 cap [a,b,c]) (hl:(dIf a b c).tx.length<=1000000000):Cg w be (dIf a b c):=by
 have J:Hid (PrT N):=hP;have mo:=follows;obtain⟨n,j⟩:∃l,Al a 0=l:=⟨_,rfl⟩;have Z:Hid (Al a 0=n):=j;have z:=Bx a 0;rw[j] at z;obtain⟨y,k⟩:∃l,Al b 0=l:=⟨_,rfl⟩;have L1:Hid (Al b 0=y):=k;have A:=Bx b 0;rw[k] at A;obtain⟨H,m⟩:∃l,Al c 0=l:=⟨_,rfl⟩;have L2:Hid (Al c 0=H):=m;have B:=Bx c 0;rw[m] at B;have M:(dIf a b c).tx=[105,102,32]++n++[32,116,104,101,110,32]++y++[32,101,108,115,101,32]++H:=by rw[<- j,<- k,<- m,Hx,Hx,Hx];rfl
 rw[M] at hl;simp only[List.length_cons,List.length_append,List.length_nil] at hl;have U:Hid ((⟨#[105,102,32]⟩:ByteArray)++⟨n.toArray⟩++⟨#[32,116,104,101,110,32]⟩++⟨y.toArray⟩++⟨#[32,101,108,115,101,32]⟩++⟨H.toArray⟩=⟨(dIf a b c).tx.toArray⟩):=by show _=_;rw[M];exact ByteArray.ext (by simp[ByteArray.data_append])
 have G:Hid (ND P N w be _ nm g off 3 cap _):=hn;unfold Cg;generalize (((dIf a b c).rk:Nat):Int)=rk;generalize (dIf a b c).tx=TT at U |-;clear M hn hP j k m;have O:a.tx.length<=1000000000:=by omega
 have Q:b.tx.length<=1000000000:=by omega
 have R:c.tx.length<=1000000000:=by omega
 have a0:¬9223372036854775807<3+n.length:=by omega
 have a1:¬9223372036854775807<3+n.length+6:=by omega
 have a2:¬9223372036854775807<3+n.length+6+y.length:=by omega
 have a3:¬9223372036854775807<3+n.length+6+y.length+6:=by omega
 have a4:¬9223372036854775807<3+n.length+6+y.length+6+H.length:=by omega
 clear hl z A B;obtain⟨u,v,x,d,f⟩:=G.out.cells;obtain⟨v0,F,C⟩:=G.out.2.2.2 0 _ rfl;have o:Hid (Calls _ _ _ _ _):=J.out P w _ v0 0 C O (by omega);rw[Z.out] at o;clear C;rw[Nat.add_zero] at F;go_enter Tryz.func21,Tryz.ntmps21
 go_wp2_with fail
 refine o.out.mono ?_;rintro e K ⟨rfl,r⟩;have W:Hid (Ad w K):=r;have h:Hid (ND P N K be _ nm g off _ cap _):=G.out.grew r;clear r u v x d f F o G;obtain⟨u,v,x,d,f⟩:=h.out.cells;obtain⟨v1,S,D⟩:=h.out.2.2.2 1 _ rfl;have p:Hid (Calls _ _ _ _ _):=J.out P K _ v1 0 D Q (by omega);rw[L1.out] at p;clear D;go_wp2_with fail
 refine p.out.mono ?_;rintro e L ⟨rfl,s⟩;have X:Hid (Ad w L):=W.out.trans s;have i:Hid (ND P N L be _ nm g off _ cap _):=h.out.grew s;clear s u v x d f S p h;obtain⟨u,v,x,d,f⟩:=i.out.cells;obtain⟨v2,T,E⟩:=i.out.2.2.2 2 _ rfl;have q:Hid (Calls _ _ _ _ _):=J.out P L _ v2 0 E R (by omega);rw[L2.out] at q;clear E;go_wp2_with fail
 refine q.out.mono ?_;rintro e V ⟨rfl,t⟩;have Y:Hid (Ad w V):=X.out.trans t;have I:Hid (ND P N V be _ nm g off _ cap _):=i.out.grew t;clear t u v x d f T q i;obtain⟨u,v,x,d,f⟩:=I.out.cells;go_wp2_with fail
 go_ret
 exact⟨congrArg (fun b=>Ending.returned (Value.string b)) U.out,Y.out⟩
theorem eW {P:Nat->Prop}{N:Nat}(hP:PrT N)(w:World)(be g off cap:Nat)  (nm:ByteArray) (a b:PX) (hn:ND P N w be ⟨#[108,101,116]⟩ nm g off 2 cap [a,b]) (hl:(Kh nm.data.toList a b).tx.length<=1000000000):Cg w be (Kh nm.data.toList a b):=by
 have I:Hid (PrT N):=hP;have X:=follows;obtain⟨o,h⟩:∃l,Al a 0=l:=⟨_,rfl⟩;have M:Hid (Al a 0=o):=h;have p:=Bx a 0;rw[h] at p;obtain⟨z,i⟩:∃l,Al b 0=l:=⟨_,rfl⟩;have O:Hid (Al b 0=z):=i;have q:=Bx b 0;rw[i] at q;have C:(Kh nm.data.toList a b).tx=[108,101,116,32]++nm.data.toList++[32,61,32]++o++[32,58,32]++z:=by rw[<- h,<- i,Hx,Hx];rfl
 rw[C] at hl;simp only[List.length_cons,List.length_append,List.length_nil] at hl;have H:Hid ((⟨#[108,101,116,32]⟩:ByteArray)++nm++⟨#[32,61,32]⟩++⟨o.toArray⟩++⟨#[32,58,32]⟩++⟨z.toArray⟩=⟨(Kh nm.data.toList a b).tx.toArray⟩):=by show _=_;rw[C];exact ByteArray.ext (by simp[ByteArray.data_append])
 have D:nm.data.toList.length=nm.size:=by simp
 have u:Hid (ND P N w be _ nm g off 2 cap _):=hn;unfold Cg;generalize (((Kh nm.data.toList a b).rk:Nat):Int)=rk;generalize (Kh nm.data.toList a b).tx=TT at H |-;clear C hn hP h i;have E:a.tx.length<=1000000000:=by omega
 have F:b.tx.length<=1000000000:=by omega
 have Q:¬9223372036854775807<4+nm.size:=by omega
 have R:¬9223372036854775807<4+nm.size+3:=by omega
 have S:¬9223372036854775807<4+nm.size+3+o.length:=by omega
 have T:¬9223372036854775807<4+nm.size+3+o.length+3:=by omega
 have U:¬9223372036854775807<4+nm.size+3+o.length+3+z.length:=by omega
 clear hl p q D;obtain⟨v,x,y,d,f⟩:=u.out.cells;obtain⟨V,t,r⟩:=u.out.2.2.2 0 _ rfl;have j:Hid (Calls _ _ _ _ _):=I.out P w _ V 0 r E (by omega);rw[M.out] at j;clear r;rw[Nat.add_zero] at t;go_enter Tryz.func21,Tryz.ntmps21
 go_wp2_with fail
 refine j.out.mono ?_;rintro e B ⟨rfl,m⟩;have K:Hid (Ad w B):=m;have c:Hid (ND P N B be _ nm g off _ cap _):=u.out.grew m;clear m v x y d f t j u;obtain⟨v,x,y,d,f⟩:=c.out.cells;obtain⟨W,G,s⟩:=c.out.2.2.2 1 _ rfl;have k:Hid (Calls _ _ _ _ _):=I.out P B _ W 0 s F (by omega);rw[O.out] at k;clear s;go_wp2_with fail
 refine k.out.mono ?_;rintro e J ⟨rfl,n⟩;have L:Hid (Ad w J):=K.out.trans n;have A:Hid (ND P N J be _ nm g off _ cap _):=c.out.grew n;clear n v x y d f G k c;obtain⟨v,x,y,d,f⟩:=A.out.cells;go_wp2_with fail
 go_ret
 exact⟨congrArg (fun b=>Ending.returned (Value.string b)) H.out,L.out⟩
theorem Yc {P:Nat->Prop}{N:Nat}(hP:PrT N)(w:World)(be g off cap:Nat)(op:ByteArray)(nm:ByteArray)(a b:PX)(hn:ND P N w be op nm g off 2 cap [a,b])(ho:op=⟨#[97,108,108]⟩\/op=⟨#[115,111,109,101]⟩\/op=⟨#[99,104,111,111,115,101]⟩)(hl:(C7 op.data.toList nm.data.toList a b).tx.length<=1000000000):Cg w be (C7 op.data.toList nm.data.toList a b):=by
 have J:Hid (PrT N):=hP;have mo:=follows;obtain⟨c,i⟩:∃l,Al a 8=l:=⟨_,rfl⟩;have L0:Hid (Al a 8=c):=i;have q:=Bx a 8;rw[i] at q;obtain⟨p,j⟩:∃l,Al b 0=l:=⟨_,rfl⟩;have L1:Hid (Al b 0=p):=j;have r:=Bx b 0;rw[j] at r;have C:(C7 op.data.toList nm.data.toList a b).tx=op.data.toList++[32]++nm.data.toList++[32,105,110,32]++c++[32,58,32]++p:=by rw[<- i,<- j,Hx];rcases ho with rfl|rfl|rfl<;>rfl
 rw[C] at hl;simp only[List.length_cons,List.length_append,List.length_nil] at hl;have I:Hid ((op:ByteArray)++⟨#[32]⟩++nm++⟨#[32,105,110,32]⟩++⟨c.toArray⟩++⟨#[32,58,32]⟩++⟨p.toArray⟩=⟨(C7 op.data.toList nm.data.toList a b).tx.toArray⟩):=by show _=_;rw[C];exact ByteArray.ext (by simp[ByteArray.data_append])
 have D:nm.data.toList.length=nm.size:=by simp
 have E:op.data.toList.length=op.size:=by simp
 have v:Hid (ND P N w be _ nm g off 2 cap _):=hn;unfold Cg;generalize (((C7 op.data.toList nm.data.toList a b).rk:Nat):Int)=rk;generalize (C7 op.data.toList nm.data.toList a b).tx=TT at I |-;clear C hn hP i j;have F:a.tx.length<=1000000000:=by omega
 have G:b.tx.length<=1000000000:=by omega
 have L:¬9223372036854775807<4+nm.size:=by omega
 have M:¬9223372036854775807<4+nm.size+4:=by omega
 have O:¬9223372036854775807<4+nm.size+4+c.length:=by omega
 have Q:¬9223372036854775807<4+nm.size+4+c.length+3:=by omega
 have R:¬9223372036854775807<4+nm.size+4+c.length+3+p.length:=by omega
 have S:¬9223372036854775807<5+nm.size:=by omega
 have T:¬9223372036854775807<5+nm.size+4:=by omega
 have U:¬9223372036854775807<5+nm.size+4+c.length:=by omega
 have V:¬9223372036854775807<5+nm.size+4+c.length+3:=by omega
 have W:¬9223372036854775807<5+nm.size+4+c.length+3+p.length:=by omega
 have X:¬9223372036854775807<7+nm.size:=by omega
 have Y:¬9223372036854775807<7+nm.size+4:=by omega
 have Z:¬9223372036854775807<7+nm.size+4+c.length:=by omega
 have a0:¬9223372036854775807<7+nm.size+4+c.length+3:=by omega
 have a1:¬9223372036854775807<7+nm.size+4+c.length+3+p.length:=by omega
 clear hl q r D E;rcases ho with rfl|rfl|rfl
 all_goals
  obtain⟨x,y,z,f,h⟩:=v.out.cells;obtain⟨v0,u,s⟩:=v.out.2.2.2 0 _ rfl;have k:Hid (Calls _ _ _ _ _):=J.out P w _ v0 8 s F (by omega);rw[L0.out] at k;clear s;rw[Nat.add_zero] at u;go_enter Tryz.func21,Tryz.ntmps21
  go_wp2_with fail
  refine k.out.mono ?_;rintro e B ⟨rfl,n⟩;have G1:Hid (Ad w B):=n;have d:Hid (ND P N B be _ nm g off _ cap _):=v.out.grew n;clear n x y z f h u k v;obtain⟨x,y,z,f,h⟩:=d.out.cells;obtain⟨v1,H,t⟩:=d.out.2.2.2 1 _ rfl;have m:Hid (Calls _ _ _ _ _):=J.out P B _ v1 0 t G (by omega);rw[L1.out] at m;clear t;go_wp2_with fail
  refine m.out.mono ?_;rintro e K ⟨rfl,o⟩;have G2:Hid (Ad w K):=G1.out.trans o;have A:Hid (ND P N K be _ nm g off _ cap _):=d.out.grew o;clear o x y z f h H m d;obtain⟨x,y,z,f,h⟩:=A.out.cells;go_wp2_with fail
  go_ret
  exact⟨congrArg (fun b=>Ending.returned (Value.string b)) I.out,G2.out⟩
theorem Vj {P:Nat->Prop}{N:Nat}(hP:PrT N)(w:World)(be g off cap:Nat)  (nm:ByteArray) (a b:PX) (hn:ND P N w be ⟨#[102,117,110,32,105,110]⟩ nm g off 2 cap [a,b]) (hl:(C7 Ki nm.data.toList a b).tx.length<=1000000000):Cg w be (C7 Ki nm.data.toList a b):=by
 have I:Hid (PrT N):=hP;have X:=follows;obtain⟨o,h⟩:∃l,Al a 8=l:=⟨_,rfl⟩;have M:Hid (Al a 8=o):=h;have p:=Bx a 8;rw[h] at p;obtain⟨z,i⟩:∃l,Al b 0=l:=⟨_,rfl⟩;have O:Hid (Al b 0=z):=i;have q:=Bx b 0;rw[i] at q;have C:(C7 Ki nm.data.toList a b).tx=[102,117,110]++[32]++nm.data.toList++[32,105,110,32]++o++[32,58,32]++z:=by rw[<- h,<- i,Hx];rfl
 rw[C] at hl;simp only[List.length_cons,List.length_append,List.length_nil] at hl;have H:Hid ((⟨#[102,117,110]⟩:ByteArray)++⟨#[32]⟩++nm++⟨#[32,105,110,32]⟩++⟨o.toArray⟩++⟨#[32,58,32]⟩++⟨z.toArray⟩=⟨(C7 Ki nm.data.toList a b).tx.toArray⟩):=by show _=_;rw[C];exact ByteArray.ext (by simp[ByteArray.data_append])
 have D:nm.data.toList.length=nm.size:=by simp
 have u:Hid (ND P N w be _ nm g off 2 cap _):=hn;unfold Cg;generalize (((C7 Ki nm.data.toList a b).rk:Nat):Int)=rk;generalize (C7 Ki nm.data.toList a b).tx=TT at H |-;clear C hn hP h i;have E:a.tx.length<=1000000000:=by omega
 have F:b.tx.length<=1000000000:=by omega
 have Q:¬9223372036854775807<4+nm.size:=by omega
 have R:¬9223372036854775807<4+nm.size+4:=by omega
 have S:¬9223372036854775807<4+nm.size+4+o.length:=by omega
 have T:¬9223372036854775807<4+nm.size+4+o.length+3:=by omega
 have U:¬9223372036854775807<4+nm.size+4+o.length+3+z.length:=by omega
 clear hl p q D;obtain⟨v,x,y,d,f⟩:=u.out.cells;obtain⟨V,t,r⟩:=u.out.2.2.2 0 _ rfl;have j:Hid (Calls _ _ _ _ _):=I.out P w _ V 8 r E (by omega);rw[M.out] at j;clear r;rw[Nat.add_zero] at t;go_enter Tryz.func21,Tryz.ntmps21
 go_wp2_with fail
 refine j.out.mono ?_;rintro e B ⟨rfl,m⟩;have K:Hid (Ad w B):=m;have c:Hid (ND P N B be _ nm g off _ cap _):=u.out.grew m;clear m v x y d f t j u;obtain⟨v,x,y,d,f⟩:=c.out.cells;obtain⟨W,G,s⟩:=c.out.2.2.2 1 _ rfl;have k:Hid (Calls _ _ _ _ _):=I.out P B _ W 0 s F (by omega);rw[O.out] at k;clear s;go_wp2_with fail
 refine k.out.mono ?_;rintro e J ⟨rfl,n⟩;have L:Hid (Ad w J):=K.out.trans n;have A:Hid (ND P N J be _ nm g off _ cap _):=c.out.grew n;clear n v x y d f G k c;obtain⟨v,x,y,d,f⟩:=A.out.cells;go_wp2_with fail
 go_ret
 exact⟨congrArg (fun b=>Ending.returned (Value.string b)) H.out,L.out⟩
theorem Yd {P:Nat->Prop}{N:Nat}(hP:PrT N)(w:World)(be g off cap:Nat)(op:ByteArray)(nm:ByteArray)(a b:PX)(hn:ND P N w be op nm g off 2 cap [a,b])(ho:op=⟨#[101,97,99,104]⟩\/op=⟨#[116,104,111,115,101]⟩)(hl:(C7 op.data.toList nm.data.toList a b).tx.length<=1000000000):Cg w be (C7 op.data.toList nm.data.toList a b):=by
 have J:Hid (PrT N):=hP;have mo:=follows;obtain⟨c,i⟩:∃l,Al a 8=l:=⟨_,rfl⟩;have L0:Hid (Al a 8=c):=i;have q:=Bx a 8;rw[i] at q;obtain⟨k,j⟩:∃l,Al b 0=l:=⟨_,rfl⟩;have L1:Hid (Al b 0=k):=j;have r:=Bx b 0;rw[j] at r;have C:(C7 op.data.toList nm.data.toList a b).tx=123::(op.data.toList++[32]++nm.data.toList++[32,105,110,32]++c++[32,58,32]++k++[125]):=by rw[<- i,<- j,Hx];rcases ho with rfl|rfl<;>rfl
 rw[C] at hl;simp only[List.length_cons,List.length_append,List.length_nil] at hl;have I:Hid ((⟨#[123]⟩:ByteArray)++(op++⟨#[32]⟩++nm++⟨#[32,105,110,32]⟩++⟨c.toArray⟩++⟨#[32,58,32]⟩++⟨k.toArray⟩)++⟨#[125]⟩=⟨(C7 op.data.toList nm.data.toList a b).tx.toArray⟩):=by show _=_;rw[C];exact ByteArray.ext (by simp[ByteArray.data_append])
 have D:nm.data.toList.length=nm.size:=by simp
 have E:op.data.toList.length=op.size:=by simp
 have v:Hid (ND P N w be _ nm g off 2 cap _):=hn;unfold Cg;generalize (((C7 op.data.toList nm.data.toList a b).rk:Nat):Int)=rk;generalize (C7 op.data.toList nm.data.toList a b).tx=TT at I |-;clear C hn hP i j;have F:a.tx.length<=1000000000:=by omega
 have G:b.tx.length<=1000000000:=by omega
 have R:¬9223372036854775807<5+nm.size:=by omega
 have S:¬9223372036854775807<5+nm.size+4:=by omega
 have T:¬9223372036854775807<5+nm.size+4+c.length:=by omega
 have U:¬9223372036854775807<5+nm.size+4+c.length+3:=by omega
 have V:¬9223372036854775807<5+nm.size+4+c.length+3+k.length:=by omega
 have L:¬9223372036854775807<1+(5+nm.size+4+c.length+3+k.length):=by omega
 have M:¬9223372036854775807<1+(5+nm.size+4+c.length+3+k.length)+1:=by omega
 have W:¬9223372036854775807<6+nm.size:=by omega
 have X:¬9223372036854775807<6+nm.size+4:=by omega
 have Y:¬9223372036854775807<6+nm.size+4+c.length:=by omega
 have Z:¬9223372036854775807<6+nm.size+4+c.length+3:=by omega
 have a0:¬9223372036854775807<6+nm.size+4+c.length+3+k.length:=by omega
 have O:¬9223372036854775807<1+(6+nm.size+4+c.length+3+k.length):=by omega
 have Q:¬9223372036854775807<1+(6+nm.size+4+c.length+3+k.length)+1:=by omega
 clear hl q r D E;rcases ho with rfl|rfl
 all_goals
  obtain⟨x,y,z,f,h⟩:=v.out.cells;obtain⟨v0,u,s⟩:=v.out.2.2.2 0 _ rfl;have m:Hid (Calls _ _ _ _ _):=J.out P w _ v0 8 s F (by omega);rw[L0.out] at m;clear s;rw[Nat.add_zero] at u;go_enter Tryz.func21,Tryz.ntmps21
  go_wp2_with fail
  refine m.out.mono ?_;rintro e B ⟨rfl,o⟩;have G1:Hid (Ad w B):=o;have d:Hid (ND P N B be _ nm g off _ cap _):=v.out.grew o;clear o x y z f h u m v;obtain⟨x,y,z,f,h⟩:=d.out.cells;obtain⟨v1,H,t⟩:=d.out.2.2.2 1 _ rfl;have n:Hid (Calls _ _ _ _ _):=J.out P B _ v1 0 t G (by omega);rw[L1.out] at n;clear t;go_wp2_with fail
  refine n.out.mono ?_;rintro e K ⟨rfl,p⟩;have G2:Hid (Ad w K):=G1.out.trans p;have A:Hid (ND P N K be _ nm g off _ cap _):=d.out.grew p;clear p x y z f h H n d;obtain⟨x,y,z,f,h⟩:=A.out.cells;go_wp2_with fail
  go_ret
  exact⟨congrArg (fun b=>Ending.returned (Value.string b)) I.out,G2.out⟩
end Go.Proofs.YtjbfcadeapphbaaGreatDoor.Sx
