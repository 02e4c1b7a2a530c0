/- The reference: nodes with parts, as text. -/
import Derived.Test.YtjbfcadeapphbaaGreatDoorF38
namespace Go.Proofs.YtjbfcadeapphbaaGreatDoor.Sx
set_option maxRecDepth 100000
set_option maxHeartbeats 1000000
open Go.RowKit Go.Sort
def ND (P:Nat->Prop)(N:Nat)(w:World)(be:Nat)(op nm:ByteArray)(g off len cap:Nat)(kids:List PX):Prop :=
 (∃a k n tx,Av w be op a nm k n tx (some ⟨g,off,none⟩) len cap)/\g<w.heap.size/\len=kids.length/\∀i x,kids[i]?=some x->∃v,w.cell? ⟨g,off+i,none⟩=some v/\Fc P w N x v
theorem ND.of {P:Nat->Prop}{N be len cap:Nat}{w:World}{op nm tx:ByteArray}{a k n:Int}{pa:Option Addr}{kids:List PX}(he:Av w be op a nm k n tx pa len cap)(hr:Bw P w (Fc P w N) pa len kids)(h:kids≠[]):∃g off,ND P N w be op nm g off len cap kids:=by
 obtain⟨b,e,f|⟨g,off,rfl,d,-,c⟩⟩:=hr
 ·exact absurd (List.length_eq_zero_iff.1 (by omega)) h
 ·exact⟨g,off,⟨a,k,n,tx,he⟩,d,b,c⟩
theorem ND.grew {P:Nat->Prop}{N be g off len cap:Nat}{w w':World}{op nm:ByteArray}{kids:List PX}(h:ND P N w be op nm g off len cap kids)(hg:Ad w w'):ND P N w' be op nm g off len cap kids:=by
 obtain⟨⟨a,k,n,l,d⟩,b,e,c⟩:=h;refine⟨⟨a,k,n,l,d.grew hg⟩,Nat.lt_of_lt_of_le b hg.below.size,e,fun i x q=>?_⟩;obtain⟨v,j,f⟩:=c i x q;exact⟨v,(World.cell?_of_block (w:=w) (hg.below.block g b)).trans j,f.grew hg⟩
theorem ND.cells {P:Nat->Prop}{N be g off len cap:Nat}{w:World}{op nm:ByteArray}{kids:List PX}(h:ND P N w be op nm g off len cap kids):w.cell? ⟨be,0,none⟩=some (.string op)/\w.cell? ⟨be,2,none⟩=some (.string nm)/\w.cell? ⟨be,8,none⟩=some (.slice (some ⟨g,off,none⟩) len cap)/\be<w.heap.size/\g<w.heap.size:=by
 obtain⟨⟨a,k,n,f,b⟩,c,e,d⟩:=h;exact⟨Aa b 0,Aa b 2,Aa b 8,Ac b,c⟩
theorem Bx (x:PX)(q:Nat):x.tx.length<=(Al x q).length:=by
 unfold Al;split
 ·simp;omega
 ·exact Nat.le_refl _
theorem eV {P:Nat->Prop}{N:Nat}(hP:PrT N)(w:World)(be g off cap:Nat)  (nm:ByteArray) (a:PX) (hn:ND P N w be ⟨#[110,101,103]⟩ nm g off 1 cap [a]) (hl:(Co 12 Lg a).tx.length<=1000000000):Cg w be (Co 12 Lg a):=by
 have z:Hid (PrT N):=hP;have D:=follows;obtain⟨o,c⟩:∃l,Al a 12=l:=⟨_,rfl⟩;have A:Hid (Al a 12=o):=c;have j:=Bx a 12;rw[c] at j;have q:(Co 12 Lg a).tx=45::o:=by rw[<- c];rfl
 rw[q] at hl;simp only[List.length_cons] at hl;have s:Hid ((⟨#[45]⟩:ByteArray)++⟨o.toArray⟩=⟨(Co 12 Lg a).tx.toArray⟩):=by show _=_;rw[q];exact ByteArray.ext (by simp[ByteArray.data_append])
 have n:Hid (ND P N w be _ nm g off 1 cap _):=hn;unfold Cg;generalize (((Co 12 Lg a).rk:Nat):Int)=rk;generalize (Co 12 Lg a).tx=TT at s |-;clear q hn hP c;have r:a.tx.length<=1000000000:=by omega
 have B:¬9223372036854775807<1+o.length:=by omega
 clear hl j;obtain⟨u,v,x,h,i⟩:=n.out.cells;obtain⟨C,m,k⟩:=n.out.2.2.2 0 _ rfl;have d:Hid (Calls _ _ _ _ _):=z.out P w _ C 12 k r (by omega);rw[A.out] at d;clear k;rw[Nat.add_zero] at m;go_enter Tryz.func21,Tryz.ntmps21
 go_wp2_with fail
 refine d.out.mono ?_;rintro e t ⟨rfl,f⟩;have y:Hid (Ad w t):=f;have p:Hid (ND P N t be _ nm g off _ cap _):=n.out.grew f;clear f u v x h i m d n;obtain⟨u,v,x,h,i⟩:=p.out.cells;go_wp2_with fail
 go_ret
 exact⟨congrArg (fun b=>Ending.returned (Value.string b)) s.out,y.out⟩
theorem Vi {P:Nat->Prop}{N:Nat}(hP:PrT N)(w:World)(be g off cap:Nat)(op:ByteArray)(nm:ByteArray)(a:PX)(hn:ND P N w be op nm g off 1 cap [a])(ho:op=⟨#[110,111,116]⟩\/op=⟨#[97,108,119,97,121,115]⟩\/op=⟨#[101,118,101,110,116,117,97,108,108,121]⟩)(hl:(Co 6 op.data.toList a).tx.length<=1000000000):Cg w be (Co 6 op.data.toList a):=by
 have E:Hid (PrT N):=hP;have H:=follows;obtain⟨h,c⟩:∃l,Al a 6=l:=⟨_,rfl⟩;have F:Hid (Al a 6=h):=c;have k:=Bx a 6;rw[c] at k;have r:(Co 6 op.data.toList a).tx=op.data.toList++32::h:=by rw[<- c];rcases ho with rfl|rfl|rfl<;>rfl
 rw[r] at hl;simp only[List.length_cons,List.length_append] at hl;have u:Hid ((op:ByteArray)++⟨#[32]⟩++⟨h.toArray⟩=⟨(Co 6 op.data.toList a).tx.toArray⟩):=by show _=_;rw[r];exact ByteArray.ext (by simp[ByteArray.data_append])
 have s:op.data.toList.length=op.size:=by simp
 have p:Hid (ND P N w be _ nm g off 1 cap _):=hn;unfold Cg;have n:(((Co 6 op.data.toList a).rk:Nat):Int)=6:=rfl;rw[n];clear n;generalize (Co 6 op.data.toList a).tx=TT at u |-;clear r hn hP c;have t:a.tx.length<=1000000000:=by omega
 have A:¬9223372036854775807<4+h.length:=by omega
 have B:¬9223372036854775807<7+h.length:=by omega
 have C:¬9223372036854775807<11+h.length:=by omega
 clear hl k s;rcases ho with rfl|rfl|rfl
 all_goals
  obtain⟨x,y,z,i,j⟩:=p.out.cells;obtain⟨G,o,m⟩:=p.out.2.2.2 0 _ rfl;have d:Hid (Calls _ _ _ _ _):=E.out P w _ G 6 m t (by omega);rw[F.out] at d;clear m;rw[Nat.add_zero] at o;go_enter Tryz.func21,Tryz.ntmps21
  go_wp2_with fail
  refine d.out.mono ?_;rintro e v ⟨rfl,f⟩;have D:Hid (Ad w v):=f;have q:Hid (ND P N v be _ nm g off _ cap _):=p.out.grew f;clear f x y z i j o d p;obtain⟨x,y,z,i,j⟩:=q.out.cells;go_wp2_with fail
  go_ret
  exact⟨congrArg (fun b=>Ending.returned (Value.string b)) u.out,D.out⟩
theorem Sn {P:Nat->Prop}{N:Nat}(hP:PrT N)(w:World)(be g off cap:Nat)(op:ByteArray)(nm:ByteArray)(a:PX)(hn:ND P N w be op nm g off 1 cap [a])(ho:op=⟨#[100,111,109,97,105,110]⟩\/op=⟨#[112,111,119,101,114,115,101,116]⟩\/op=⟨#[102,108,97,116,116,101,110]⟩)(hl:(Co 12 op.data.toList a).tx.length<=1000000000):Cg w be (Co 12 op.data.toList a):=by
 have E:Hid (PrT N):=hP;have H:=follows;obtain⟨h,c⟩:∃l,Al a 12=l:=⟨_,rfl⟩;have F:Hid (Al a 12=h):=c;have k:=Bx a 12;rw[c] at k;have r:(Co 12 op.data.toList a).tx=op.data.toList++32::h:=by rw[<- c];rcases ho with rfl|rfl|rfl<;>rfl
 rw[r] at hl;simp only[List.length_cons,List.length_append] at hl;have u:Hid ((op:ByteArray)++⟨#[32]⟩++⟨h.toArray⟩=⟨(Co 12 op.data.toList a).tx.toArray⟩):=by show _=_;rw[r];exact ByteArray.ext (by simp[ByteArray.data_append])
 have s:op.data.toList.length=op.size:=by simp
 have p:Hid (ND P N w be _ nm g off 1 cap _):=hn;unfold Cg;have n:(((Co 12 op.data.toList a).rk:Nat):Int)=12:=rfl;rw[n];clear n;generalize (Co 12 op.data.toList a).tx=TT at u |-;clear r hn hP c;have t:a.tx.length<=1000000000:=by omega
 have A:¬9223372036854775807<7+h.length:=by omega
 have B:¬9223372036854775807<8+h.length:=by omega
 have C:¬9223372036854775807<9+h.length:=by omega
 clear hl k s;rcases ho with rfl|rfl|rfl
 all_goals
  obtain⟨x,y,z,i,j⟩:=p.out.cells;obtain⟨G,o,m⟩:=p.out.2.2.2 0 _ rfl;have d:Hid (Calls _ _ _ _ _):=E.out P w _ G 12 m t (by omega);rw[F.out] at d;clear m;rw[Nat.add_zero] at o;go_enter Tryz.func21,Tryz.ntmps21
  go_wp2_with fail
  refine d.out.mono ?_;rintro e v ⟨rfl,f⟩;have D:Hid (Ad w v):=f;have q:Hid (ND P N v be _ nm g off _ cap _):=p.out.grew f;clear f x y z i j o d p;obtain⟨x,y,z,i,j⟩:=q.out.cells;go_wp2_with fail
  go_ret
  exact⟨congrArg (fun b=>Ending.returned (Value.string b)) u.out,D.out⟩
end Go.Proofs.YtjbfcadeapphbaaGreatDoor.Sx
