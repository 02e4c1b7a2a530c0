/- The reference: functions as text. -/
import Derived.Test.YtjbfcadeapphbaaGreatDoorE39
namespace Go.Proofs.YtjbfcadeapphbaaGreatDoor.Sx
set_option maxRecDepth 100000
set_option maxHeartbeats 2000000
open Go.RowKit Go.Sort
theorem Vo {s:ByteArray}{l:List UInt8}(h:s.data.toList=l):s=⟨l.toArray⟩:=by rw[<- h]
theorem fC (b:ByteArray)(l:List UInt8):b++⟨l.toArray⟩=⟨(b.data.toList++l).toArray⟩:=by
 have:=Qz b.data.toList l;rw[<- Vo (s:=b) rfl] at this;exact this
def Bs (w:World)(be:Nat)(x:PX):Prop:=Calls Tryz.prog 21 #[.pointer (some ⟨be,0,none⟩),.int .i64 (x.rk:Int)] w fun e w'=>e=.returned (.string ⟨x.tx.toArray⟩)/\Ad w w'
theorem S8 (w:World)(be:Nat)(nm tx:ByteArray)(a k n:Int)(pa:Option Addr)(len cap:Nat)(x:PX)(he:Ao w be ⟨#[118,97,108,117,101]⟩ a nm k n tx pa len cap)(hx:Mz k n tx.data.toList x)(hl:x.tx.length<=1000000000):Bs w be x:=by
 have b:Hid (Calls _ _ _ _ _):=Vn w k n tx x hx (fun e=>by
  subst e;rcases hx with⟨h,-⟩|⟨h,-⟩|⟨h,-⟩|⟨h,-⟩|⟨-,rfl⟩
  ·omega
  ·omega
  ·omega
  ·omega
  ·simp[Du] at hl;omega)
 have g:=Aa he 0;have i:=Aa he 3;have j:=Aa he 4;have m:=Aa he 5;have o:=Aa he 6;have p:=Aa he 7;have q:=Ab he;have r:=follows;clear he hx hl;unfold Bs;generalize x.tx=l at b |-;generalize (x.rk:Int)=rk;go_enter Tryz.func21,Tryz.ntmps21
 go_wp2_with fail
 refine b.out.mono ?_;rintro e f ⟨rfl,c⟩;have d:Hid (Ad w f):=c;clear c;go_wp2_with fail
 go_ret
 exact⟨rfl,d.out⟩
theorem Vp (w:World)(be:Nat)(nm tx:ByteArray)(a k n:Int)(pa:Option Addr)(len cap:Nat)(he:Ao w be ⟨#[110,97,109,101]⟩ a nm k n tx pa len cap):Bs w be (B8 nm.data.toList):=by
 have c:=Aa he 0;have d:=Aa he 2;have e:=Ab he;have f:=follows;clear he;have b:Hid (nm=⟨(B8 nm.data.toList).tx.toArray⟩):=Vo rfl;unfold Bs;generalize (B8 nm.data.toList).tx=l at b |-;generalize (((B8 nm.data.toList).rk:Nat):Int)=rk;go_enter Tryz.func21,Tryz.ntmps21
 go_wp2_with fail
 go_ret
 exact⟨by rw[<- b.out];rfl,Ad.refl _⟩
theorem S9 (w:World)(be:Nat)(nm tx:ByteArray)(a k n:Int)(pa:Option Addr)(len cap:Nat)(he:Ao w be ⟨#[112,114,105,109,101]⟩ a nm k n tx pa len cap)(hl:(B8 (nm.data.toList++[39])).tx.length<=1000000000):Bs w be (B8 (nm.data.toList++[39])):=by
 have e:=Aa he 0;have f:=Aa he 2;have g:=Ab he;have h:=follows;clear he;have d:¬9223372036854775807<nm.size+1:=by simp[B8] at hl;omega
 have c:Hid (nm++⟨#[39]⟩=⟨(B8 (nm.data.toList++[39])).tx.toArray⟩):=fC nm [39];unfold Bs;generalize (B8 (nm.data.toList++[39])).tx=l at c hl |-;generalize (((B8 (nm.data.toList++[39])).rk:Nat):Int)=rk;clear hl;go_enter Tryz.func21,Tryz.ntmps21
 go_wp2_with fail
 go_ret
 exact⟨congrArg (fun b=>Ending.returned (Value.string b)) c.out,Ad.refl _⟩
theorem Kg (w:World)(be r:Nat)(op nm tx:ByteArray)(a k n:Int)(pa:Option Addr)(len cap:Nat)(he:Ao w be op a nm k n tx pa len cap)(ho:op=⟨#[117,110,99,104,97,110,103,101,100]⟩\/op=⟨#[101,110,97,98,108,101,100]⟩)(hl:(C2 r op.data.toList nm.data.toList).tx.length<=1000000000):Bs w be (C2 r op.data.toList nm.data.toList):=by
 have i:=Aa he 0;have j:=Aa he 2;have m:=Aa (he.grew (Ad.refl w).drew) 0;have o:=Aa (he.grew (Ad.refl w).drew) 2;have p:=Ab he;have q:=follows;clear he;have d:Hid (op++⟨#[32]⟩++nm=⟨(C2 r op.data.toList nm.data.toList).tx.toArray⟩):=ByteArray.ext (by simp[C2,ByteArray.data_append]);have e:op.size+1+nm.size<=1000000000:=by simp[C2] at hl;omega
 unfold Bs;generalize (C2 r op.data.toList nm.data.toList).tx=l at d hl |-;generalize (((C2 r op.data.toList nm.data.toList).rk:Nat):Int)=rk;clear hl;rcases ho with rfl|rfl
 all_goals
  have f:nm.size<=1000000000:=by omega
  have g:¬9223372036854775807<10+nm.size:=by omega
  have h:¬9223372036854775807<8+nm.size:=by omega
  clear e;go_enter Tryz.func21,Tryz.ntmps21
  go_wp2_with fail
  go_big_region_o
  have c:Hid (Ad w w.drew):=(Ad.refl w).drew;generalize w.drew=W1 at c |-;go_wp2_with fail
  go_ret
  exact⟨congrArg (fun b=>Ending.returned (Value.string b)) d.out,c.out⟩
def lit (l:List UInt8):ByteArray:=⟨l.toArray⟩
theorem M8 {N:Nat}(hP:PrT N)(P:Nat->Prop)(w:World)(be:Nat)(op nm tx:ByteArray)(a k n:Int)(pa:Option Addr)(len cap:Nat)(kids:List PX)(he:Ao w be op a nm k n tx pa len cap)(hr:Bh P w (D2 P w N) pa len kids)(ho:op.data.toList=aQ\/op.data.toList∈B7)(hl:(C6 nm.data.toList kids).tx.length<=1000000000):Bs w be (C6 nm.data.toList kids):=by
 have h:nm.size+1+(Cb kids).length+1<=1000000000:=by simp[C6] at hl;omega
 have f:Hid (Calls _ _ _ _ _):=I0 hP P w pa len cap kids hr (by omega);have j:Hid (Ao w be op a nm k n tx pa len cap):=he;have m:=Aa he 0;have o:=Aa he 8;have u:=Ab he;have v:=follows;clear he hr hP;have c:Hid (nm++⟨#[40]⟩++⟨(Cb kids).toArray⟩++⟨#[41]⟩=⟨(C6 nm.data.toList kids).tx.toArray⟩):=ByteArray.ext (by simp[C6,ByteArray.data_append]);unfold Bs;generalize (C6 nm.data.toList kids).tx=l at c hl |-;generalize (((C6 nm.data.toList kids).rk:Nat):Int)=rk;generalize Cb kids=S at c f h;clear hl;have p:¬9223372036854775807<nm.size+1:=by omega
 have q:¬9223372036854775807<nm.size+1+S.length:=by omega
 have r:¬9223372036854775807<nm.size+1+S.length+1:=by omega
 clear h;simp only[aQ,B7,List.mem_cons,List.not_mem_nil,or_false] at ho;have g:op=⟨⟨op.data.toList⟩⟩:=by cases op;rfl
 generalize op.data.toList=lo at ho g;subst g;rcases ho with rfl|rfl|rfl|rfl|rfl|rfl|rfl|rfl
 all_goals
  go_enter Tryz.func21,Tryz.ntmps21
  go_wp2_with fail
  refine f.out.mono ?_;rintro e s ⟨rfl,d⟩;have i:Hid (Ad w s):=d;have t:=Aa (j.out.grew d) 2;clear d m o;go_wp2_with fail
  go_ret
  exact⟨congrArg (fun b=>Ending.returned (Value.string b)) c.out,i.out⟩
theorem Yz {N:Nat}(hP:PrT N)(P:Nat->Prop)(w:World)(be:Nat)(nm tx:ByteArray)(a k n:Int)(pa:Option Addr)(len cap:Nat)(kids:List PX)(he:Ao w be ⟨#[115,101,116]⟩ a nm k n tx pa len cap)(hr:Bh P w (D2 P w N) pa len kids)(hl:(Hl kids).tx.length<=1000000000):Bs w be (Hl kids):=by
 have g:1+(Cb kids).length+1<=1000000000:=by simp[Hl] at hl;omega
 have d:Hid (Calls _ _ _ _ _):=I0 hP P w pa len cap kids hr (by omega);have i:=Aa he 0;have j:=Aa he 8;have q:=Ab he;have r:=follows;clear he hr hP;have c:Hid ((⟨#[123]⟩:ByteArray)++⟨(Cb kids).toArray⟩++⟨#[125]⟩=⟨(Hl kids).tx.toArray⟩):=ByteArray.ext (by simp[Hl,ByteArray.data_append]);unfold Bs;generalize (Hl kids).tx=l at c hl |-;generalize (((Hl kids).rk:Nat):Int)=rk;generalize Cb kids=S at c d g;clear hl;have m:¬9223372036854775807<1+S.length:=by omega
 have o:¬9223372036854775807<1+S.length+1:=by omega
 clear g;go_enter Tryz.func21,Tryz.ntmps21
 go_wp2_with fail
 refine d.out.mono ?_;rintro e p ⟨rfl,f⟩;have h:Hid (Ad w p):=f;clear f i j;go_wp2_with fail
 go_ret
 exact⟨congrArg (fun b=>Ending.returned (Value.string b)) c.out,h.out⟩
theorem Y0 {N:Nat}(hP:PrT N)(P:Nat->Prop)(w:World)(be:Nat)(nm tx:ByteArray)(a k n:Int)(pa:Option Addr)(len cap:Nat)(kids:List PX)(he:Ao w be ⟨#[115,101,113]⟩ a nm k n tx pa len cap)(hr:Bh P w (D2 P w N) pa len kids)(hl:(Gh kids).tx.length<=1000000000):Bs w be (Gh kids):=by
 have g:2+(Cb kids).length+2<=1000000000:=by simp[Gh] at hl;omega
 have d:Hid (Calls _ _ _ _ _):=I0 hP P w pa len cap kids hr (by omega);have i:=Aa he 0;have j:=Aa he 8;have q:=Ab he;have r:=follows;clear he hr hP;have c:Hid ((⟨#[60,60]⟩:ByteArray)++⟨(Cb kids).toArray⟩++⟨#[62,62]⟩=⟨(Gh kids).tx.toArray⟩):=ByteArray.ext (by simp[Gh,ByteArray.data_append]);unfold Bs;generalize (Gh kids).tx=l at c hl |-;generalize (((Gh kids).rk:Nat):Int)=rk;generalize Cb kids=S at c d g;clear hl;have m:¬9223372036854775807<2+S.length:=by omega
 have o:¬9223372036854775807<2+S.length+2:=by omega
 clear g;go_enter Tryz.func21,Tryz.ntmps21
 go_wp2_with fail
 refine d.out.mono ?_;rintro e p ⟨rfl,f⟩;have h:Hid (Ad w p):=f;clear f i j;go_wp2_with fail
 go_ret
 exact⟨congrArg (fun b=>Ending.returned (Value.string b)) c.out,h.out⟩
theorem Y1 {N:Nat}(hP:PrT N)(P:Nat->Prop)(w:World)(be:Nat)(nm tx:ByteArray)(a k0 n:Int)(pa:Option Addr)(len cap:Nat)(kids:List PX)(he:Ao w be ⟨#[102,117,110]⟩ a nm k0 n tx pa len cap)(hr:Bh P w (D2 P w N) pa len kids)(hl:(Gt kids).tx.length<=1000000000):Bs w be (Gt kids):=by
 have K:1+(Bd Cm 0 (kids.map PX.tx)).length+1<=1000000000:=by simp[Gt] at hl;omega
 have R:Hid (PrT N):=hP;have T:Hid (Bh P w (D2 P w N) pa len kids):=hr;have L:Hid (Ao w be ⟨#[102,117,110]⟩ a nm k0 n tx pa len cap):=he;have z:Hid (∀k,(Ef Cm kids k).length<=999999998):=fun k=>Nat.le_trans (S7 _ _ _) (by omega);have m:=hr.1;have V:=hr.2.1;have E:Hid (len=kids.length):=m;have U:=Aa he 0;have hb:=Ab he;have mo:=follows;have A:Hid (Ef Cm kids len=Bd Cm 0 (kids.map PX.tx)):=O6 _ _ _ (by omega);have D:Hid ((⟨#[91]⟩:ByteArray)++⟨(Bd Cm 0 (kids.map PX.tx)).toArray⟩++⟨#[93]⟩=⟨(Gt kids).tx.toArray⟩):=ByteArray.ext (by simp[Gt,ByteArray.data_append]);unfold Bs;generalize (Gt kids).tx=l at D hl |-;generalize (((Gt kids).rk:Nat):Int)=rk;generalize Bd Cm 0 (kids.map PX.tx)=S at D A K;have a0:¬9223372036854775807<1+S.length:=by omega
 have a1:¬9223372036854775807<1+S.length+1:=by omega
 clear hl K hP hr m he;go_enter Tryz.func21,Tryz.ntmps21
 go_wp2_with fail
 go_loopw [8,9] (fun s8 i wr=>∃k:Nat,k<=len/\i=.int .i64 (k:Int)/\s8=.string ⟨(Ef Cm kids k).toArray⟩/\Hid (Ad w wr)) (fun _ i _=>len-(intOf i).toNat)
 case atStart=>exact⟨0,Nat.zero_le _,rfl,by simp[Ef,Bd],Ad.refl _⟩
 case round =>
  clear U;obtain⟨k,hk,rfl,rfl,p⟩:=hrel;have F:=Aa (L.out.grew p.out) 8;have W:=Ab (L.out.grew p.out);by_cases X:k<len
  ·obtain⟨x,J⟩:∃x,kids[k]?=some x:=⟨_,List.getElem?_eq_getElem (by have:=E.out;omega)⟩;obtain⟨-,-,K|⟨g,a2,rfl,hg,-,M⟩⟩:=O4 T.out p.out
   ·omega
   obtain⟨v,Z,o⟩:=M k x J;have r:=M7 Cm kids k x J;have c:=z.out (k+1);have H:=z.out k;rw[r] at c;simp only[List.length_append] at c;have y:Hid (Calls _ _ _ _ _):=R.out P wr x v 0 o (by omega) (by omega);rw[Fv] at y;have d:Hid (Ef Cm kids (k+1)=Ef Cm kids k++(Cm k++x.tx)):=r;obtain⟨t,Q⟩:∃t,x.tx=t:=⟨_,rfl⟩;obtain⟨s,O⟩:∃s,Ef Cm kids k=s:=⟨_,rfl⟩;rw[Q] at y d c;rw[O] at d c H |-;clear J M o r Q O;by_cases h:k % 2=1
   ·have j:Cm k=[58,32]:=by unfold Cm;rw[if_pos h]
    rw[j] at d c;simp only[List.length_cons,List.length_nil] at c;have B:¬9223372036854775807<s.length+2:=by omega
    have I:¬9223372036854775807<s.length+2+t.length:=by omega
    have G:(0:Int)<(k:Int):=by omega
    have Y:(k:Int) % 2=1:=by omega
    clear j;go_wp2_with fail
    refine y.out.mono ?_;rintro e C ⟨rfl,f⟩;have u:Hid (Ad w C):=p.out.trans f;clear f F;go_wp2_with fail
    go_roundw
    case rel=>exact⟨k+1,by omega,by go_num,by show Value.string ((⟨s.toArray⟩++⟨[58,32].toArray⟩)++⟨t.toArray⟩)=_;rw[Qz,Qz,d.out,List.append_assoc],u⟩
    case measure=>simp[intOf];omega
   ·by_cases q:k=0
    ·subst q;rw[Nat.add_zero] at Z;have j:Cm 0=[]:=rfl;rw[j] at d c;simp only[List.length_nil] at c;have B:¬9223372036854775807<s.length+t.length:=by omega
     clear j h;go_wp2_with fail
     refine y.out.mono ?_;rintro e C ⟨rfl,f⟩;have u:Hid (Ad w C):=p.out.trans f;clear f F;go_wp2_with fail
     go_roundw
     case rel=>exact⟨1,by omega,by go_num,by show Value.string (_++_)=_;rw[Qz,d.out];rfl,u⟩
     case measure=>simp[intOf];omega
    ·have j:Cm k=[44,32]:=by unfold Cm;rw[if_neg h,if_neg q]
     rw[j] at d c;simp only[List.length_cons,List.length_nil] at c;have B:¬9223372036854775807<s.length+2:=by omega
     have I:¬9223372036854775807<s.length+2+t.length:=by omega
     have G:(0:Int)<(k:Int):=by omega
     have Y:(k:Int) % 2=0:=by omega
     clear j h q;go_wp2_with fail
     refine y.out.mono ?_;rintro e C ⟨rfl,f⟩;have u:Hid (Ad w C):=p.out.trans f;clear f F;go_wp2_with fail
     go_roundw
     case rel=>exact⟨k+1,by omega,by go_num,by show Value.string ((⟨s.toArray⟩++⟨[44,32].toArray⟩)++⟨t.toArray⟩)=_;rw[Qz,Qz,d.out,List.append_assoc],u⟩
     case measure=>simp[intOf];omega
  ·obtain rfl:k=len:=by omega
   rw[A.out];go_wp2_with fail
   go_ret
   exact⟨congrArg (fun b=>Ending.returned (Value.string b)) D.out,p.out⟩
end Go.Proofs.YtjbfcadeapphbaaGreatDoor.Sx
