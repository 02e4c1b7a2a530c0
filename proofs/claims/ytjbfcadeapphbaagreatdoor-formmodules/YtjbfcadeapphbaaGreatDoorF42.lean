/- The reference: parts of functions, as text. -/
import Derived.Test.YtjbfcadeapphbaaGreatDoorF39
namespace Go.Proofs.YtjbfcadeapphbaaGreatDoor.Sx
set_option maxRecDepth 100000
set_option maxHeartbeats 4000000
open Go.RowKit Go.Sort
theorem Ov (s:ByteArray)(w:World):Calls Tryz.prog 79 #[.string s] w fun e w'=>e=.returned (.bool (Ff s.data.toList))/\Ad w w':=by
 have N:s.data.toList.length=s.size:=by simp
 obtain⟨v,a⟩:∃v,Ff s.data.toList=v:=⟨_,rfl⟩;rw[a];have R:=follows;by_cases P:s.size=0
 ·obtain rfl:false=v:=by
   rw[<- a];have:s.data.toList=[]:=List.length_eq_zero_iff.1 (by omega);rw[this];rfl
  have J:((s.size:Int)==0)=true:=by rw[beq_iff_eq];omega
  clear a;go_enter Tryz.func79,Tryz.ntmps79
  go_wp2_with fail
  go_ret
  exact⟨rfl,Ad.refl _⟩
 ·have J:((s.size:Int)==0)=false:=by rw[beq_eq_false_iff_ne];omega
  have g:Ff s.data.toList=(Bp s[0]&&decide (s.data.toList.length<=16)&&s.data.toList.all Bu&&!A0 s.data.toList):=by
   have f:s.data.toList[0]?=some s[0]:=by rw[List.getElem?_eq_getElem (by omega)];rfl
   generalize s.data.toList=l at f;cases l with
   | nil=>simp at f
   | cons c r=>simp at f;rw[<- f];rfl
  rw[g,N] at a;by_cases M:16<s.size
  ·obtain rfl:false=v:=by rw[<- a,decide_eq_false (show ¬s.size<=16 by omega)];simp
   have K:(16:Int)<(s.size:Int):=by omega
   clear a g;go_enter Tryz.func79,Tryz.ntmps79
   go_wp2_with fail
   go_ret
   exact⟨rfl,Ad.refl _⟩
  ·have K:¬(16:Int)<(s.size:Int):=by omega
   rw[decide_eq_true (show s.size<=16 by omega),Bool.and_true] at a;have t:Hid ((Bp s[0]&&s.data.toList.all Bu&&!A0 s.data.toList)=v):=a;have o:Hid _:=Oa;have j:Hid (∀W,Calls _ _ _ _ _):=fun W=>K5 s[0] W;have m:Hid (∀W,Calls _ _ _ _ _):=fun W=>Lr s W;clear a g;go_enter Tryz.func79,Tryz.ntmps79
   go_wp2_with fail
   go_loopw [3] (fun i wr=>∃k:Nat,k<=s.size/\i=.int .i64 k/\Hid (wr=w)/\Hid ((s.data.toList.take k).all Bu=true)) (fun i _=>s.size-(intOf i).toNat)
   case atStart=>exact⟨0,Nat.zero_le _,rfl,rfl,by simp[Hid]⟩
   case round =>
    obtain⟨k,Q,rfl,A,p⟩:=hrel;by_cases O:k<s.size
    ·have f:s.data.toList[k]?=some s[k]:=by rw[List.getElem?_eq_getElem (by omega)];rfl
     have B:(s.data.toList.take (k+1)).all Bu=Bu s[k]:=by rw[List.take_add_one,f,List.all_append,p.out];simp
     have d:Bu s[k]=false->s.data.toList.all Bu=false:=fun q=>by
      rw[List.all_eq_false];exact⟨s[k],List.mem_of_getElem? f,by simp[q]⟩
     have h:=o.out s[k];obtain⟨b,C⟩:∃b,Bu s[k]=b:=⟨_,rfl⟩;rw[C] at h d B;have n:Hid (∀W,Calls _ _ _ _ _):=h;have E:Hid (_=b):=B;cases b with
     | false =>
      obtain rfl:false=v:=by have:=t.out;rw[d rfl] at this;simpa using this
      clear B h d C f t p E;go_wp2_with (go_at_call 37;refine(n.out _).mono ?_;rintro e w' ⟨rfl,z⟩;obtain rfl:=z.symm)
      go_ret
      exact⟨rfl,by rw[A.out];exact Ad.refl _⟩
     | true =>
      clear B h d C f t p;go_wp2_with (go_at_call 37;refine(n.out _).mono ?_;rintro e w' ⟨rfl,z⟩;obtain rfl:=z.symm)
      go_roundw
      case rel=>exact⟨k+1,by omega,by go_num,A,E⟩
      case measure=>simp[intOf];omega
    ·obtain rfl:k=s.size:=by omega
     have D:=p.out;rw[List.take_of_length_le (by omega)] at D;have a:=t.out;rw[D,Bool.and_true] at a;obtain⟨F,x⟩:∃b,Bp s[0]=b:=⟨_,rfl⟩;obtain⟨G,y⟩:∃b,A0 s.data.toList=b:=⟨_,rfl⟩;rw[x] at a j;rw[y] at a m;have u:Hid ((F&&!G)=v):=a;clear D a x y t p;have L:0<s.size:=by omega
     go_wp2_with fail
     refine(j.out _).mono ?_;rintro e S ⟨rfl,z⟩;obtain rfl:=z.symm;go_wp2_with fail
     refine(m.out _).mono ?_;rintro e H ⟨rfl,f⟩;have I:Hid (Ad w H):=by show Ad w H;rw[<- A.out];exact f
     clear f j m A o;cases F<;>cases G
     all_goals
      obtain rfl:=u.out;clear u;go_wp2_with fail
      go_ret
      exact⟨rfl,I.out⟩
theorem lY {op nm tx:List UInt8}{k n:Int}{kids:List PX}{x:PX}(h:Hr op nm k n tx kids x):(op=U1/\k=3/\x=Fg tx)\/(x.key=none/\(op≠U1\/k≠3)):=by
 rcases h with⟨rfl,h⟩|⟨rfl,rfl⟩|⟨rfl,rfl⟩|⟨rfl,rfl⟩|⟨h,rfl⟩|⟨rfl,rfl⟩|⟨rfl,rfl⟩|⟨rfl,rfl⟩|⟨rfl,rfl⟩|⟨rfl,rfl⟩|⟨rfl,a,b,c,rfl,rfl⟩|⟨rfl,a,b,rfl,rfl⟩|⟨h,a,b,rfl,rfl⟩|⟨rfl,a,b,rfl,rfl⟩|⟨rfl,a,rfl,rfl⟩|⟨h,a,rfl,rfl⟩|⟨h,a,rfl,rfl⟩|⟨rfl,a,b,rfl,rfl⟩|⟨rfl,a,b,c,rfl,rfl⟩|⟨h,a,b,rfl,rfl⟩
 ·rcases h with⟨e,rfl⟩|⟨e,_,rfl⟩|⟨e,_,rfl⟩|⟨e,_,_,rfl⟩|⟨e,rfl⟩
  ·exact .inr ⟨rfl,.inr (by omega)⟩
  ·exact .inr ⟨rfl,.inr (by omega)⟩
  ·exact .inr ⟨rfl,.inr (by omega)⟩
  ·exact .inr ⟨rfl,.inr (by omega)⟩
  ·exact .inl ⟨rfl,e,rfl⟩
 ·exact .inr ⟨rfl,.inl (by decide)⟩
 ·exact .inr ⟨rfl,.inl (by decide)⟩
 ·exact .inr ⟨rfl,.inl (by decide)⟩
 ·exact .inr ⟨rfl,.inl (by intro e;rw[e] at h;revert h;decide)⟩
 ·exact .inr ⟨rfl,.inl (by decide)⟩
 ·exact .inr ⟨rfl,.inl (by decide)⟩
 ·exact .inr ⟨rfl,.inl (by decide)⟩
 ·exact .inr ⟨rfl,.inl (by decide)⟩
 ·exact .inr ⟨rfl,.inl (by decide)⟩
 ·exact .inr ⟨rfl,.inl (by decide)⟩
 ·exact .inr ⟨rfl,.inl (by decide)⟩
 ·exact .inr ⟨by unfold C7;split<;>rfl,.inl (by intro e;rw[e] at h;revert h;decide)⟩
 ·exact .inr ⟨rfl,.inl (by decide)⟩
 ·exact .inr ⟨rfl,.inl (by decide)⟩
 ·exact .inr ⟨rfl,.inl (by intro e;rw[e] at h;revert h;decide)⟩
 ·exact .inr ⟨rfl,.inl (by intro e;rw[e] at h;revert h;decide)⟩
 ·exact .inr ⟨rfl,.inl (by decide)⟩
 ·exact .inr ⟨rfl,.inl (by decide)⟩
 ·exact .inr ⟨rfl,.inl (by intro e;rw[e] at h;revert h;decide)⟩
theorem Fc.node {P:Nat->Prop}{w:World}{N:Nat}{x:PX}{v:Value}(h:Fc P w N x v):∃b op a nm k n tx pa len cap kids,v=.pointer (some ⟨b,0,none⟩)/\Av w b op a nm k n tx pa len cap/\Hr op.data.toList nm.data.toList k n tx.data.toList kids x:=by
 cases N with
 | zero=>exact absurd h id
 | succ N =>
  obtain⟨b,op,nm,tx,a,k,i,pa,len,cap,kids,c,f,d,g,e⟩:=h;exact⟨b,op,a,nm,k,i,tx,pa,len,cap,kids,c,d,e⟩
theorem Ye {P:Nat->Prop}{N:Nat}(hP:PrT N)(w:World)(be g off cap:Nat)(nm:ByteArray)(f k:PX)(hn:ND P N w be ⟨#[97,116]⟩ nm g off 2 cap [f,k])(hl:(dAt f k).tx.length<=1000000000) :
  Calls Tryz.prog 51 #[.pointer (some ⟨be,0,none⟩)] w fun e w'=>e=.returned (.string ⟨(dAt f k).tx.toArray⟩)/\Ad w w':=by
 have HP:Hid (PrT N):=hP;have HN:Hid (ND P N w be _ nm g off 2 cap _):=hn;have mo:=follows;obtain⟨i,G⟩:∃l,Al f 13=l:=⟨_,rfl⟩;have L0:Hid (Al f 13=i):=G;have a4:=Bx f 13;rw[G] at a4;obtain⟨Q,c2,c8,r,E⟩:=HN.out.cells;obtain⟨v0,a6,a5⟩:=HN.out.2.2.2 0 _ rfl;obtain⟨v1,U,S⟩:=HN.out.2.2.2 1 _ rfl;obtain⟨O,Y,ak,nk,kk,ik,A,pk,lk,ck,a8,rfl,hk,hm⟩:=S.node;have HK:Hid (Av w O Y ak nk kk ik A pk lk ck):=hk;have C:Hid (Fc P w N k (.pointer (some ⟨O,0,none⟩))):=S;have a2:(dAt f k).tx=i++(match k.key with|some n=>46::n|none=>91::(k.tx++[93])):=by rw[<- G];rfl
 rw[a2] at hl |-;obtain⟨T,a⟩:∃T,i++(match k.key with|some n=>46::n|none=>91::(k.tx++[93]))=T:=⟨_,rfl⟩;have H:Hid (i++(match k.key with|some n=>46::n|none=>91::(k.tx++[93]))=T):=a;have o:Hid (T.length<=1000000000):=by show _<=_;rw[<- a];exact hl
 rw[a];have j:f.tx.length<=1000000000:=by simp only[List.length_append] at hl;omega
 have K:Hid (Calls _ _ _ _ _):=HP.out P w _ v0 13 a5 j (by omega);rw[L0.out] at K;rw[Nat.add_zero] at a6;have I:=lY hm;obtain⟨bn,R⟩:∃b,Ff A.data.toList=b:=⟨_,rfl⟩;have a0:Hid (∀W,Calls Tryz.prog 79 #[.string A] W fun e w'=>e=.returned (.bool bn)/\Ad W w'):=fun W=>by have:=Ov A W;rw[R] at this;exact this
 have m:Hid _:=I;have u:Hid (Ff A.data.toList=bn):=R;clear hn hP G a5 S hk hm a2 a hl I R a4;go_enter Tryz.func51,Tryz.ntmps51
 go_wp2_with fail
 refine K.out.mono ?_;rintro e W1 ⟨rfl,x⟩;have G1:Hid (Ad w W1):=x;have M:Hid (ND P N W1 be _ nm g off _ cap _):=HN.out.grew x;have v:Hid (Av W1 O Y ak nk kk ik A pk lk ck):=HK.out.grew x;have U:=(World.cell?_of_block (w:=w) (x.below.block g E)).trans U;clear x Q c2 c8 r E a6 K HK;obtain⟨Q,c2,c8,r,E⟩:=M.out.cells;have k0:=Aa v.out 0;have k3:=Aa v.out 3;have k5:=Aa v.out 5;have a1:=Ac v.out;go_wp2_with fail
 refine(a0.out _).mono ?_;rintro e Z ⟨rfl,D⟩;have J:Hid (Ad w Z):=G1.out.trans D;have q:Hid (ND P N Z be _ nm g off _ cap _):=M.out.grew D;have p:Hid (Av Z O Y ak nk kk ik A pk lk ck):=v.out.grew D;clear D Q c2 c8 r E U a0 M v k0 k3 k5 a1 HN;obtain⟨Q,-,-,r,-⟩:=q.out.cells;have k0:=Aa p.out 0;have k3:=Aa p.out 3;have k5:=Aa p.out 5;have a1:=Ac p.out;rcases m.out with⟨t,rfl,F⟩|⟨s,t⟩
 ·have a3:(Y.toList==[118,97,108,117,101])=true:=by rw[ByteArray.toList_eq,t];decide
  cases bn with
  | true =>
   have s:k.key=some A.data.toList:=by rw[F];unfold Fg;rw[u.out];rfl
   have a:=H.out;rw[s] at a;simp only at a;have B:i.length+1+A.size<=1000000000:=by have:=o.out;rw[<- a] at this;simp at this;omega
   have L:Hid ((⟨i.toArray⟩:ByteArray)++⟨#[46]⟩++A=⟨T.toArray⟩):=by show _=_;rw[<- a];exact ByteArray.ext (by simp[ByteArray.data_append])
   have V:¬9223372036854775807<i.length+1:=by omega
   have X:¬9223372036854775807<i.length+1+A.size:=by omega
   clear B a H o s F t m u C;go_wp2_with fail
   go_ret
   exact⟨congrArg (fun b=>Ending.returned (Value.string b)) L.out,J.out⟩
  | false =>
   have s:k.key=none:=by rw[F];unfold Fg;rw[u.out];rfl
   clear F t;have a:=H.out;rw[s] at a;simp only at a;have B:i.length+1+k.tx.length+1<=1000000000:=by have:=o.out;rw[<- a] at this;simp at this;omega
   have c:Hid (Calls _ _ _ _ _):=HP.out P Z k (.pointer (some ⟨O,0,none⟩)) 0 (C.out.grew J.out) (by omega) (by omega);rw[Hx] at c;obtain⟨z,j⟩:∃l,k.tx=l:=⟨_,rfl⟩;rw[j] at c B a;have L:Hid ((⟨i.toArray⟩:ByteArray)++⟨#[91]⟩++⟨z.toArray⟩++⟨#[93]⟩=⟨T.toArray⟩):=by show _=_;rw[<- a];exact ByteArray.ext (by simp[ByteArray.data_append])
   have V:¬9223372036854775807<i.length+1:=by omega
   have X:¬9223372036854775807<i.length+1+z.length:=by omega
   have a7:¬9223372036854775807<i.length+1+z.length+1:=by omega
   clear B a H o j m u;go_wp2_with fail
   refine c.out.mono ?_;rintro e W3 ⟨rfl,d⟩;have G3:Hid (Ad w W3):=J.out.trans d;obtain⟨Q,-,-,r,-⟩:=(q.out.grew d).cells;clear d q p;go_wp2_with fail
   go_ret
   exact⟨congrArg (fun b=>Ending.returned (Value.string b)) L.out,G3.out⟩
 ·by_cases y:Y.data.toList=U1
  ·have a3:(Y.toList==[118,97,108,117,101])=true:=by rw[ByteArray.toList_eq,y];decide
   have a9:(kk==3)=false:=by
    rcases t with h|h
    ·exact absurd y h
    ·rw[beq_eq_false_iff_ne];exact h
   clear y t;have a:=H.out;rw[s] at a;simp only at a;have B:i.length+1+k.tx.length+1<=1000000000:=by have:=o.out;rw[<- a] at this;simp at this;omega
   have c:Hid (Calls _ _ _ _ _):=HP.out P Z k (.pointer (some ⟨O,0,none⟩)) 0 (C.out.grew J.out) (by omega) (by omega);rw[Hx] at c;obtain⟨z,j⟩:∃l,k.tx=l:=⟨_,rfl⟩;rw[j] at c B a;have L:Hid ((⟨i.toArray⟩:ByteArray)++⟨#[91]⟩++⟨z.toArray⟩++⟨#[93]⟩=⟨T.toArray⟩):=by show _=_;rw[<- a];exact ByteArray.ext (by simp[ByteArray.data_append])
   have V:¬9223372036854775807<i.length+1:=by omega
   have X:¬9223372036854775807<i.length+1+z.length:=by omega
   have a7:¬9223372036854775807<i.length+1+z.length+1:=by omega
   clear B a H o j m u;go_wp2_with fail
   refine c.out.mono ?_;rintro e W3 ⟨rfl,d⟩;have G3:Hid (Ad w W3):=J.out.trans d;obtain⟨Q,-,-,r,-⟩:=(q.out.grew d).cells;clear d q p;go_wp2_with fail
   go_ret
   exact⟨congrArg (fun b=>Ending.returned (Value.string b)) L.out,G3.out⟩
  ·have a3:(Y.toList==[118,97,108,117,101])=false:=by rw[ByteArray.toList_eq,beq_eq_false_iff_ne];exact y
   clear y t;have a:=H.out;rw[s] at a;simp only at a;have B:i.length+1+k.tx.length+1<=1000000000:=by have:=o.out;rw[<- a] at this;simp at this;omega
   have c:Hid (Calls _ _ _ _ _):=HP.out P Z k (.pointer (some ⟨O,0,none⟩)) 0 (C.out.grew J.out) (by omega) (by omega);rw[Hx] at c;obtain⟨z,j⟩:∃l,k.tx=l:=⟨_,rfl⟩;rw[j] at c B a;have L:Hid ((⟨i.toArray⟩:ByteArray)++⟨#[91]⟩++⟨z.toArray⟩++⟨#[93]⟩=⟨T.toArray⟩):=by show _=_;rw[<- a];exact ByteArray.ext (by simp[ByteArray.data_append])
   have V:¬9223372036854775807<i.length+1:=by omega
   have X:¬9223372036854775807<i.length+1+z.length:=by omega
   have a7:¬9223372036854775807<i.length+1+z.length+1:=by omega
   clear B a H o j m u;go_wp2_with fail
   refine c.out.mono ?_;rintro e W3 ⟨rfl,d⟩;have G3:Hid (Ad w W3):=J.out.trans d;obtain⟨Q,-,-,r,-⟩:=(q.out.grew d).cells;clear d q p;go_wp2_with fail
   go_ret
   exact⟨congrArg (fun b=>Ending.returned (Value.string b)) L.out,G3.out⟩
theorem Vk {P:Nat->Prop}{N:Nat}(hP:PrT N)(w:World)(be g off cap:Nat)(nm:ByteArray)(f k v:PX)(hn:ND P N w be ⟨#[112,117,116]⟩ nm g off 3 cap [f,k,v])(hl:(Gp f k v).tx.length<=1000000000) :
  Calls Tryz.prog 51 #[.pointer (some ⟨be,0,none⟩)] w fun e w'=>e=.returned (.string ⟨(Gp f k v).tx.toArray⟩)/\Ad w w':=by
 have S:Hid (PrT N):=hP;have x:Hid (ND P N w be _ nm g off 3 cap _):=hn;have mo:=follows;obtain⟨h,d⟩:∃l,Al f 13=l:=⟨_,rfl⟩;have L0:Hid (Al f 13=h):=d;have J:=Bx f 13;rw[d] at J;obtain⟨q,C,D,a,G⟩:=x.out.cells;obtain⟨v0,M,K⟩:=x.out.2.2.2 0 _ rfl;obtain⟨v1,u,t⟩:=x.out.2.2.2 1 _ rfl;obtain⟨v2,a2,L⟩:=x.out.2.2.2 2 _ rfl;obtain⟨Q,op,ak,nk,kk,ik,O,pk,lk,ck,a5,rfl,hk,-⟩:=t.node;have HK:Hid (Av w Q op ak nk kk ik O pk lk ck):=hk;have A:Hid (Fc P w N k (.pointer (some ⟨Q,0,none⟩))):=t;have B:Hid (Fc P w N v v2):=L;have Y:(Gp f k v).tx=h++91::(k.tx++[32,58,61,32]++v.tx++[93]):=by rw[<- d];rfl
 rw[Y] at hl;simp only[List.length_append,List.length_cons,List.length_nil] at hl;have a1:f.tx.length<=1000000000:=by omega
 have i:Hid (Calls _ _ _ _ _):=S.out P w _ v0 13 K a1 (by omega);rw[L0.out] at i;rw[Nat.add_zero] at M;have a0:k.tx.length<=1000000000:=by omega
 have a4:v.tx.length<=1000000000:=by omega
 have HE:Hid ((⟨h.toArray⟩:ByteArray)++⟨#[91]⟩++⟨k.tx.toArray⟩++⟨#[32,58,61,32]⟩++⟨v.tx.toArray⟩++⟨#[93]⟩=⟨(Gp f k v).tx.toArray⟩):=by show _=_;rw[Y];exact ByteArray.ext (by simp[ByteArray.data_append])
 have a6:¬9223372036854775807<h.length+1:=by omega
 have a7:¬9223372036854775807<h.length+1+k.tx.length:=by omega
 have a8:¬9223372036854775807<h.length+1+k.tx.length+4:=by omega
 have a9:¬9223372036854775807<h.length+1+k.tx.length+4+v.tx.length:=by omega
 have b0:¬9223372036854775807<h.length+1+k.tx.length+4+v.tx.length+1:=by omega
 obtain⟨bn,E⟩:∃b,Ff O.data.toList=b:=⟨_,rfl⟩;have z:Hid (∀W,Calls Tryz.prog 79 #[.string O] W fun e w'=>e=.returned (.bool bn)/\Ad W w'):=fun W=>by have:=Ov O W;rw[E] at this;exact this
 generalize (Gp f k v).tx=T at HE |-;clear hn hP d K t L hk Y hl E J;go_enter Tryz.func51,Tryz.ntmps51
 go_wp2_with fail
 refine i.out.mono ?_;rintro e U ⟨rfl,c⟩;have G1:Hid (Ad w U):=c;have o:Hid (ND P N U be _ nm g off _ cap _):=x.out.grew c;have n:Hid (Av U Q op ak nk kk ik O pk lk ck):=HK.out.grew c;have u:=(World.cell?_of_block (w:=w) (c.below.block g G)).trans u;clear c q C D a M i HK;obtain⟨q,C,D,a,H⟩:=o.out.cells;have k5:=Aa n.out 5;have Z:=Ac n.out;go_wp2_with fail
 refine(z.out _).mono ?_;rintro e V ⟨rfl,r⟩;have G2:Hid (Ad w V):=G1.out.trans r;have p:Hid (ND P N V be _ nm g off _ cap _):=o.out.grew r;clear r q C D a H u z o n k5 Z x;obtain⟨q,-,-,a,-⟩:=p.out.cells;have j:Hid (Calls _ _ _ _ _):=S.out P V k (.pointer (some ⟨Q,0,none⟩)) 0 (A.out.grew G2.out) a0 (by omega);rw[Hx] at j;go_wp2_with fail
 refine j.out.mono ?_;rintro e X ⟨rfl,s⟩;have R:Hid (Ad w X):=G2.out.trans s;have y:Hid (ND P N X be _ nm g off _ cap _):=p.out.grew s;have a3:=(World.cell?_of_block (w:=w) (R.out.below.block g G)).trans a2;clear s q a p j A;obtain⟨q,C,D,a,I⟩:=y.out.cells;have m:Hid (Calls _ _ _ _ _):=S.out P X v v2 0 (B.out.grew R.out) a4 (by omega);rw[Hx] at m;go_wp2_with fail
 refine m.out.mono ?_;rintro e W4 ⟨rfl,F⟩;have G4:Hid (Ad w W4):=R.out.trans F;clear F q C D a I y m B a3;go_wp2_with fail
 go_ret
 exact⟨congrArg (fun b=>Ending.returned (Value.string b)) HE.out,G4.out⟩
theorem Ln (w:World)(be:Nat)(op:ByteArray)(x:PX)(c0:w.cell? ⟨be,0,none⟩=some (.string op))(ho:op=⟨#[97,116]⟩\/op=⟨#[112,117,116]⟩)
  (hA:Calls Tryz.prog 51 #[.pointer (some ⟨be,0,none⟩)] w fun e w'=>e=.returned (.string ⟨x.tx.toArray⟩)/\Ad w w'):Cg w be x:=by
 have a:Hid (Calls _ _ _ _ _):=hA;have f:=follows;unfold Cg;generalize x.tx=T at a |-;generalize (x.rk:Int)=rk;clear hA;rcases ho with rfl|rfl
 all_goals
  go_enter Tryz.func21,Tryz.ntmps21
  go_wp2_with fail
  refine a.out.mono ?_;rintro e d ⟨rfl,b⟩;have c:Hid (Ad w d):=b;clear b;go_wp2_with fail
  go_ret
  exact⟨rfl,c.out⟩
end Go.Proofs.YtjbfcadeapphbaaGreatDoor.Sx
