/- ValueMakes: the contract of the row, second form. -/
import Derived.Test.YtdpeliifdlhhkaaGreatDoorM47
import Derived.Test.YtdpeliifdlhhkaaGreatDoorM46
import Derived.Deep.DeepHandedRow
import Derived.Deep.DeepWitnessRowRef
import Derived.Deep.Slices
import Derived.Carry
namespace Go.Proofs.YtdpeliifdlhhkaaGreatDoor
open Go.Proofs.Tryz
set_option maxRecDepth 100000
open Go.ChangeShapes Go.WideShapes Go.ChangeAt Go.RowKit
theorem Sx.bulk_one {H:Type}(d:DataW H):1<=Rows.uptoBulk d:=by
 cases d with
 | lit l=>cases l<;>simp[Rows.uptoBulk]
 | nil=>simp[Rows.uptoBulk]
 | ptr d=>simp[Rows.uptoBulk]
 | slice elems spare=>simp[Rows.uptoBulk]
 | agg parts=>simp[Rows.uptoBulk]
 | iface t d=>simp[Rows.uptoBulk]
 | map entries=>simp[Rows.uptoBulk]
 | held h=>simp[Rows.uptoBulk]
theorem Sx.bulk_part {H:Type}{d:DataW H}{l:List (DataW H)}(h:d∈l):Rows.uptoBulk d<=Rows.uptoBulkAll l:=by
 induction l with
 | nil=>cases h
 | cons x r ih =>
  simp only[Rows.uptoBulkAll];cases List.mem_cons.1 h with
  | inl e=>subst e;omega
  | inr e=>have:=ih e;omega
theorem Sx.bulk_len {H:Type}(l:List (DataW H)):l.length<=Rows.uptoBulkAll l:=by
 induction l with
 | nil=>simp[Rows.uptoBulkAll]
 | cons x r ih=>have:=Sx.bulk_one x;simp only[Rows.uptoBulkAll,List.length_cons];omega
theorem Sx.opT:∃f0 f1 f2:Field,prog.underlying 50=some (.struct #[f0,f1,f2])/\(f0.offset=0/\f1.offset=1/\f2.offset=2)/\f0.type=9/\(∃k,prog.underlying f1.type=some (.int .i64)/\k=f1.type)/\f2.type=9/\prog.cellsOf f1.type=1:=⟨_,_,_,underlying50,⟨rfl,rfl,rfl⟩,rfl,⟨_,by kernel_rfl,rfl⟩,rfl,by kernel_rfl⟩
theorem Sx.opC:prog.cellsOf 50=3:=by kernel_rfl
theorem Sx.opS:prog.underlying 46=some (.slice 50):=by kernel_rfl
theorem Sx.three {α:Type}(l:List α)(h:l.length=3):∃a b c,l=[a,b,c]:=by
 match l,h with
 | [a,b,c],_=>exact⟨a,b,c,rfl⟩
theorem Sx.open_ops {H:Type}{enc:TypeId×Value->H}{W:World}{v:Value}{d:DataW H}{p:List MemPlace}(hv:∃a len cap,v=.slice a len cap)(h:DataW.Trod enc prog W 0 (fun _=>true) true 46 v d p) :
  ∃a len cap,∃ops:List (ByteArray×Int×ByteArray),v=.slice a len cap/\len=ops.length/\Sx.IsOps W a ops/\(∀o∈ops,-9223372036854775808<=o.2.1/\o.2.1<=9223372036854775807)/\(Rows.uptoBulk d<=1048576->len<=1048576/\∀o∈ops,o.2.2.size<=1048576):=by
 obtain⟨f0,f1,f2,he,⟨o0,o1,o2⟩,t0,⟨_,t1,_⟩,t2,Y⟩:=Sx.opT;obtain⟨V,l',X,rfl⟩:=hv;obtain⟨J,h⟩:=h;rcases Deep.open_slice Sx.opS h with⟨e,_⟩|⟨a,len,cap,m,n,D,Pl,e,_,hl,_,F,hx,N⟩
 ·simp only[Value.cells,List.cons.injEq,and_true,Value.slice.injEq] at e;obtain⟨rfl,rfl,rfl⟩:=e;exact⟨none,0,0,[],rfl,rfl,.inl rfl,by simp,fun _=>⟨by omega,by simp⟩⟩
 ·simp only[Value.cells,List.cons.injEq,and_true,Value.slice.injEq] at e;obtain⟨ea,el,ec⟩:=e;subst V l' X;have a0:len<=m:=by rw[F];split<;>omega
  rw[Sx.opC] at N;have t:∀i,i<len->∃o:ByteArray×Int×ByteArray,W.cell? (a.add (i*3))=some (.string o.1)/\W.cell? (a.add (i*3+1))=some (.int .i64 o.2.1)/\W.cell? (a.add (i*3+2))=some (.string o.2.2)/\(Lit.int .i64 o.2.1).wf=true/\D i=.agg [.lit (.string o.1.data.toList),.lit (.int .i64 o.2.1),.lit (.string o.2.2.data.toList)]:=by
   intro i g;obtain⟨cs,h1,h2⟩:=N i (by omega);obtain⟨_,c,f⟩:=World.cells?_some h1;obtain⟨xs,k,E,w,_,I,C⟩:=DataW.trod_struct he h2;obtain⟨v0,v1,v2,rfl⟩:=Sx.three cs c;obtain⟨y0,y1,y2,rfl⟩:=Sx.three xs I
   ·have K:=C 0 f0 rfl;have L:=C 1 f1 rfl;have M:=C 2 f2 rfl;have Z:prog.cellsOf 9=1:=Sx.cells9;simp[o0,o1,o2,t0,t2,Y,Z] at K L M;obtain⟨s0,e0,x0,_⟩:=DataW.trod_string underlying9 K;obtain⟨i1,e1,x1,w1⟩:=DataW.trod_int t1 L;obtain⟨s2,A,x2,_⟩:=DataW.trod_string underlying9 M;obtain rfl:=List.cons.inj e0 |>.1;obtain rfl:=List.cons.inj e1 |>.1;obtain rfl:=List.cons.inj A |>.1;subst x0 x1 x2;have P:=f 0 (by omega);have Q:=f 1 (by omega);have R:=f 2 (by omega);rw[Deep.add_add] at P Q R;simp only[Prod.mk.injEq] at w;exact⟨(s0,i1,s2),by simpa using P,by simpa using Q,by simpa using R,w1,by simpa using w.1⟩
  obtain⟨q,z⟩:=Deep.choose_lt t;have c:((List.range len).map q).length=len:=by simp
  have u:∀o∈(List.range len).map q,∃i,i<len/\o=q i:=by
   intro o ho;obtain⟨i,g,rfl⟩:=List.mem_map.1 ho;exact⟨i,List.mem_range.1 g,rfl⟩
  refine⟨some a,_,_,(List.range _).map q,rfl,c.symm,?_,?_,?_⟩
  ·rcases Nat.eq_zero_or_pos len with B|B
   ·exact .inl (by rw[c];exact B)
   ·obtain⟨b,x,l⟩:=a;have r:=(z 0 B).1;have G:l=none:=by
     cases l with
     | none=>rfl
     | some s =>
      simp only[Nat.zero_mul,Addr.add,if_pos,World.cell?] at r;split at r<;>simp at r
    subst G;refine .inr ⟨b,x,rfl,?_,?_⟩
    ·rw[Nat.zero_mul] at r;exact Sx.cell_in (k:=b) (o:=x) r
    ·intro i o ho;obtain⟨g,e⟩:=List.getElem?_eq_some_iff.1 ho;rw[c] at g;have A:o=q i:=by rw[<- e];simp
     subst A;obtain⟨S,T,U,_⟩:=z i g;rw[Sx.add_plain] at S T U;exact⟨S,by rw[Nat.add_assoc];exact T,by rw[Nat.add_assoc];exact U⟩
  ·intro o ho;obtain⟨i,g,rfl⟩:=u o ho;have:=(z i g).2.2.2.1;simpa [Lit.wf,IntKind.min,IntKind.max,IntKind.signed,IntKind.bits] using this
  ·intro E;have hd:d=.slice ((List.range len).map D) ((List.range (m-len)).map fun j=>D (len+j)):=congrArg Prod.fst hx;rw[hd] at E;simp only[Rows.uptoBulk] at E;have hn:=Sx.bulk_len ((List.range len).map D);rw[List.length_map,List.length_range] at hn;refine⟨by omega,fun o ho=>?_⟩;obtain⟨i,g,rfl⟩:=u o ho;have O:=Sx.bulk_part (List.mem_map.2 ⟨i,List.mem_range.2 g,rfl⟩:D i∈(List.range len).map D);rw[(z i g).2.2.2.2] at O;simp only[Rows.uptoBulk,Rows.uptoBulkAll] at O;have y:(q i).2.2.data.toList.length=(q i).2.2.size:=by simp
   omega
theorem Ac4 (os:Os){H:Type}(enc:TypeId×Value->H):DataW.whole enc prog ((World.laidAll prog os Sx.laidL).forCall (fun _ _=>0) ⟨#[],#[.slice none 0 0],[]⟩).memory Tryz.f6.params.toList (Rows.OpenSpec.upto Rows.valueMakesSpec).vars false (#[.slice none 0 0]:Array Value).toList 8=some ([.nil],[],[]):=by kernel_rfl
theorem Ac6 (os:Os)(started:os.Started)(H:Type)(enc:TypeId×Value->H)(F:Stop.Interp) :
  ReturnsInHanded {} Tryz.checked os 6 .any ((Rows.OpenSpec.upto Rows.valueMakesSpec).preRow enc prog Tryz.f6 Rows.valueMakesUptoRow.domain false Sx.laidL) (((Rows.OpenSpec.upto Rows.valueMakesSpec).at F).post enc prog Tryz.f6 false true false false):=by
 refine returnsInHanded_of_row (C:=Tryz.checked) (s:=Rows.OpenSpec.upto Rows.valueMakesSpec) Sx.own started (by kernel_rfl) func6
  (witness_row_atRef (enc:=enc) (C:=Tryz.checked) false (World.laidAll prog os Sx.laidL) #[.slice none 0 0] (World.laidAll_os _ _ _) (by kernel_rfl) (by kernel_rfl) (by kernel_rfl)
   (OpenSpec.preRow_of_cond 8 (Ac4 os enc) (by kernel_rfl) (fun k hk=>by cases hk;kernel_rfl) (by kernel_rfl) (laidMet_laidAll _ (by kernel_rfl) (by kernel_rfl)))) ?_
 intro W i args O z y f S _ d _ T _ _;have b:∀(j:Nat) t v,Tryz.f6.params[j]?=some t->args[j]?=some v->Value.okWide prog W .any i t v:=f;have hk:Rows.uptoSmall H (O++z)=true:=d _ rfl;have m:=S;obtain⟨p,q,D,E,rfl,V,X⟩:=S;have Q:DataW.TrodAll enc prog W 0 (fun _=>true) true Tryz.f6.params.toList args.toList O p:=D;have R:DataW.TrodVars enc prog W (fun _=>true) [] z q:=E;rw[Tryz.params6] at Q b;obtain⟨Y,c,rfl,rfl,P⟩:=trodAll_one Q;obtain⟨rfl,rfl⟩:z=[]/\q=[]:=by
  cases z with
  | nil=>exact⟨rfl,R⟩
  | cons g r=>exact absurd R (by intro h;cases h)
 obtain⟨a,M,A,N,rfl,u,w,n,J⟩:=Sx.open_ops (okWide_slice Sx.opS (b 0 46 Y rfl rfl)) P;have G:Rows.uptoBulkAll ([c]++[])<=1048576:=of_decide_eq_true hk;have I:Rows.uptoBulk c<=1048576:=by
  simp only[List.append_nil,Rows.uptoBulkAll] at G;omega
 obtain⟨U,L⟩:=J I;have K:∀x∈p,x.block<W.heap.size:=fun x hx=>m.lt x (by simpa using hx);have B:Rows.valueMakesSpec.fn H ([c]++[])={ results:=[.lit (.bool true)],args:=[c] }:=by simp[Rows.valueMakesSpec]
 refine(Sx.makes_any 1022 (by omega) W a M A N (Sx.base_of_laid T) u w U n (fun o ho=>Nat.le_trans (L o ho) (by omega))).mono ?_;rintro e Z ⟨rfl,l⟩;refine⟨_,rfl,_,_,_,[],p,[],m,?_,?_,?_,?_,fun h=>by cases h⟩
 ·show DataW.TrodAll _ _ _ _ _ _ _ _ (Rows.valueMakesSpec.fn H ([c]++[])).results _;rw[B];exact trodAll_mk1 (shut_bool underlying4 true)
 ·show DataW.TrodAll _ _ _ _ _ _ _ _ (Rows.valueMakesSpec.fn H ([c]++[])).args _;rw[B];exact trodAll_mk1 (Below.trod (by kernel_rfl) (by kernel_rfl) (of_decide_eq_true (by kernel_rfl)) P l K)
 ·show DataW.TrodVars _ _ _ _ _ (Rows.valueMakesSpec.fn H ([c]++[])).vars _;rw[B];rfl
 ·exact l.frame _
end Go.Proofs.YtdpeliifdlhhkaaGreatDoor
