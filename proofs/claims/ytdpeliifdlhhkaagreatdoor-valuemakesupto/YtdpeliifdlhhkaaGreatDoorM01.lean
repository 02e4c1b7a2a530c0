/- Plain mathematics: values as text; two values that are written alike are one. Nothing of the program. -/
import Derived.Test.YtdpeliifdlhhkaaGreatDoorM00
import Derived.Lib.ItoaNum
import Derived.Lib.Bytealg
import Derived.Sort.LotA
import Derived.Sort.WalkA
namespace Go.Proofs.YtdpeliifdlhhkaaGreatDoor.Sx
def C8 (c:UInt8):Bool:=(97<=c&&c<=122)||(65<=c&&c<=90)
def Ay (c:UInt8):Bool:=48<=c&&c<=57
def C9 (c:UInt8):Bool:=C8 c||Ay c||c==95
def str (s:String):List UInt8:=s.toUTF8.data.toList
def Ct : List (List UInt8) := ["module", "constant", "atoms", "symmetric", "variable", "define", "init", "action", "fair", "weak", "strong", "invariant", "property", "and", "or", "not", "implies", "iff", "in", "union", "inter", "minus", "subset", "powerset", "flatten", "domain", "unchanged", "enabled", "always", "eventually", "until", "leadsto", "choose", "all", "some", "each", "those", "fun", "if", "then", "else", "let", "nil", "true", "false", "size", "len", "head", "tail", "append", "values", "seqs"].map str
def Bw (l:List UInt8):Bool:=Ct.contains l
def Z6:List UInt8:=[110,105,108]
def Ta:List UInt8:=[116,114,117,101]
def Nr:List UInt8:=[102,97,108,115,101]
structure gF (l:List UInt8):Prop where
 len:l.length<=16
 head:∃c r,l=c::r/\C8 c=true
 all:∀c∈l,C9 c=true
 free:Bw l=false
def Le (c:UInt8):Bool:=32<=c&&c<=126&&c != 34&&c != 92
def Au:(n:Nat)->AV n->Option Int
 | 0,_=>none
 | _+1,a=>if Ag.kind a=2 then some (Ag.int a) else none
def Cn {α:Type}(num:α->Option Int):Nat->List α->Bool
 | _,[]=>true
 | i,a::l=>num a==some (i:Int)&&Cn num (i+1) l
def A7 {α:Type}(num:α->Option Int)(l:List α):Bool:=Cn num 1 l
def wtL {α:Type}(wt:α->Nat)(l:List α):Nat:=(l.map wt).sum
def wtN {α:Type}(wt:α->Nat)(a:Ag α):Nat:=if a.kind=5 then 1+wtL wt a.keys else if a.kind=6 then 1+wtL wt a.keys+wtL wt a.vals else 1
def wt:(n:Nat)->AV n->Nat
 | 0,_=>0
 | n+1,a=>wtN (wt n) a
def jT (cl:List UInt8):List (List UInt8)->List UInt8
 | []=>cl
 | a::l=>44::32::(a++jT cl l)
def jL (cl:List UInt8):List (List UInt8)->List UInt8
 | []=>cl
 | a::l=>a++jT cl l
def jQ:List (List UInt8)->List (List UInt8)->List UInt8
 | k::ks,v::vs=>44::32::(k++58::32::(v++jQ ks vs))
 | _,_=>[93]
def jP:List (List UInt8)->List (List UInt8)->List UInt8
 | k::ks,v::vs=>k++58::32::(v++jQ ks vs)
 | _,_=>[93]
def shN {α:Type}(s:α->List UInt8)(num:α->Option Int)(a:Ag α):List UInt8 :=
 if a.kind=0 then Z6
 else if a.kind=1 then(if a.int=1 then Ta else Nr)
 else if a.kind=2 then Lib.itoa a.int
 else if a.kind=3 then 34::(a.text++[34])
 else if a.kind=4 then a.text
 else if a.kind=5 then 123::jL [125] (a.keys.map s)
 else if A7 num a.keys then 60::60::jL [62,62] (a.vals.map s)
 else 91::jP (a.keys.map s) (a.vals.map s)
def sh:(n:Nat)->AV n->List UInt8
 | 0,_=>[]
 | n+1,a=>shN (sh n) (Au n) a
def Asc {α:Type}(c:α->α->Int)(l:List α):Prop:=l.Pairwise fun a b=>c a b<0
def wfN {α:Type}(W:α->Prop)(c:α->α->Int)(wt:α->Nat)(a:Ag α):Prop :=
 a=Ar\/(∃b,a=Bj b)\/(∃n,a=Cu n/\-9223372036854775808<=n/\n<=9223372036854775807) \/
 (∃l,a=Dm l/\∀c∈l,Le c=true)\/(∃l,a=D9 l/\gF l) \/
 (∃es,a=Bt es/\(∀x∈es,W x)/\Asc c es/\1+wtL wt es<=1024) \/
 (∃ks vs,a=Dd ks vs/\(∀x∈ks,W x)/\(∀x∈vs,W x)/\Asc c ks/\ks.length=vs.length/\1+wtL wt ks+wtL wt vs<=1024)
def WF:(n:Nat)->AV n->Prop
 | 0,_=>True
 | n+1,a=>wfN (WF n) (Al n) (wt n) a
def isW (c:UInt8):Bool:=C9 c||c==45
theorem cB (c:UInt8)(h:Ay c=true):c≠45/\C8 c=false:=by
 simp[Ay,UInt8.le_iff_toNat_le] at h;refine⟨fun e=>by subst e;simp at h,?_⟩;simp[C8,UInt8.le_iff_toNat_le];omega
section
variable {α:Type} (s:α->List UInt8) (num:α->Option Int)
theorem kX (b:Bool):shN s num (Bj b)=if b then Ta else Nr:=by cases b<;>rfl
theorem uU (l:List UInt8):shN s num (Dm l)=34::(l++[34]):=rfl
theorem gG (ks vs:List α)(h:A7 num ks=true):shN s num (Dd ks vs)=60::60::jL [62,62] (vs.map s):=by
 show(if A7 num ks=true then _ else _)=_;rw[if_pos h];rfl
theorem qA (ks vs:List α)(h:¬A7 num ks=true):shN s num (Dd ks vs)=91::jP (ks.map s) (vs.map s):=by
 show(if A7 num ks=true then _ else _)=_;rw[if_neg h];rfl
def kd (a:Ag α):Nat :=
 if a.kind=3 then 1 else if a.kind=5 then 2 else if a.kind=6 then(if A7 num a.keys then 3 else 4) else 0
def first (k:Nat)(c:UInt8):Bool :=
 if k=0 then isW c else if k=1 then c==34 else if k=2 then c==123 else if k=3 then c==60 else if k=4 then c==91 else false
variable (W:α->Prop) (c:α->α->Int) (wta:α->Nat)
end
/-- all rows of k elements -/
def Ak {α:Type}(bs:List α):Nat->List (List α)
 | 0=>[[]]
 | k+1=>(Ak bs k).flatMap fun r=>bs.map fun b=>r++[b]
theorem Co {α:Type}{bs:List α}:∀(k:Nat)(r:List α),r∈Ak bs k->r.length=k
 | 0,r,h=>by simp[Ak] at h;subst h;rfl
 | k+1,r,h=>by
  simp only[Ak,List.mem_flatMap,List.mem_map] at h;obtain⟨q,hq,b,_,rfl⟩:=h;simp[Co k q hq]
theorem Ft {α:Type}{bs:List α}:∀(k:Nat)(r:List α),r∈Ak bs k->∀x∈r,x∈bs
 | 0,r,h,x,hx=>by simp[Ak] at h;subst h;simp at hx
 | k+1,r,h,x,hx=>by
  simp only[Ak,List.mem_flatMap,List.mem_map] at h;obtain⟨q,hq,b,hb,rfl⟩:=h;rcases List.mem_append.1 hx with h|h
  ·exact Ft k q hq x h
  ·simp at h;subst h;exact hb
theorem Fu {α:Type}(bs:List α)(k:Nat):(Ak bs (k+1)).length=(Ak bs k).length*bs.length:=by
 simp only[Ak,List.length_flatMap,List.length_map]
 induction Ak bs k with
 | nil=>simp
 | cons r l ih=>simp only[List.map_cons,List.sum_cons,ih,List.length_cons,Nat.succ_mul];omega
theorem cC {α:Type}{bs:List α}(hb:0<bs.length)(k:Nat):(Ak bs k).length<=(Ak bs (k+1)).length:=by
 rw[Fu];exact Nat.le_mul_of_pos_right _ hb
theorem Yc {α:Type}{bs:List α}(hb:0<bs.length){k j:Nat}(h:k<=j):(Ak bs k).length<=(Ak bs j).length:=by
 induction j with
 | zero =>
  obtain rfl:k=0:=by omega
  exact Ad9 _
 | succ j ih =>
  rcases Nat.lt_or_ge j k with a|a
  ·obtain rfl:k=j+1:=by omega
   exact Ad9 _
  ·exact Ae0 (ih a) (cC hb j)
theorem gH {α:Type}{bs:List α}(hb:0<bs.length)(k:Nat):0<(Ak bs k).length:=Ad8 (by simp[Ak]) (Yc hb (Ae1 k))
theorem Tb {α:Type}(k:Nat):Ak ([]:List α) (k+1)=[]:=by
 simp[Ak]
theorem Yd {α:Type}{c:α->α->Int}(b b':α):∀r r':List α,r.length=r'.length->Ew c (r++[b]) (r'++[b'])=A4 (Ew c r r') (c b b')
 | [],[],_=>by
  show A4 (c b b') 0=A4 0 (c b b');unfold A4;split<;>simp_all
 | [],_::_,h=>by simp at h
 | _::_,[],h=>by simp at h
 | x::r,y::r',h=>by
  show A4 (c x y) (Ew c (r++[b]) (r'++[b']))=A4 (A4 (c x y) (Ew c r r')) (c b b');rw[Yd b b' r r' (by simpa using h)];unfold A4;repeat' split
  all_goals simp_all
theorem P5 {α:Type}{c:α->α->Int}(h:Er c){bs:List α}(hb:Asc c bs):∀k,Asc (Ew c) (Ak bs k)
 | 0=>List.pairwise_singleton _ _
 | k+1=>by
  unfold Asc;simp only[Ak];rw[List.pairwise_flatMap];have key:∀r∈Ak bs k,∀r'∈Ak bs k,∀b b',Ew c (r++[b]) (r'++[b'])=A4 (Ew c r r') (c b b'):=fun r hr r' hr' b b'=>Yd b b' r r' (by rw[Co k r hr,Co k r' hr']);refine⟨fun r hr=>?_,?_⟩
  ·rw[List.pairwise_map];refine List.Pairwise.imp ?_ hb;intro b b' hbb;rw[key r hr r hr,(cA h).self r];simpa [A4] using hbb
  ·have ih:=P5 h hb k;refine List.Pairwise.imp_of_mem ?_ ih;intro r r' hr hr' hlt x hx y hy;obtain⟨b,_,rfl⟩:=List.mem_map.1 hx;obtain⟨b',_,rfl⟩:=List.mem_map.1 hy;rw[key r hr r' hr'];unfold A4;rw[if_neg (by omega)];exact hlt
def Cj {α:Type}(es:List α):Nat->List (List α)
 | 0=>[[]]
 | k+1=>Cj es k++(Cj es k).map (·++(es[k]?).toList)
theorem Mf {α:Type}(es:List α):∀k,(Cj es k).length=2 ^ k
 | 0=>rfl
 | k+1=>by simp only[Cj,List.length_append,List.length_map,Mf es k,Nat.pow_succ];omega
def Da {α:Type}(es:List α)(p:Nat):Nat->List α
 | 0=>[]
 | k+1=>Da es p k++(if p.testBit k then(es[k]?).toList else[])
theorem U4 {α:Type}(es:List α)(p q:Nat):∀k,(∀i,i<k->p.testBit i=q.testBit i)->Da es p k=Da es q k
 | 0,_=>rfl
 | k+1,h=>by simp only[Da,U4 es p q k (fun i hi=>h i (by omega)),h k (by omega)]
theorem Kw {α:Type}(es:List α):∀k,Cj es k=(List.range (2 ^ k)).map fun p=>Da es p k
 | 0=>by simp[Cj,Da]
 | k+1=>by
  have e:2 ^ (k+1)=2 ^ k+2 ^ k:=by rw[Nat.pow_succ];omega
  rw[e,List.range_add,List.map_append,List.map_map];simp only[Cj];rw[Kw es k,List.map_map]
  congr 1
  ·refine List.map_congr_left fun p hp=>?_;have a:p<2 ^ k:=by simpa using hp
   simp[Da,Nat.testBit_lt_two_pow a]
  ·refine List.map_congr_left fun p hp=>?_;have a:p<2 ^ k:=by simpa using hp
   show Da es p k++_=Da es (2 ^ k+p) (k+1);have b:(2 ^ k+p).testBit k=true:=by rw[Nat.testBit_two_pow_add_eq,Nat.testBit_lt_two_pow a];rfl
   simp only[Da,b,if_true];rw[U4 es (2 ^ k+p) p k fun i hi=>Nat.testBit_two_pow_add_gt hi p]
theorem Ke {α:Type}(es:List α)(p:Nat):∀k,(Da es p k).Sublist es:=by
 have a:∀k,(Da es p k).Sublist (es.take k):=by
  intro k
  induction k with
  | zero=>simp[Da]
  | succ k ih =>
   simp only[Da,List.take_add_one];refine ih.append ?_;split
   ·exact List.Sublist.refl _
   ·exact List.nil_sublist _
 exact fun k=>(a k).trans (List.take_sublist k es)
section
variable {α:Type} (e:α->α->Bool)
def goC:α->List α->List α
 | _,[]=>[]
 | p,y::l=>if e y p then goC y l else y::goC y l
def D6:List α->List α
 | []=>[]
 | x::l=>x::goC e x l
theorem Qo {xs:List α}{p:α}{k:Nat}{y:α}(h:xs[k]?=some y):goC e p (xs.drop k)=if e y p then goC e y (xs.drop (k+1)) else y::goC e y (xs.drop (k+1)):=by
 obtain⟨b,a⟩:=List.getElem?_eq_some_iff.1 h;rw[List.drop_eq_getElem_cons b,a];rfl
theorem Tf {xs:List α}{x:α}(h:xs[0]?=some x):D6 e xs=xs.take 1++goC e x (xs.drop 1):=by
 cases xs with
 | nil=>simp at h
 | cons a l=>simp at h;subst h;rfl
theorem vA (p:α)(l:List α):(goC e p l).length<=l.length:=by
 induction l generalizing p with
 | nil=>exact Nat.le_refl _
 | cons y l ih =>
  simp only[goC];split
  ·exact Nat.le_succ_of_le (ih y)
  ·simpa using ih y
theorem Ym (l:List α):(D6 e l).length<=l.length:=by
 cases l with
 | nil=>exact Nat.le_refl _
 | cons x l=>simpa [D6] using vA e x l
theorem vB (p:α)(l:List α):∀x∈goC e p l,x∈l:=by
 induction l generalizing p with
 | nil=>simp[goC]
 | cons y l ih =>
  intro x a;simp only[goC] at a;split at a
  ·exact List.mem_cons_of_mem _ (ih y x a)
  ·rcases List.mem_cons.1 a with h|h
   ·rw[h];simp
   ·exact List.mem_cons_of_mem _ (ih y x h)
theorem Yn (l:List α):∀x∈D6 e l,x∈l:=by
 cases l with
 | nil=>simp[D6]
 | cons y l =>
  intro x a;rcases List.mem_cons.1 a with h|h
  ·rw[h];simp
  ·exact List.mem_cons_of_mem _ (vB e y l x h)
end
theorem P8 {α:Type}(c:α->α->Int)(rng:∀a b,c a b=-1\/c a b=0\/c a b=1)(anti:∀a b,c b a=- c a b)(trans:∀a b d,c a b<=0->c b d<=0->c a d<=0)(p:α)(l:List α)(hs:(p::l).Pairwise fun a b=>c a b<=0) :
  (p::goC (fun a b=>c a b==0) p l).Pairwise (fun a b=>c a b<0)/\∀y∈l,∃z∈p::goC (fun a b=>c a b==0) p l,c y z=0:=by
 have o:∀a b d,c a b=0->c a d<0->c b d<0:=by
  intro a b d x A;have G:=anti a b;have H:=anti a d;have F:=trans b a d (by omega) (by omega);rcases rng b d with h|h|h
  ·omega
  ·have w:=trans d b a (by have:=anti b d;omega) (by omega);have:=anti d a;omega
  ·omega
 have g:∀a b d,c a b=0->c b d=0->c a d=0:=by
  intro a b d x A;have F:=trans a b d (by omega) (by omega);have w:=trans d b a (by have:=anti b d;omega) (by have:=anti a b;omega);have:=anti a d;omega
 induction l generalizing p with
 | nil=>simp[goC]
 | cons y l ih =>
  have B:=(List.pairwise_cons.1 hs).1 y (by simp);have m:=(List.pairwise_cons.1 hs).2;obtain⟨n,s⟩:=ih y m;by_cases q:c y p=0
  ·have i:goC (fun a b=>c a b==0) p (y::l)=goC (fun a b=>c a b==0) y l:=by simp[goC,q]
   rw[i];obtain⟨D,E⟩:=List.pairwise_cons.1 n;refine⟨List.pairwise_cons.2 ⟨fun z hz=>o y p z q (D z hz),E⟩,fun z hz=>?_⟩;have j:∀u,u∈y::goC (fun a b=>c a b==0) y l->∀z,c z u=0->∃v∈p::goC (fun a b=>c a b==0) y l,c z v=0:=by
    intro u f z e;rcases List.mem_cons.1 f with h|h
    ·subst h;exact⟨p,by simp,g z u p e q⟩
    ·exact⟨u,by simp[h],e⟩
   rcases List.mem_cons.1 hz with h|h
   ·subst h;exact⟨p,by simp,q⟩
   ·obtain⟨u,f,e⟩:=s z h;exact j u f z e
  ·have i:goC (fun a b=>c a b==0) p (y::l)=y::goC (fun a b=>c a b==0) y l:=by simp[goC,q]
   rw[i];have k:c p y<0:=by have:=anti p y;rcases rng p y with h|h|h<;>omega
   refine⟨List.pairwise_cons.2 ⟨fun z hz=>?_,n⟩,fun z hz=>?_⟩
   ·rcases List.mem_cons.1 hz with h|h
    ·rw[h];exact k
    ·have C:=(List.pairwise_cons.1 n).1 z h;have t:=trans p y z (by omega) (by omega);rcases rng p z with r|r|r
     ·omega
     ·have w:=trans z p y (by have:=anti p z;omega) (by omega);have:=anti y z;omega
     ·omega
   ·rcases List.mem_cons.1 hz with h|h
    ·subst h;exact⟨z,by simp,by have:=anti z z;omega⟩
    ·obtain⟨u,f,e⟩:=s z h;exact⟨u,List.mem_cons_of_mem _ f,e⟩
section
open Go.Sort
def Qp {α:Type}(c:α->α->Int)(l m:List α):Prop:=∀x,l.filter (fun y=>c x y==0)=m.filter (fun y=>c x y==0)
theorem Qp.refl {α:Type}(c:α->α->Int)(l:List α):Qp c l l:=fun _=>rfl
theorem Qp.trans {α:Type}{c:α->α->Int}{l m n:List α}(h:Qp c l m)(k:Qp c m n):Qp c l n:=fun x=>(h x).trans (k x)
theorem Qp.find {α:Type}{c:α->α->Int}{l m:List α}(h:Qp c l m)(x:α):l.find? (fun y=>c x y==0)=m.find? (fun y=>c x y==0):=by
 rw[<- List.head?_filter,<- List.head?_filter,h x]
theorem Qp.rot {α:Type}{c:α->α->Int}(O:Er c)(P A B Q:List α)(h:∀a∈A,∀b∈B,c b a<0):Qp c (P++(A++(B++Q))) (P++(B++(A++Q))):=by
 intro x;have e:A.filter (fun y=>c x y==0)++B.filter (fun y=>c x y==0)=B.filter (fun y=>c x y==0)++A.filter (fun y=>c x y==0):=by
  by_cases q:A.filter (fun y=>c x y==0)=[]
  ·rw[q];simp
  ·obtain⟨a,i⟩:=List.exists_mem_of_ne_nil _ q;obtain⟨d,f⟩:=List.mem_filter.1 i;have:B.filter (fun y=>c x y==0)=[]:=by
    rw[List.filter_eq_nil_iff];intro b j k;have l:c x a=0:=by simpa using f
    have g:c x b=0:=by simpa using k
    have m:=h a d b j;have n:=O.sub g a;omega
   rw[this];simp
 simp only[List.filter_append];rw[<- List.append_assoc (A.filter _),<- List.append_assoc (B.filter _),e]
section
variable {α:Type}
def Fp (d e:Array α)(s m t:Nat):Prop:=∃P A B Q:List α,d.toList=P++(A++(B++Q))/\e.toList=P++(B++(A++Q))/\P.length=s/\s+A.length=m/\m+B.length=t
theorem yL (d:Array α)(s m t:Nat)(h1:s<=m)(h2:m<=t)(h3:t<=d.size):∃P A B Q:List α,d.toList=P++(A++(B++Q))/\P.length=s/\s+A.length=m/\m+B.length=t:=by
 refine⟨d.toList.take s,(d.toList.drop s).take (m-s),(d.toList.drop m).take (t-m),d.toList.drop t,?_,?_,?_,?_⟩
 ·have a:d.toList.drop m=(d.toList.drop m).take (t-m)++d.toList.drop t:=by
   conv=>lhs;rw[<- List.take_append_drop (t-m) (d.toList.drop m)]
   rw[List.drop_drop,show m+(t-m)=t from by omega]
  have b:d.toList.drop s=(d.toList.drop s).take (m-s)++d.toList.drop m:=by
   conv=>lhs;rw[<- List.take_append_drop (m-s) (d.toList.drop s)]
   rw[List.drop_drop,show s+(m-s)=m from by omega]
  rw[<- a,<- b,List.take_append_drop]
 ·simp;omega
 ·simp;omega
 ·simp;omega
theorem Fp.size {d e:Array α}{s m t:Nat}(h:Fp d e s m t):e.size=d.size:=by
 obtain⟨P,A,B,Q,c,f,_⟩:=h;have a:=congrArg List.length c;have b:=congrArg List.length f;simp at a b;omega
theorem Fp.le {d e:Array α}{s m t:Nat}(h:Fp d e s m t):s<=m/\m<=t/\t<=d.size:=by
 obtain⟨P,A,B,Q,b,c,f,g,i⟩:=h;have a:=congrArg List.length b;simp at a;omega
theorem Ac3 (d:Array α)(s t:Nat)(h:s<=t)(h2:t<=d.size):Fp d d s s t:=by
 obtain⟨P,A,B,Q,a,b,c,e⟩:=yL d s s t (Ad9 _) h h2;obtain rfl:A=[]:=List.length_eq_zero_iff.1 (by omega);exact⟨P,[],B,Q,a,a,b,c,e⟩
theorem Ac5 (d:Array α)(s t:Nat)(h:s<=t)(h2:t<=d.size):Fp d d s t t:=by
 obtain⟨P,A,B,Q,a,b,c,e⟩:=yL d s t t h (Ad9 _) h2;obtain rfl:B=[]:=List.length_eq_zero_iff.1 (by omega);exact⟨P,A,[],Q,a,a,b,c,e⟩
end
theorem Yo {α:Type}{c:α->α->Int}(O:Er c){x y z:α}(h1:c x y<0)(h2:c y z<=0):c x z<0:=by
 have:=O.trans x y z (by omega) h2;rcases O.rng x z with q|q|q
 ·omega
 ·have:=O.sub q y;have:=O.anti y z;omega
 ·omega
theorem cM {α:Type}{c:α->α->Int}(O:Er c){x y z:α}(h1:c x y<=0)(h2:c y z<0):c x z<0:=by
 have a:=O.anti z y;have b:=O.anti y x;have d:=O.trans x y z h1 (by omega);rcases O.rng x z with q|q|q
 ·omega
 ·have:=O.sub q y;have:=O.anti z y;omega
 ·omega
section
variable {α:Type} [Inhabited α]
theorem Fw (d:Array α)(i:Nat):d[i]! = (d.toList[i]?).getD default:=by
 simp[getElem!_def];cases d[i]?<;>rfl
theorem Fp.out {d e:Array α}{s m t:Nat}(h:Fp d e s m t)(i:Nat)(hi:i<s\/t<=i):e[i]! = d[i]!:=by
 obtain⟨P,A,B,Q,a,b,c,f,g⟩:=h;rw[Fw,Fw,a,b]
 congr 1
 by_cases q:i<P.length
 ·rw[List.getElem?_append_left q,List.getElem?_append_left q]
 ·rw[List.getElem?_append_right (by omega),List.getElem?_append_right (by omega),List.getElem?_append_right (by omega),List.getElem?_append_right (by omega),List.getElem?_append_right (by omega),List.getElem?_append_right (by omega)]
  congr 1
  omega
theorem Fp.lo {d e:Array α}{s m t:Nat}(h:Fp d e s m t)(i:Nat)(h6:s<=i)(h7:i<s+(t-m)):e[i]! = d[i+(m-s)]!:=by
 obtain⟨P,A,B,Q,a,b,c,f,g⟩:=h;rw[Fw,Fw,a,b]
 congr 1
 rw[List.getElem?_append_right (by omega),List.getElem?_append_left (by omega),List.getElem?_append_right (by omega),List.getElem?_append_right (by omega),List.getElem?_append_left (by omega)]
 congr 1
 omega
theorem Fp.hi {d e:Array α}{s m t:Nat}(h:Fp d e s m t)(i:Nat)(h6:s+(t-m)<=i)(h7:i<t):e[i]! = d[i-(t-m)]!:=by
 obtain⟨P,A,B,Q,a,b,c,f,g⟩:=h;rw[Fw,Fw,a,b]
 congr 1
 rw[List.getElem?_append_right (by omega),List.getElem?_append_right (by omega),List.getElem?_append_left (by omega),List.getElem?_append_right (by omega),List.getElem?_append_left (by omega)]
 congr 1
 omega
theorem aE {e:Array α}{l:List α}(hs:e.size=l.length)(h:∀i,i<l.length->e[i]! = (l[i]?).getD default):e.toList=l:=by
 apply List.ext_getElem
 ·simpa using hs
 ·intro i b a;have:=h i a;rw[getElem!_pos e i (by simpa using b),List.getElem?_eq_getElem a] at this;simpa using this
theorem cN {d:Array α}{P M Q:List α}{x y:α}(h:d.toList=P++(x::(M++(y::Q)))):(swp d P.length (P.length+1+M.length)).toList=P++(y::(M++(x::Q))):=by
 have f:=congrArg List.length h;simp at f;have g:d[P.length]! = x:=by rw[Fw,h];simp
 have l:d[P.length+1+M.length]! = y:=by
  rw[Fw,h,List.getElem?_append_right (by omega),show P.length+1+M.length-P.length=M.length+1 from by omega,List.getElem?_cons_succ,List.getElem?_append_right (by omega)];simp
 refine aE (by rw[swp_size];simp;omega) fun i hi=>?_;rw[swp_get d (by omega) (by omega),g,l,Fw,h];by_cases a:i=P.length+1+M.length
 ·rw[if_pos a,a,List.getElem?_append_right (by omega),show P.length+1+M.length-P.length=M.length+1 from by omega,List.getElem?_cons_succ,List.getElem?_append_right (by omega)];simp
 ·rw[if_neg a];by_cases b:i=P.length
  ·rw[if_pos b,b];simp
  ·rw[if_neg b]
   congr 1
   by_cases c:i<P.length
   ·rw[List.getElem?_append_left c,List.getElem?_append_left c]
   ·obtain⟨j,rfl⟩:∃j,i=P.length+(j+1):=⟨i-P.length-1,by omega⟩;rw[List.getElem?_append_right (by omega),List.getElem?_append_right (by omega),show P.length+(j+1)-P.length=j+1 from by omega,List.getElem?_cons_succ,List.getElem?_cons_succ];by_cases e:j<M.length
    ·rw[List.getElem?_append_left e,List.getElem?_append_left e]
    ·obtain⟨k,rfl⟩:∃k,j=M.length+(k+1):=⟨j-M.length-1,by omega⟩;rw[List.getElem?_append_right (by omega),List.getElem?_append_right (by omega),show M.length+(k+1)-M.length=k+1 from by omega,List.getElem?_cons_succ,List.getElem?_cons_succ]
theorem qG (d:Array α)(i j:Nat)(hi:i<d.size)(hj:j<d.size):swp d i j=swp d j i:=by
 apply Array.toList_inj.1;refine aE (by simp[swp_size]) fun k hk=>?_;rw[<- Fw,swp_get d hi hj,swp_get d hj hi];by_cases q:k=j
 ·by_cases r:k=i
  ·subst q;subst r;rfl
  ·rw[if_pos q,if_neg r,if_pos q]
 ·rw[if_neg q];by_cases r:k=i
  ·rw[if_pos r,if_pos r]
  ·rw[if_neg r,if_neg r,if_neg q]
theorem Fp.up {d e:Array α}{a k:Nat}(h:Fp d e a (a+1) (k+1))(hk:k+1<d.size):Fp d (swp e k (k+1)) a (a+1) (k+2):=by
 obtain⟨P,A,B,Q,b,g,i,h4,j⟩:=h
 match A,h4 with
 | [],h4=>simp at h4
 | x::y::A,h4=>simp at h4
 | [x],_ =>
  have c:=congrArg List.length b;simp at c
  match Q with
  | []=>simp at c;omega
  | q::Q =>
   have f:e.toList=(P++B)++(x::([]++(q::Q))):=by rw[g];simp
   have:=cN f;rw[show(P++B).length=k from by simp;omega] at this;refine⟨P,[x],B++[q],Q,by rw[b];simp,?_,i,rfl,by simp;omega⟩;simp only[List.length_nil,Nat.add_zero] at this;rw[this];simp
theorem Fp.down {d e:Array α}{m k:Nat}(h:Fp d e (k+1) m (m+1)):Fp d (swp e (k+1) k) k m (m+1):=by
 have j:=h.le;have l:=h.size;obtain⟨P,A,B,Q,g,i,b,n,h5⟩:=h
 match B,h5 with
 | [],h5=>simp at h5
 | x::y::B,h5=>simp at h5
 | [y],_ =>
  obtain⟨a,p,rfl⟩:∃a p,P=a++[p]:=by
   have:P≠[]:=fun q=>by rw[q] at b;simp at b
   exact⟨_,_,(List.dropLast_concat_getLast this).symm⟩
  have c:a.length=k:=by simpa using b
  have f:e.toList=a++(p::([]++(y::(A++Q)))):=by rw[i];simp
  have:=cN f;simp only[List.length_nil,Nat.add_zero,c] at this;rw[qG e (k+1) k (by omega) (by omega)];exact⟨a,p::A,[y],Q,by rw[g];simp,by rw[this];simp,c,by simp;omega,rfl⟩
structure Stb (c:α->α->Int)(a b:Nat)(d e:Array α):Prop where
 size:e.size=d.size
 out:∀i,i<a\/b<=i->e[i]! = d[i]!
 cls:Qp c d.toList e.toList
 mem:∀i,a<=i->i<b->∃j,a<=j/\j<b/\e[i]! = d[j]!
def Srt (c:α->α->Int)(d:Array α)(a b:Nat):Prop:=∀i j,a<=i->i<j->j<b->c d[i]! d[j]!<=0
variable {c:α->α->Int}
theorem Stb.refl (c:α->α->Int)(a b:Nat)(d:Array α):Stb c a b d d:=⟨rfl,fun _ _=>rfl,Qp.refl _ _,fun i h1 h2=>⟨i,h1,h2,rfl⟩⟩
theorem Stb.trans {a b:Nat}{d e f:Array α}(h:Stb c a b d e)(k:Stb c a b e f):Stb c a b d f :=
 ⟨k.size.trans h.size,fun i hi=>(k.out i hi).trans (h.out i hi),h.cls.trans k.cls,fun i h1 h2=>by
  obtain⟨j,j1,j2,e1⟩:=k.mem i h1 h2;obtain⟨l,l1,l2,e2⟩:=h.mem j j1 j2;exact⟨l,l1,l2,e1.trans e2⟩⟩
theorem Stb.mono {a b a' b':Nat}{d e:Array α}(h:Stb c a b d e)(ha:a'<=a)(hb:b<=b'):Stb c a' b' d e :=
 ⟨h.size,fun i hi=>h.out i (by omega),h.cls,fun i h1 h2=>by
  by_cases q:a<=i/\i<b
  ·obtain⟨j,j1,j2,e1⟩:=h.mem i q.1 q.2;exact⟨j,by omega,by omega,e1⟩
  ·exact⟨i,h1,h2,h.out i (by omega)⟩⟩
theorem Srt.keep {a b:Nat}{d e:Array α}(h:Srt c d a b)(k:∀i,a<=i->i<b->e[i]! = d[i]!):Srt c e a b:=fun i j h1 h2 h3=>by
 rw[k i h1 (by omega),k j (by omega) h3];exact h i j h1 h2 h3
theorem Srt.sub {a b a' b':Nat}{d:Array α}(h:Srt c d a b)(ha:a<=a')(hb:b'<=b):Srt c d a' b':=fun i j h1 h2 h3=>h i j (by omega) h2 (by omega)
theorem Srt.le (O:Er c){a b:Nat}{d:Array α}(h:Srt c d a b){i j:Nat}(h1:a<=i)(h2:i<=j)(h3:j<b):c d[i]! d[j]!<=0:=by
 by_cases q:i=j
 ·subst q;rw[O.self];exact Int.le_refl _
 ·exact h i j h1 (by omega) h3
theorem Stb.rot (O:Er c){d e:Array α}{s m t:Nat}(h:Fp d e s m t)(hlt:∀i j,s<=i->i<m->m<=j->j<t->c d[j]! d[i]!<0):Stb c s t d e:=by
 refine⟨h.size,h.out,?_,fun i h1 h2=>?_⟩
 ·obtain⟨P,A,B,Q,h1,h2,g,k,l⟩:=h;rw[h1,h2];refine Qp.rot O P A B Q fun x hx y hy=>?_;obtain⟨i,a,rfl⟩:=List.getElem_of_mem hx;obtain⟨j,b,rfl⟩:=List.getElem_of_mem hy;have:=hlt (s+i) (m+j) (by omega) (by omega) (by omega) (by omega);rw[Fw,Fw,h1] at this;rw[List.getElem?_append_right (by omega),List.getElem?_append_right (by omega),List.getElem?_append_left (by omega),List.getElem?_append_right (by omega),List.getElem?_append_left (by omega)] at this;rw[show m+j-P.length-A.length=j from by omega,show s+i-P.length=i from by omega,List.getElem?_eq_getElem a,List.getElem?_eq_getElem b] at this;simpa using this
 ·have f:=h.le;by_cases q:i<s+(t-m)
  ·exact⟨i+(m-s),by omega,by omega,h.lo i h1 q⟩
  ·exact⟨i-(t-m),by omega,by omega,h.hi i (by omega) h2⟩
theorem cO (O:Er c){d e:Array α}{a i b:Nat}(hs:Srt c d (a+1) b)(h1:a+1<=i)(h2:i<=b)(lo:∀t,a+1<=t->t<i->c d[t]! d[a]!<0)(hi:∀t,i<=t->t<b->¬c d[t]! d[a]!<0)(h:Fp d e a (a+1) i):Stb c a b d e/\Srt c e a b:=by
 refine⟨(Stb.rot O h fun p q h3 h4 h5 h6=>by
  obtain rfl:p=a:=by omega
  exact lo q h5 h6).mono (Ad9 _) h2,fun p q h3 h4 h5=>?_⟩
 have j:∀p,a<=p->p<i-1->e[p]! = d[p+1]!:=fun p h6 h7=>by rw[h.lo p h6 (by omega)];congr 1;omega
 have k:e[i-1]! = d[a]!:=by rw[h.hi (i-1) (by omega) (by omega)];congr 1;omega
 have f:=fun p h6=>h.out p (.inr h6);by_cases l:p<i-1
 ·rw[j p h3 l];by_cases g:q<i-1
  ·rw[j q (by omega) g];exact hs _ _ (by omega) (by omega) (by omega)
  ·by_cases m:q=i-1
   ·rw[m,k];have:=lo (p+1) (by omega) (by omega);omega
   ·rw[f q (by omega)];exact hs _ _ (by omega) (by omega) (by omega)
 ·by_cases g:p=i-1
  ·rw[g,k,f q (by omega)];have:=hi q (by omega) h5;have:=O.anti d[q]! d[a]!;omega
  ·rw[f p (by omega),f q (by omega)];exact hs _ _ (by omega) (by omega) (by omega)
theorem gN (O:Er c){d e:Array α}{a i m:Nat}(hs:Srt c d a m)(h1:a<=i)(h2:i<=m)(lo:∀t,a<=t->t<i->¬c d[m]! d[t]!<0)(hi:∀t,i<=t->t<m->c d[m]! d[t]!<0)(h:Fp d e i m (m+1)):Stb c a (m+1) d e/\Srt c e a (m+1):=by
 refine⟨(Stb.rot O h fun p q h3 h4 h5 h6=>by
  obtain rfl:q=m:=by omega
  exact hi p h3 h4).mono h1 (Ad9 _),fun p q h3 h4 h5=>?_⟩
 have g:=fun p h6=>h.out p (.inl h6);have j:e[i]! = d[m]!:=by rw[h.lo i (by omega) (by omega)];congr 1;omega
 have b:∀p,i<p->p<=m->e[p]! = d[p-1]!:=fun p h6 h7=>by rw[h.hi p (by omega) (by omega)];congr 1;omega
 by_cases k:p<i
 ·rw[g p k];by_cases f:q<i
  ·rw[g q f];exact hs _ _ h3 h4 (by omega)
  ·by_cases l:q=i
   ·rw[l,j];have:=lo p h3 k;have:=O.anti d[m]! d[p]!;omega
   ·rw[b q (by omega) (by omega)];exact hs.le O h3 (by omega) (by omega)
 ·by_cases f:p=i
  ·rw[f,j,b q (by omega) (by omega)];have:=hi (q-1) (by omega) (by omega);omega
  ·rw[b p (by omega) (by omega),b q (by omega) (by omega)];exact hs _ _ (by omega) (by omega) (by omega)
structure Yp (c:α->α->Int)(d:Array α)(a m b mid s t:Nat):Prop where
 half:mid=(a+b) / 2
 sum:s+t=mid+m
 s1:a<=s
 s2:s<=m
 t1:m<=t
 t2:t<=b
 rot:s<m->m<t->c d[t-1]! d[s]!<0
 cross:a<s->t<b->c d[s-1]! d[t]!<=0
theorem Qq (O:Er c){d d1 d2 d3:Array α}{a m b mid s t:Nat}(h1:Srt c d a m)(h2:Srt c d m b)(F:Yp c d a m b mid s t)(hr:Fp d d1 s m t)
  (k1:Stb c a mid d1 d2) (k2:Srt c d2 a mid) (k3:Stb c mid b d2 d3) (k4:Srt c d3 mid b):Stb c a b d d3/\Srt c d3 a b:=by
 have y:=hr.le;have E:=F.half;have H:=F.sum;have k:=F.s1;have G:=F.s2;have C:=F.t1;have D:=F.t2;have h:=Stb.rot O hr fun i j i1 i2 j1 j2=>by
  have r:=F.rot (by omega) (by omega);exact cM O (h2.le O j1 (by omega) (by omega):c d[j]! d[t-1]!<=0) (Yo O r (h1.le O k i1 i2))
 have w:∀i,a<=i->i<s->d1[i]! = d[i]!:=fun i _ q=>hr.out i (.inl q);have x:∀i,s<=i->i<mid->d1[i]! = d[i+(m-s)]!:=fun i q r=>hr.lo i q (by omega);have l:∀i,mid<=i->i<t->d1[i]! = d[i-(t-m)]!:=fun i q r=>hr.hi i (by omega) r;have n:=fun i q=>hr.out i (.inr q);have e:∀i j,a<=i->i<mid->mid<=j->j<b->c d1[i]! d1[j]!<=0:=by
  intro i j i1 i2 j1 j2;by_cases g:i<s
  ·rw[w i i1 g];by_cases f:j<t
   ·rw[l j j1 f];exact h1 _ _ i1 (by omega) (by omega)
   ·rw[n j (by omega)];exact O.trans _ _ _ (h1.le O i1 (show i<=s-1 by omega) (by omega)) (O.trans _ _ _ (F.cross (by omega) (by omega)) (h2.le O C (by omega) j2))
  ·rw[x i (by omega) i2];by_cases f:j<t
   ·rw[l j j1 f];have r:=F.rot (by omega) (by omega);have:=cM O (h2.le O (show m<=i+(m-s) by omega) (show i+(m-s)<=t-1 by omega) (by omega)) (Yo O r (h1.le O k (show s<=j-(t-m) by omega) (by omega)));omega
   ·rw[n j (by omega)];exact h2 _ _ (by omega) (by omega) j2
 refine⟨((h.mono k D).trans (k1.mono (Ad9 _) (by omega))).trans (k3.mono (by omega) (Ad9 _)),fun i j i1 ij j2=>?_⟩;by_cases f:j<mid
 ·rw[k3.out i (.inl (by omega)),k3.out j (.inl f)];exact k2 i j i1 ij f
 ·by_cases g:i<mid
  ·rw[k3.out i (.inl g)];obtain⟨p,z,A,u⟩:=k1.mem i i1 g;obtain⟨q,o,B,v⟩:=k3.mem j (by omega) j2;rw[u,v,k1.out q (.inr o)];exact e p q z A o B
  ·exact k4 i j (by omega) ij j2
theorem mR {d d1:Array α}{a m b mid s t:Nat}(h1:Srt c d a m)(h2:Srt c d m b)(F:Yp c d a m b mid s t)(hr:Fp d d1 s m t) :
  Srt c d1 a s/\Srt c d1 s mid/\Srt c d1 mid t/\Srt c d1 t b:=by
 have e:=hr.le;have h:=F.half;have l:=F.sum;have k:=F.s1;have f:=F.s2;have g:=F.t1;have n:=F.t2;refine⟨(h1.sub (Ad9 _) f).keep fun i _ q=>hr.out i (.inl q),fun i j p q r=>?_,fun i j p q r=>?_,(h2.sub g (Ad9 _)).keep fun i q _=>hr.out i (.inr q)⟩
 ·rw[hr.lo i p (by omega),hr.lo j (by omega) (by omega)];exact h2 _ _ (by omega) (by omega) (by omega)
 ·rw[hr.hi i (by omega) (by omega),hr.hi j (by omega) r];exact h1 _ _ (by omega) (by omega) (by omega)
theorem Srt.none (c:α->α->Int)(d:Array α){a b:Nat}(h:b<=a+1):Srt c d a b:=fun i j _ _ _=>by omega
theorem Ad7 {d:Array α}{a s b:Nat}(h:Srt c d a s)(k:Srt c d s b)(e:s=a\/s=b):Srt c d a b:=by
 rcases e with rfl|rfl
 ·exact k
 ·exact h
theorem Yq (O:Er c)(a b:Nat):∀(j:Nat)(d:Array α),j<b->b<=d.size->Stb c a b d (insInner (fun x y=>decide (c x y<0)) a j d)
 | 0,d,_,_=>Stb.refl _ _ _ _
 | j+1,d,h1,h2=>by
  simp only[insInner];split
  ·rename_i hq
   simp only[gt_iff_lt,Bool.and_eq_true,decide_eq_true_eq] at hq;have r0:=(Ac3 d (j+1) (j+1+1) (by omega) (by omega)).down;have s0:=Stb.rot O r0 fun p q h3 h4 h5 h6=>by
    obtain rfl:p=j:=by omega
    obtain rfl:q=p+1:=by omega
    exact hq.2
   exact(s0.mono (by omega) (by omega)).trans (Yq O a b j _ (by omega) (by rw[swp_size];exact h2))
  ·exact Stb.refl _ _ _ _
theorem Yr (O:Er c)(a b:Nat):∀(f i:Nat)(d:Array α),b-i<=f->b<=d.size->Stb c a b d (insOuter (fun x y=>decide (c x y<0)) a b i d)
 | 0,i,d,hf,h2=>by rw[insOuter_stop _ _ _ _ _ (by omega)];exact Stb.refl _ _ _ _
 | f+1,i,d,hf,h2=>by
  by_cases q:i<b
  ·rw[insOuter_go _ _ _ _ _ q];have s:=Yq O a b i d q h2;exact s.trans (Yr O a b f (i+1) _ (by omega) (by rw[s.size];exact h2))
  ·rw[insOuter_stop _ _ _ _ _ q];exact Stb.refl _ _ _ _
end
end
section
open Go.Sort
theorem gO {α:Type}{p:α->Bool}(x:α){l m:List α}(h:l.find? p=m.find? p):(x::l).find? p=(x::m).find? p:=by
 rw[List.find?_cons,List.find?_cons,h]
theorem Rx {α:Type}{c:α->α->Int}(O:Er c):∀(l m:List α),(l.Pairwise fun a b=>c a b<0)->(m.Pairwise fun a b=>c a b<0)->(∀x,l.find? (fun y=>c x y==0)=m.find? (fun y=>c x y==0))->l=m
 | [],[],_,_,_=>rfl
 | [],y::m,_,_,e=>by
  have:=e y;simp[O.self] at this
 | x::l,[],_,_,e=>by
  have:=e x;simp[O.self] at this
 | x::l,y::m,hl,hm,e=>by
  obtain⟨l1,l2⟩:=List.pairwise_cons.1 hl;obtain⟨m1,m2⟩:=List.pairwise_cons.1 hm;have hx:(y::m).find? (fun z=>c x z==0)=some x:=by rw[<- e x];simp[O.self]
  have j:(x::l).find? (fun z=>c y z==0)=some y:=by rw[e y];simp[O.self]
  have k:=List.mem_of_find?_eq_some hx;have n:=List.mem_of_find?_eq_some j;have h:c x y=0:=by
   rcases List.mem_cons.1 k with q|q
   ·rw[q];exact O.self y
   ·rcases List.mem_cons.1 n with r|r
    ·rw[r];exact O.self x
    ·have s:=m1 x q;have t:=l1 y r;have:=O.anti x y;omega
  have d:=by
   rw[List.find?_cons,h] at hx;simpa using hx.symm
  subst d;rw[Rx O l m l2 m2 fun z=>?_];have i:=e z;by_cases q:c z x=0
  ·have o:l.find? (fun y=>c z y==0)=none:=by
    rw[List.find?_eq_none];intro u g f;have a:=l1 u g;have b:c z u=0:=by simpa using f
    have:=O.sub q u;omega
   have p:m.find? (fun y=>c z y==0)=none:=by
    rw[List.find?_eq_none];intro u g f;have a:=m1 u g;have b:c z u=0:=by simpa using f
    have:=O.sub q u;omega
   rw[o,p]
  ·rw[List.find?_cons,List.find?_cons] at i;have:(c z x==0)=false:=by simpa using q
   simpa [this] using i
theorem cQ {α:Type}{c:α->α->Int}(O:Er c):∀(l:List α)(p:α),((p::l).Pairwise fun a b=>c a b<=0)->∀x,(p::goC (fun a b=>c a b==0) p l).find? (fun y=>c x y==0)=(p::l).find? (fun y=>c x y==0)
 | [],p,_,x=>rfl
 | y::l,p,hs,x=>by
  obtain⟨h1,h2⟩:=List.pairwise_cons.1 hs;have ih:=cQ O l y h2 x;simp only[goC];by_cases q:c y p=0
  ·have hq:(c y p==0)=true:=by simpa using q
   rw[if_pos hq,List.find?_cons,List.find?_cons];by_cases r:c x p=0
   ·have f:(c x p==0)=true:=by simpa using r
    rw[f]
   ·have f:(c x p==0)=false:=by simpa using r
    have d:(c x y==0)=false:=by
     rw[beq_eq_false_iff_ne];intro e;have:=O.sub e p;omega
    rw[f];simp only;rw[List.find?_cons,d] at ih;simpa [List.find?_cons,d] using ih
  ·have hq:(c y p==0)=false:=by simpa using q
   rw[if_neg (by simp[hq])];exact gO p ih
theorem gP {α:Type}{c:α->α->Int}(O:Er c)(l:List α)(hs:l.Pairwise fun a b=>c a b<=0)(x:α):(D6 (fun a b=>c a b==0) l).find? (fun y=>c x y==0)=l.find? (fun y=>c x y==0):=by
 cases l with
 | nil=>rfl
 | cons p l=>exact cQ O l p hs x
theorem mS {α:Type}{c:α->α->Int}(O:Er c)(l:List α)(hs:l.Pairwise fun a b=>c a b<=0):(D6 (fun a b=>c a b==0) l).Pairwise fun a b=>c a b<0:=by
 cases l with
 | nil=>exact List.Pairwise.nil
 | cons p l=>exact(P8 c O.rng O.anti O.trans p l hs).1
def Ny {α:Type}(c:α->α->Int)(x:α):List α->List α
 | []=>[x]
 | y::l=>if c x y<0 then x::y::l else if c x y=0 then x::l else y::Ny c x l
def Ie {α:Type}(c:α->α->Int)(l:List α):List α:=l.foldr (Ny c) []
theorem Nz {α:Type}{c:α->α->Int}(x:α):∀(l:List α)(z:α),z∈Ny c x l->z=x\/z∈l
 | [],z,h=>by simpa [Ny] using h
 | y::l,z,h=>by
  simp only[Ny] at h;split at h
  ·simpa using h
  ·split at h
   ·rcases List.mem_cons.1 h with q|q
    ·exact .inl q
    ·exact .inr (List.mem_cons_of_mem _ q)
   ·rcases List.mem_cons.1 h with q|q
    ·exact .inr (by simp[q])
    ·rcases Nz x l z q with r|r
     ·exact .inl r
     ·exact .inr (List.mem_cons_of_mem _ r)
theorem cR {α:Type}{c:α->α->Int}(O:Er c)(x:α):∀(l:List α),(l.Pairwise fun a b=>c a b<0)->(Ny c x l).Pairwise fun a b=>c a b<0
 | [],_=>List.pairwise_cons.2 ⟨by simp,List.Pairwise.nil⟩
 | y::l,hl=>by
  obtain⟨l1,l2⟩:=List.pairwise_cons.1 hl;simp only[Ny];split
  ·rename_i h
   refine List.pairwise_cons.2 ⟨fun z hz=>?_,hl⟩;rcases List.mem_cons.1 hz with q|q
   ·rw[q];exact h
   ·exact Yo O h (by have:=l1 z q;omega)
  ·split
   ·rename_i _ h
    exact List.pairwise_cons.2 ⟨fun z hz=>by rw[O.sub h z];exact l1 z hz,l2⟩
   ·rename_i h1 h2
    refine List.pairwise_cons.2 ⟨fun z hz=>?_,cR O x l l2⟩;rcases Nz x l z hz with q|q
    ·rw[q];have:=O.anti x y;rcases O.rng x y with r|r|r<;>omega
    ·exact l1 z q
theorem Ys {α:Type}{c:α->α->Int}(O:Er c)(x:α):∀(l:List α),(l.Pairwise fun a b=>c a b<0)->∀z,(Ny c x l).find? (fun y=>c z y==0)=(x::l).find? (fun y=>c z y==0)
 | [],_,z=>rfl
 | y::l,hl,z=>by
  obtain⟨l1,l2⟩:=List.pairwise_cons.1 hl;simp only[Ny];split
  ·rfl
  ·split
   ·rename_i _ h
    by_cases q:c z x=0
    ·have hq:(c z x==0)=true:=by simpa using q
     simp[hq]
    ·have hq:(c z x==0)=false:=by simpa using q
     have d:(c z y==0)=false:=by
      rw[beq_eq_false_iff_ne];intro e;have:=O.sub e x;have:=O.anti x y;omega
     simp[hq,d]
   ·rename_i h1 h2
    have f:=Ys O x l l2 z;by_cases q:c z x=0
    ·have hq:(c z x==0)=true:=by simpa using q
     have d:(c z y==0)=false:=by
      rw[beq_eq_false_iff_ne];intro e;have:=O.sub q y;omega
     rw[List.find?_cons,d];simp only;rw[f];simp[hq]
    ·have hq:(c z x==0)=false:=by simpa using q
     rw[List.find?_cons,List.find?_cons,hq,List.find?_cons];simp only;rw[f,List.find?_cons,hq]
theorem O0 {α:Type}{c:α->α->Int}(O:Er c)(l:List α):(Ie c l).Pairwise fun a b=>c a b<0:=by
 induction l with
 | nil=>exact List.Pairwise.nil
 | cons x l ih=>exact cR O x _ ih
theorem Vl {α:Type}{c:α->α->Int}(O:Er c)(l:List α)(z:α):(Ie c l).find? (fun y=>c z y==0)=l.find? (fun y=>c z y==0):=by
 induction l with
 | nil=>rfl
 | cons x l ih =>
  show(Ny c x (Ie c l)).find? _=_;rw[Ys O x _ (O0 O l),List.find?_cons,List.find?_cons,ih]
theorem gQ {α:Type}{c:α->α->Int}(O:Er c)(l m:List α)(h:Qp c l m)(hs:m.Pairwise fun a b=>c a b<=0):D6 (fun a b=>c a b==0) m=Ie c l :=
 Rx O _ _ (mS O m hs) (O0 O l) fun x=>by rw[gP O m hs,Vl O l,h.find x]
section
variable {α:Type} [Inhabited α] {c:α->α->Int}
def Ki (c:α->α->Int)(d:Array α)(bs n hi:Nat):Prop:=∀k,k*bs<hi->Srt c d (k*bs) (min (k*bs+bs) n)
theorem Ki.step {d e:Array α}{bs n q:Nat}(h:Ki c d bs n (q*bs))(hs:Stb c (q*bs) (min (q*bs+bs) n) d e)(hk:Srt c e (q*bs) (min (q*bs+bs) n)):Ki c e bs n (q*bs+bs):=by
 intro k a;by_cases r:k<q
 ·have f:=by
   have:=Nat.mul_le_mul_right bs (show k+1<=q from r)
   rwa [Nat.add_mul,Nat.one_mul] at this
  exact(h k (by omega)).keep fun i h1 h2=>hs.out i (.inl (by omega))
 ·have:k=q:=by
   by_cases b:q<k
   ·have:=Nat.mul_le_mul_right bs (show q+1<=k from b);rw[Nat.add_mul,Nat.one_mul] at this;omega
   ·omega
  subst this;exact hk
theorem Ac9 (d:Array α)(bs n:Nat):Ki c d bs n 0:=fun k h=>by omega
theorem Ki.whole {d:Array α}{bs n:Nat}(h:Ki c d bs n n)(hb:n<=bs):Srt c d 0 n:=by
 by_cases q:0<n
 ·have:=h 0 (by omega);rw[Nat.zero_mul,Nat.zero_add,Nat.min_eq_right hb] at this;exact this
 ·exact Srt.none _ _ (by omega)
theorem Ki.mono {d:Array α}{bs n hi hi':Nat}(h:Ki c d bs n hi)(hh:hi'<=hi):Ki c d bs n hi':=fun k hk=>h k (by omega)
structure Ry (c:α->α->Int)(d:Array α)(bs n q:Nat):Prop where
 two:Ki c d (2*bs) n (q*(2*bs))
 one:∀k,q*(2*bs)<=k*bs->k*bs<n->Srt c d (k*bs) (min (k*bs+bs) n)
theorem Ry.start {d:Array α}{bs n:Nat}(h:Ki c d bs n n):Ry c d bs n 0:=⟨by rw[Nat.zero_mul];exact Ac9 d _ n,fun k _ hk=>h k hk⟩
theorem Ry.step {d e:Array α}{bs n q:Nat}(hb:0<bs)(h:Ry c d bs n q)(hs:Stb c (q*(2*bs)) (min (q*(2*bs)+2*bs) n) d e)(hk:Srt c e (q*(2*bs)) (min (q*(2*bs)+2*bs) n)):Ry c e bs n (q+1):=by
 have a:(q+1)*(2*bs)=q*(2*bs)+2*bs:=by rw[Nat.add_mul,Nat.one_mul]
 refine⟨by rw[a];exact Ki.step h.two hs hk,fun k h1 h2=>?_⟩;rw[a] at h1;exact(h.one k (by omega) h2).keep fun i h3 h4=>hs.out i (.inr (by omega))
theorem Ry.parts {d:Array α}{bs n q:Nat}(h:Ry c d bs n q)(h1:q*(2*bs)+bs<n):Srt c d (q*(2*bs)) (q*(2*bs)+bs)/\Srt c d (q*(2*bs)+bs) (min (q*(2*bs)+2*bs) n):=by
 have e:2*q*bs=q*(2*bs):=by rw[Nat.mul_comm 2 q,Nat.mul_assoc]
 have f:(2*q+1)*bs=q*(2*bs)+bs:=by rw[Nat.add_mul,Nat.one_mul,e]
 have a:=h.one (2*q) (by omega) (by omega);have b:=h.one (2*q+1) (by omega) (by omega);rw[e,Nat.min_eq_left (by omega)] at a;rw[f,show q*(2*bs)+bs+bs=q*(2*bs)+2*bs from by omega] at b;exact⟨a,b⟩
theorem Ry.finish {d:Array α}{bs n q:Nat}(hb:0<bs)(h:Ry c d bs n q)(h1:n<=q*(2*bs)+bs):Ki c d (2*bs) n n:=by
 intro k e;by_cases r:k<q
 ·exact h.two k (Nat.mul_lt_mul_of_pos_right r (by omega))
 ·have f:=Nat.mul_le_mul_right (2*bs) (show q<=k by omega);have b:2*k*bs=k*(2*bs):=by rw[Nat.mul_comm 2 k,Nat.mul_assoc]
  have a:=h.one (2*k) (by omega) (by omega);rw[b] at a;exact a.sub (Ad9 _) (by omega)
theorem Ry.all {d:Array α}{bs n q:Nat}(h:Ry c d bs n q)(h1:n<=q*(2*bs)):Ki c d (2*bs) n n:=h.two.mono h1
end
end
end Go.Proofs.YtdpeliifdlhhkaaGreatDoor.Sx
