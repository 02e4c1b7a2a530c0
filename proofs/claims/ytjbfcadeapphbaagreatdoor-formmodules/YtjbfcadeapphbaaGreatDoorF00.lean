/- Plain: every text is read to its end, or to a fault. -/
import Derived.Lib.Bytealg
import Derived.Lib.Small
import Derived.Lib.ItoaNum
import Derived.Lib.ParseIntB
namespace Go.Proofs.YtjbfcadeapphbaaGreatDoor.Sx
structure Jf (α:Type) where
 kind:Nat
 int:Int
 text:List UInt8
 keys:List α
 vals:List α
def AV:Nat->Type
 | 0=>Empty
 | n+1=>Jf (AV n)
def Vv {α:Type}:Jf α:=⟨0,0,[],[],[]⟩
def Pk {α:Type}(b:Bool):Jf α:=⟨1,if b then 1 else 0,[],[],[]⟩
def Sr {α:Type}(n:Int):Jf α:=⟨2,n,[],[],[]⟩
def Ho {α:Type}(l:List UInt8):Jf α:=⟨3,0,l,[],[]⟩
def Pl {α:Type}(l:List UInt8):Jf α:=⟨4,0,l,[],[]⟩
def Kd {α:Type}(es:List α):Jf α:=⟨5,0,[],es,[]⟩
def Ys {α:Type}(ks vs:List α):Jf α:=⟨6,0,[],ks,vs⟩
def Ss (x y:Int):Int:=if x=0 then y else x
def mL {α:Type}(c:α->α->Int):List α->List α->Int
 | [],[]=>0
 | [],_::_=>-1
 | _::_,[]=>1
 | a::as,b::bs=>Ss (c a b) (mL c as bs)
def mM {α:Type}(c:α->α->Int)(a b:List α):Int:=Ss (Lib.compareInt a.length b.length) (mL c a b)
def nI {α:Type}(c:α->α->Int)(a b:Jf α):Int :=
 Ss (Lib.compareInt a.kind b.kind) (Ss (Lib.compareInt a.int b.int) (Ss (Lib.compareBytes a.text b.text) (Ss (mM c a.keys b.keys) (mM c a.vals b.vals))))
def lG:(n:Nat)->AV n->AV n->Int
 | 0,_,_=>0
 | n+1,a,b=>nI (lG n) a b
structure mN {α:Type}(c:α->α->Int):Prop where
 rng:∀a b,c a b=-1\/c a b=0\/c a b=1
 anti:∀a b,c b a=- c a b
 trans:∀a b d,c a b<=0->c b d<=0->c a d<=0
theorem mN.self {α:Type}{c:α->α->Int}(h:mN c)(a:α):c a a=0:=by
 have:=h.anti a a;omega
end Go.Proofs.YtjbfcadeapphbaaGreatDoor.Sx
namespace Go.Proofs.YtjbfcadeapphbaaGreatDoor.Sx
def Bp (c:UInt8):Bool:=(97<=c&&c<=122)||(65<=c&&c<=90)
def Bg (c:UInt8):Bool:=48<=c&&c<=57
def Bu (c:UInt8):Bool:=Bp c||Bg c||c==95
def str (s:String):List UInt8:=s.toUTF8.data.toList
def C4 : List (List UInt8) := ["module", "constant", "atoms", "symmetric", "variable", "define", "init", "action", "fair", "weak", "strong", "invariant", "property", "and", "or", "not", "implies", "iff", "in", "union", "inter", "minus", "subset", "powerset", "flatten", "domain", "unchanged", "enabled", "always", "eventually", "until", "leadsto", "choose", "all", "some", "each", "those", "fun", "if", "then", "else", "let", "nil", "true", "false", "size", "len", "head", "tail", "append", "values", "seqs"].map str
def A0 (l:List UInt8):Bool:=C4.contains l
def cT:List UInt8:=[110,105,108]
def Ob:List UInt8:=[116,114,117,101]
def Kj:List UInt8:=[102,97,108,115,101]
structure Yt (l:List UInt8):Prop where
 len:l.length<=16
 head:∃c r,l=c::r/\Bp c=true
 all:∀c∈l,Bu c=true
 free:A0 l=false
def Ls (c:UInt8):Bool:=32<=c&&c<=126&&c != 34&&c != 92
def Vw:(n:Nat)->AV n->Option Int
 | 0,_=>none
 | _+1,a=>if Jf.kind a=2 then some (Jf.int a) else none
def Ig {α:Type}(num:α->Option Int):Nat->List α->Bool
 | _,[]=>true
 | i,a::l=>num a==some (i:Int)&&Ig num (i+1) l
def Ez {α:Type}(num:α->Option Int)(l:List α):Bool:=Ig num 1 l
def wtL {α:Type}(wt:α->Nat)(l:List α):Nat:=(l.map wt).sum
def wtN {α:Type}(wt:α->Nat)(a:Jf α):Nat:=if a.kind=5 then 1+wtL wt a.keys else if a.kind=6 then 1+wtL wt a.keys+wtL wt a.vals else 1
def wt:(n:Nat)->AV n->Nat
 | 0,_=>0
 | n+1,a=>wtN (wt n) a
def jT (cl:List UInt8):List (List UInt8)->List UInt8
 | []=>cl
 | a::l=>44::32::(a++jT cl l)
def jL (cl:List UInt8):List (List UInt8)->List UInt8
 | []=>cl
 | a::l=>a++jT cl l
def jQ:List (List UInt8)->List (List UInt8)->List UInt8
 | k::ks,v::vs=>44::32::(k++58::32::(v++jQ ks vs))
 | _,_=>[93]
def jP:List (List UInt8)->List (List UInt8)->List UInt8
 | k::ks,v::vs=>k++58::32::(v++jQ ks vs)
 | _,_=>[93]
def shN {α:Type}(s:α->List UInt8)(num:α->Option Int)(a:Jf α):List UInt8 :=
 if a.kind=0 then cT
 else if a.kind=1 then(if a.int=1 then Ob else Kj)
 else if a.kind=2 then Lib.itoa a.int
 else if a.kind=3 then 34::(a.text++[34])
 else if a.kind=4 then a.text
 else if a.kind=5 then 123::jL [125] (a.keys.map s)
 else if Ez num a.keys then 60::60::jL [62,62] (a.vals.map s)
 else 91::jP (a.keys.map s) (a.vals.map s)
def sh:(n:Nat)->AV n->List UInt8
 | 0,_=>[]
 | n+1,a=>shN (sh n) (Vw n) a
def Asc {α:Type}(c:α->α->Int)(l:List α):Prop:=l.Pairwise fun a b=>c a b<0
def wfN {α:Type}(W:α->Prop)(c:α->α->Int)(wt:α->Nat)(a:Jf α):Prop :=
 a=Vv\/(∃b,a=Pk b)\/(∃n,a=Sr n/\-9223372036854775808<=n/\n<=9223372036854775807) \/
 (∃l,a=Ho l/\∀c∈l,Ls c=true)\/(∃l,a=Pl l/\Yt l) \/
 (∃es,a=Kd es/\(∀x∈es,W x)/\Asc c es/\1+wtL wt es<=1024) \/
 (∃ks vs,a=Ys ks vs/\(∀x∈ks,W x)/\(∀x∈vs,W x)/\Asc c ks/\ks.length=vs.length/\1+wtL wt ks+wtL wt vs<=1024)
def WF:(n:Nat)->AV n->Prop
 | 0,_=>True
 | n+1,a=>wfN (WF n) (lG n) (wt n) a
def isW (c:UInt8):Bool:=Bu c||c==45
def I2 (r:List UInt8):Prop:=∀c l,r=c::l->isW c=false
theorem Fe {c:UInt8}{l:List UInt8}(h:isW c=false):I2 (c::l):=by
 intro d m e;simp only[List.cons.injEq] at e;rw[<- e.1];exact h
theorem Pm:∀(u v r s:List UInt8),(∀c∈u,isW c=true)->(∀c∈v,isW c=true)->I2 r->I2 s->u++r=v++s->u=v/\r=s
 | [],[],r,s,_,_,_,_,e=>⟨rfl,by simpa using e⟩
 | [],d::v,r,s,_,hv,hr,_,e=>by
  have:=hr d (v++s) (by simpa using e);rw[hv d (by simp)] at this;simp at this
 | c::u,[],r,s,hu,_,_,hs,e=>by
  have:=hs c (u++r) (by simpa using e.symm);rw[hu c (by simp)] at this;simp at this
 | c::u,d::v,r,s,hu,hv,hr,hs,e=>by
  simp only[List.cons_append,List.cons.injEq] at e;obtain⟨e1,e2⟩:=e;obtain⟨h1,h2⟩:=Pm u v r s (fun x hx=>hu x (by simp[hx])) (fun x hx=>hv x (by simp[hx])) hr hs e2;exact⟨by rw[e1,h1],h2⟩
theorem Nk {c:UInt8}(h:Bg c=true):isW c=true:=by simp[isW,Bu,h]
theorem Vx {c:UInt8}(h:Bu c=true):isW c=true:=by simp[isW,h]
theorem Ml (k:Nat)(h:k<10):(UInt8.ofNat (48+k)).toNat=48+k:=by
 simp;omega
theorem Hp (n:Nat):∀c∈Lib.decDigits n,Bg c=true:=by
 induction n using Nat.strongRecOn with
 | ind n ih =>
  intro c a;rw[Lib.decDigits] at a;split at a
  ·rename_i hn
   simp only[List.mem_singleton] at a;subst a;simp[Bg,UInt8.le_iff_toNat_le];omega
  ·simp only[List.mem_append,List.mem_singleton] at a;rcases a with a|a
   ·exact ih (n / 10) (by omega) c a
   ·subst a;simp[Bg,UInt8.le_iff_toNat_le];omega
theorem Jw (n:Nat):Lib.decDigits n≠[]:=by
 rw[Lib.decDigits];split<;>simp
theorem Lk:∀(n m:Nat),Lib.decDigits n=Lib.decDigits m->n=m:=by
 intro n
 induction n using Nat.strongRecOn with
 | ind n ih =>
  intro m h;rw[Lib.decDigits.eq_def n,Lib.decDigits.eq_def m] at h;split at h<;>split at h
  ·rename_i h1 h2
   simp only[List.cons.injEq,and_true] at h;have:=congrArg UInt8.toNat h;rw[Ml n h1,Ml m h2] at this;omega
  ·have:=congrArg List.length h;simp at this;exact absurd this (Jw _)
  ·have:=congrArg List.length h;simp at this;exact absurd this (Jw _)
  ·obtain⟨d,c⟩:=List.append_inj' h (by simp);have a:=ih (n / 10) (by omega) (m / 10) d;simp only[List.cons.injEq,and_true] at c;have b:=congrArg UInt8.toNat c;rw[Ml _ (by omega),Ml _ (by omega)] at b;omega
theorem lH (n:Int):∀c∈Lib.itoa n,isW c=true:=by
 intro c a;unfold Lib.itoa at a;split at a
 ·rcases List.mem_cons.1 a with a|a
  ·subst a;decide
  ·exact Nk (Hp _ c a)
 ·exact Nk (Hp _ c a)
theorem Pn (c:UInt8)(h:Bg c=true):c≠45/\Bp c=false:=by
 simp[Bg,UInt8.le_iff_toNat_le] at h;refine⟨fun e=>by subst e;simp at h,?_⟩;simp[Bp,UInt8.le_iff_toNat_le];omega
theorem Ih (n:Nat):∃c r,Lib.decDigits n=c::r/\Bg c=true:=by
 cases h:Lib.decDigits n with
 | nil=>exact absurd h (Jw n)
 | cons c r=>exact⟨c,r,rfl,Hp n c (by simp[h])⟩
theorem fU (n m:Int)(h:Lib.itoa n=Lib.itoa m):n=m:=by
 unfold Lib.itoa at h;obtain⟨c,r,e,f⟩:=Ih n.toNat;obtain⟨b,g,d,a⟩:=Ih m.toNat;split at h<;>split at h
 ·simp only[List.cons.injEq,true_and] at h;have:=Lk _ _ h;omega
 ·rw[d] at h;simp only[List.cons.injEq] at h;exact absurd h.1.symm (Pn b a).1
 ·rw[e] at h;simp only[List.cons.injEq] at h;exact absurd h.1 (Pn c f).1
 ·have:=Lk _ _ h;omega
theorem Nl (n:Int):∃c r,Lib.itoa n=c::r/\Bp c=false/\(Bg c=true\/c=45):=by
 unfold Lib.itoa;obtain⟨c,r,e,a⟩:=Ih n.toNat;split
 ·exact⟨45,_,rfl,by decide,.inr rfl⟩
 ·exact⟨c,r,e,(Pn c a).2,.inl a⟩
theorem cA:A0 cT=true:=by decide +kernel
theorem fV:A0 Ob=true:=by decide +kernel
theorem cU:A0 Kj=true:=by decide +kernel
section
variable {α:Type} (s:α->List UInt8) (num:α->Option Int)
theorem fW:shN s num Vv=cT:=rfl
theorem Tq (b:Bool):shN s num (Pk b)=if b then Ob else Kj:=by cases b<;>rfl
theorem fX (n:Int):shN s num (Sr n)=Lib.itoa n:=rfl
theorem jM (l:List UInt8):shN s num (Ho l)=34::(l++[34]):=rfl
theorem cB (l:List UInt8):shN s num (Pl l)=l:=rfl
theorem fY (es:List α):shN s num (Kd es)=123::jL [125] (es.map s):=rfl
theorem Yu (ks vs:List α)(h:Ez num ks=true):shN s num (Ys ks vs)=60::60::jL [62,62] (vs.map s):=by
 show(if Ez num ks=true then _ else _)=_;rw[if_pos h];rfl
theorem fZ (ks vs:List α)(h:¬Ez num ks=true):shN s num (Ys ks vs)=91::jP (ks.map s) (vs.map s):=by
 show(if Ez num ks=true then _ else _)=_;rw[if_neg h];rfl
def kd (a:Jf α):Nat :=
 if a.kind=3 then 1 else if a.kind=5 then 2 else if a.kind=6 then(if Ez num a.keys then 3 else 4) else 0
theorem Jx (ks vs:List α)(h:Ez num ks=true):kd num (Ys ks vs)=3:=by
 show(if Ez num ks=true then 3 else 4)=3;rw[if_pos h]
theorem Mm (ks vs:List α)(h:¬Ez num ks=true):kd num (Ys ks vs)=4:=by
 show(if Ez num ks=true then 3 else 4)=4;rw[if_neg h]
def first (k:Nat)(c:UInt8):Bool :=
 if k=0 then isW c else if k=1 then c==34 else if k=2 then c==123 else if k=3 then c==60 else if k=4 then c==91 else false
variable (W:α->Prop) (c:α->α->Int) (wta:α->Nat)
theorem Po {a:Jf α}(hw:wfN W c wta a)(hk:kd num a=0):∀c∈shN s num a,isW c=true:=by
 rcases hw with rfl|⟨b,rfl⟩|⟨n,rfl,_⟩|⟨l,rfl,_⟩|⟨l,rfl,h⟩|⟨f,rfl,_⟩|⟨d,e,rfl,_⟩
 ·rw[fW];decide
 ·rw[Tq];cases b<;>decide
 ·rw[fX];exact lH n
 ·exact absurd hk (by simp[kd,Ho])
 ·rw[cB];exact fun c hc=>Vx (h.all c hc)
 ·exact absurd hk (by simp[kd,Kd])
 ·by_cases q:Ez num d=true
  ·rw[Jx num d e q] at hk;simp at hk
  ·rw[Mm num d e q] at hk;simp at hk
theorem gA {a b:Jf α}(ha:wfN W c wta a)(hb:wfN W c wta b)(ka:kd num a=0)(kb:kd num b=0)(h:shN s num a=shN s num b):a=b:=by
 have z:∀{l:List UInt8} {n:Int},Yt l->l=Lib.itoa n->False:=by
  intro l n g e;obtain⟨c,r,D,x⟩:=g.head;obtain⟨C,H,p,d,_⟩:=Nl n;rw[D,p] at e;simp only[List.cons.injEq] at e;rw[e.1,d] at x;simp at x
 have k:∀{l:List UInt8} {n:Int},Bp (l.headD 0)=true->l=Lib.itoa n->False:=by
  intro l n g e;obtain⟨C,H,p,d,_⟩:=Nl n;rw[e,p] at g;simp[d] at g
 have m:∀{l r:List UInt8},Yt l->A0 r=true->l=r->False:=by
  intro l r g y e;rw[<- e,g.free] at y;simp at y
 have A:∀f i,kd num (Ys f i)=0->False:=by
  intro f i j;by_cases q:Ez num f=true
  ·rw[Jx num f i q] at j;simp at j
  ·rw[Mm num f i q] at j;simp at j
 have B:Bp (cT.headD 0)=true:=by decide
 have o:∀b:Bool,Bp ((if b then Ob else Kj).headD 0)=true/\A0 (if b then Ob else Kj)=true:=by
  intro b;cases b
  ·exact⟨by decide,cU⟩
  ·exact⟨by decide,fV⟩
 rcases ha with rfl|⟨v,rfl⟩|⟨I,rfl,_⟩|⟨F,rfl,_⟩|⟨F,rfl,t⟩|⟨E,rfl,_⟩|⟨f,i,rfl,_⟩
 all_goals first|(exact absurd ka (A _ _))|(exfalso;simp[kd,Ho,Kd] at ka;done)|skip
 all_goals rcases hb with rfl|⟨w,rfl⟩|⟨J,rfl,_⟩|⟨G,rfl,_⟩|⟨G,rfl,u⟩|⟨E,rfl,_⟩|⟨f,i,rfl,_⟩
 all_goals first|(exact absurd kb (A _ _))|(exfalso;simp[kd,Ho,Kd] at kb;done)|skip
 all_goals simp only[fW,Tq,fX,cB] at h
 all_goals first
  | rfl
  | (cases w<;>simp[cT,Ob,Kj] at h;done)
  | (cases v<;>simp[cT,Ob,Kj] at h;done)
  | (cases v<;>cases w<;>first | rfl | (simp[Ob,Kj] at h;done))
  | (exact absurd h (fun e=>k (o _).1 e))
  | (exact absurd h.symm (fun e=>k (o _).1 e))
  | (exact absurd h (fun e=>k B e))
  | (exact absurd h.symm (fun e=>k B e))
  | (exact absurd h.symm (fun e=>m u cA e))
  | (exact absurd h (fun e=>m t cA e))
  | (exact absurd h.symm (fun e=>m u (o _).2 e))
  | (exact absurd h (fun e=>m t (o _).2 e))
  | (exact absurd h (fun e=>z t e))
  | (exact absurd h.symm (fun e=>z u e))
  | (rw[fU _ _ h])
  | (rw[h])
theorem Tr {a:Jf α}(hw:wfN W c wta a):∃d r,shN s num a=d::r/\first (kd num a) d=true:=by
 rcases hw with rfl|⟨b,rfl⟩|⟨n,rfl,_⟩|⟨l,rfl,_⟩|⟨l,rfl,h⟩|⟨i,rfl,_⟩|⟨f,g,rfl,_⟩
 ·exact⟨110,_,rfl,(by decide:isW 110=true)⟩
 ·rw[Tq];cases b
  ·exact⟨102,_,rfl,(by decide:isW 102=true)⟩
  ·exact⟨116,_,rfl,(by decide:isW 116=true)⟩
 ·obtain⟨d,r,e,_,h⟩:=Nl n;refine⟨d,r,e,?_⟩;rcases h with h|h
  ·exact Nk h
  ·subst h;exact(by decide:isW 45=true)
 ·exact⟨34,l++[34],rfl,rfl⟩
 ·obtain⟨d,r,e,j⟩:=h.head;exact⟨d,r,e,Vx (h.all d (by simp[e]))⟩
 ·exact⟨123,_,fY s num i,rfl⟩
 ·by_cases q:Ez num f=true
  ·exact⟨60,_,Yu s num f g q,by rw[Jx num f g q];rfl⟩
  ·exact⟨91,_,fZ s num f g q,by rw[Mm num f g q];rfl⟩
theorem cV {j k:Nat}{c:UInt8}(h:first j c=true)(h':first k c=true):j=k:=by
 have a:isW c=true->c≠34/\c≠123/\c≠60/\c≠91:=by
  intro f;refine⟨?_,?_,?_,?_⟩<;>(intro e;subst e;exact absurd f (by decide))
 have d:∀i,first i c=true->i=0/\isW c=true\/i=1/\c=34\/i=2/\c=123\/i=3/\c=60\/i=4/\c=91:=by
  intro i b;unfold first at b
  repeat' split at b
  all_goals first|(simp at b;done)|simp_all
 rcases d j h with⟨rfl,x⟩|⟨rfl,x⟩|⟨rfl,x⟩|⟨rfl,x⟩|⟨rfl,x⟩ <;>
 rcases d k h' with⟨rfl,y⟩|⟨rfl,y⟩|⟨rfl,y⟩|⟨rfl,y⟩|⟨rfl,y⟩ <;>
 first|rfl|(exact absurd y (a x).1)|(exact absurd y (a x).2.1)|(exact absurd y (a x).2.2.1)|(exact absurd y (a x).2.2.2)|(exact absurd x (a y).1)|(exact absurd x (a y).2.1)|(exact absurd x (a y).2.2.1)|(exact absurd x (a y).2.2.2)|(rw[x] at y;simp at y)
theorem lI {a b:Jf α}(ha:wfN W c wta a)(hb:wfN W c wta b){r t:List UInt8}(h:shN s num a++r=shN s num b++t):kd num a=kd num b:=by
 obtain⟨x,u,e,d⟩:=Tr s num W c wta ha;obtain⟨y,v,f,g⟩:=Tr s num W c wta hb;rw[e,f] at h;simp only[List.cons_append,List.cons.injEq] at h;rw[h.1] at d;exact cV d g
theorem Mn:∀(u v r s:List UInt8),(∀c∈u,Ls c=true)->(∀c∈v,Ls c=true)->u++34::r=v++34::s->u=v/\r=s
 | [],[],r,s,_,_,e=>⟨rfl,by simpa using e⟩
 | [],d::v,r,s,_,hv,e=>by
  simp only[List.nil_append,List.cons_append,List.cons.injEq] at e;have:=hv d (by simp);rw[<- e.1] at this;exact absurd this (by decide)
 | c::u,[],r,s,hu,_,e=>by
  simp only[List.nil_append,List.cons_append,List.cons.injEq] at e;have:=hu c (by simp);rw[e.1] at this;exact absurd this (by decide)
 | c::u,d::v,r,s,hu,hv,e=>by
  simp only[List.cons_append,List.cons.injEq] at e;obtain⟨h1,h2⟩:=Mn u v r s (fun x hx=>hu x (by simp[hx])) (fun x hx=>hv x (by simp[hx])) e.2;exact⟨by rw[e.1,h1],h2⟩
structure Yv (s:α->List UInt8)(W:α->Prop):Prop where
 can:∀a b r t,W a->W b->I2 r->I2 t->s a++r=s b++t->a=b/\r=t
 head:∀a,W a->∃d r k,s a=d::r/\first k d=true
theorem cC {s:α->List UInt8}{W:α->Prop}(H:Yv s W){a:α}(ha:W a){c:UInt8}{r t:List UInt8}(hc:∀k,first k c=false):s a++r≠c::t:=by
 obtain⟨d,u,k,e,b⟩:=H.head a ha;rw[e];intro h;simp only[List.cons_append,List.cons.injEq] at h;rw[h.1,hc] at b;simp at b
structure Clo (cl:List UInt8):Prop where
 ex:∃c r,cl=c::r/\(∀k,first k c=false)/\c≠44
theorem Clo.delim {cl:List UInt8}(h:Clo cl)(r:List UInt8):I2 (cl++r):=by
 obtain⟨c,u,rfl,a,_⟩:=h.ex;exact Fe (a 0)
theorem St {c:UInt8}(h:isW c=false/\c≠34/\c≠123/\c≠60/\c≠91)(k:Nat):first k c=false:=by
 unfold first;repeat' split
 all_goals simp[h]
theorem cW:Clo [125]:=⟨125,[],rfl,St (by decide),by decide⟩
theorem cX:Clo [62,62]:=⟨62,[62],rfl,St (by decide),by decide⟩
theorem Mo {cl:List UInt8}(h:Clo cl)(l:List (List UInt8))(r:List UInt8):I2 (jT cl l++r):=by
 cases l with
 | nil=>exact h.delim r
 | cons a l=>exact Fe (by decide)
theorem gB {s:α->List UInt8}{W:α->Prop}(H:Yv s W){cl:List UInt8}(hcl:Clo cl):∀(l m:List α)(r t:List UInt8),(∀x∈l,W x)->(∀x∈m,W x)->I2 r->I2 t->jT cl (l.map s)++r=jT cl (m.map s)++t->l=m/\r=t
 | [],[],r,s,_,_,_,_,e=>⟨rfl,by simpa [jT] using e⟩
 | [],b::m,r,s,_,_,_,_,e=>by
  obtain⟨c,u,rfl,_,h2⟩:=hcl.ex;simp only[List.map,jT,List.cons_append,List.cons.injEq] at e;exact absurd e.1 h2
 | a::l,[],r,s,_,_,_,_,e=>by
  obtain⟨c,u,rfl,_,h2⟩:=hcl.ex;simp only[List.map,jT,List.cons_append,List.cons.injEq] at e;exact absurd e.1.symm h2
 | a::l,b::m,r,t,hl,hm,hr,hs,e=>by
  simp only[List.map,jT,List.cons_append,List.cons.injEq,true_and,List.append_assoc] at e;obtain⟨h1,h2⟩:=H.can a b _ _ (hl a (by simp)) (hm b (by simp)) (Mo hcl _ r) (Mo hcl _ t) e;obtain⟨h3,h4⟩:=gB H hcl l m r t (fun x hx=>hl x (by simp[hx])) (fun x hx=>hm x (by simp[hx])) hr hs h2;exact⟨by rw[h1,h3],h4⟩
theorem gC {s:α->List UInt8}{W:α->Prop}(H:Yv s W){cl:List UInt8}(hcl:Clo cl)(l m:List α)(r t:List UInt8)(hl:∀x∈l,W x)(hm:∀x∈m,W x)(hr:I2 r)(hs:I2 t)(e:jL cl (l.map s)++r=jL cl (m.map s)++t):l=m/\r=t:=by
 obtain⟨c,u,f,d,_⟩:=hcl.ex;cases l with
 | nil =>
  cases m with
  | nil=>exact⟨rfl,by simpa [jL] using e⟩
  | cons b m =>
   simp only[List.map,jL,f,List.cons_append,List.append_assoc] at e;exact absurd e.symm (cC H (hm b (by simp)) d)
 | cons a l =>
  cases m with
  | nil =>
   simp only[List.map,jL,f,List.cons_append,List.append_assoc] at e;exact absurd e (cC H (hl a (by simp)) d)
  | cons b m =>
   simp only[List.map,jL,List.append_assoc] at e;obtain⟨d,g⟩:=H.can a b _ _ (hl a (by simp)) (hm b (by simp)) (Mo hcl _ r) (Mo hcl _ t) e;obtain⟨h,i⟩:=gB H hcl l m r t (fun x hx=>hl x (by simp[hx])) (fun x hx=>hm x (by simp[hx])) hr hs g;exact⟨by rw[d,h],i⟩
theorem lJ (v:List (List UInt8)):jQ [] v=[93]:=by cases v<;>rfl
theorem jN (k:List (List UInt8)):jQ k []=[93]:=by cases k<;>rfl
theorem Mp (k v:List (List UInt8))(r:List UInt8):I2 (jQ k v++r):=by
 cases k with
 | nil=>rw[lJ];exact Fe (by decide)
 | cons a k =>
  cases v with
  | nil=>rw[jN];exact Fe (by decide)
  | cons b v=>exact Fe (by decide)
theorem gD {s:α->List UInt8}{W:α->Prop}(H:Yv s W):∀(k v k' v':List α)(r t:List UInt8),(∀x∈k,W x)->(∀x∈v,W x)->(∀x∈k',W x)->(∀x∈v',W x)->k.length=v.length->k'.length=v'.length->I2 r->I2 t ->
  jQ (k.map s) (v.map s)++r=jQ (k'.map s) (v'.map s)++t->k=k'/\v=v'/\r=t
 | [],v,k',v',r,s,_,_,_,_,hl,hl',_,_,e=>by
  have hv:v=[]:=List.length_eq_zero_iff.1 (by simpa using hl.symm);subst hv;cases k' with
  | nil =>
   have hv':v'=[]:=List.length_eq_zero_iff.1 (by simpa using hl'.symm);subst hv';exact⟨rfl,rfl,by simpa [jQ] using e⟩
  | cons a k' =>
   cases v' with
   | nil=>simp at hl'
   | cons b v'=>simp[jQ] at e
 | a::k,[],k',v',r,s,_,_,_,_,hl,_,_,_,e=>by simp at hl
 | a::k,b::v,[],v',r,s,_,_,_,_,_,hl',_,_,e=>by simp[jQ] at e
 | a::k,b::v,c::k',[],r,s,_,_,_,_,_,hl',_,_,e=>by simp at hl'
 | a::k,b::v,c::k',d::v',r,t,hk,hv,wk,wv,hl,hl',hr,hs,e=>by
  simp only[List.map,jQ,List.cons_append,List.cons.injEq,true_and,List.append_assoc] at e;obtain⟨h1,h2⟩:=H.can a c _ _ (hk a (by simp)) (wk c (by simp)) (Fe (by decide)) (Fe (by decide)) e;simp only[List.cons.injEq,true_and] at h2;obtain⟨h3,h4⟩:=H.can b d _ _ (hv b (by simp)) (wv d (by simp)) (Mp _ _ r) (Mp _ _ t) h2;obtain⟨h5,h6,h7⟩:=gD H k v k' v' r t (fun x hx=>hk x (by simp[hx])) (fun x hx=>hv x (by simp[hx])) (fun x hx=>wk x (by simp[hx])) (fun x hx=>wv x (by simp[hx])) (by simpa using hl) (by simpa using hl') hr hs h4;exact⟨by rw[h1,h5],by rw[h3,h6],h7⟩
theorem Su {num:α->Option Int}{W:α->Prop}(hn:∀a b n,W a->W b->num a=some n->num b=some n->a=b):∀(i:Nat)(k l:List α),(∀x∈k,W x)->(∀x∈l,W x)->Ig num i k=true->Ig num i l=true->k.length=l.length->k=l
 | _,[],[],_,_,_,_,_=>rfl
 | _,[],_::_,_,_,_,_,h=>by simp at h
 | _,_::_,[],_,_,_,_,h=>by simp at h
 | i,a::k,b::l,wk,wl,ha,hb,h=>by
  simp only[Ig,Bool.and_eq_true,beq_iff_eq] at ha hb;rw[hn a b i (wk a (by simp)) (wl b (by simp)) ha.1 hb.1,Su hn (i+1) k l (fun x hx=>wk x (by simp[hx])) (fun x hx=>wl x (by simp[hx])) ha.2 hb.2 (by simpa using h)]
theorem cY {s:α->List UInt8}{num:α->Option Int}{W:α->Prop}(H:Yv s W)(hn:∀a b n,W a->W b->num a=some n->num b=some n->a=b)(c:α->α->Int)(wta:α->Nat):Yv (shN s num) (wfN W c wta):=by
 constructor
 ·intro a b r t w y z A e;have j:=lI s num W c wta w y e;by_cases I:kd num a=0
  ·have l:kd num b=0:=by omega
   obtain⟨g,i⟩:=Pm _ _ r t (Po s num W c wta w I) (Po s num W c wta y l) z A e;exact⟨gA s num W c wta w y I l g,i⟩
  ·have l:¬kd num b=0:=by omega
   have O:∀x:Jf α,x.kind≠3->x.kind≠5->x.kind≠6->kd num x=0:=by
    intro x C D E;simp[kd,C,D,E]
   rcases w with rfl|⟨U,rfl⟩|⟨X,rfl,_⟩|⟨M,rfl,F⟩|⟨M,rfl,_⟩|⟨P,rfl,T,_⟩|⟨ks,vs,rfl,K,L,_,m,_⟩
   all_goals first|(exfalso;refine I (O _ ?_ ?_ ?_)<;>(simp[Vv,Pk,Sr,Pl];done))|skip
   all_goals rcases y with rfl|⟨V,rfl⟩|⟨Y,rfl,_⟩|⟨N,rfl,G⟩|⟨N,rfl,_⟩|⟨B,rfl,J,_⟩|⟨ks',vs',rfl,p,u,_,f,_⟩
   all_goals first|(exfalso;refine l (O _ ?_ ?_ ?_)<;>(simp[Vv,Pk,Sr,Pl];done))|skip
   ·simp only[jM,List.cons_append,List.cons.injEq,true_and,List.append_assoc,List.nil_append] at e;obtain⟨g,i⟩:=Mn M N r t F G e;exact⟨by rw[g],i⟩
   ·exact absurd j (by simp[kd,Ho,Kd])
   ·exact absurd j (by
     by_cases q:Ez num ks'=true
     ·rw[Jx num ks' vs' q];simp[kd,Ho]
     ·rw[Mm num ks' vs' q];simp[kd,Ho])
   ·exact absurd j (by simp[kd,Ho,Kd])
   ·simp only[fY,List.cons_append,List.cons.injEq,true_and] at e;obtain⟨g,i⟩:=gC H cW P B r t T J z A e;exact⟨by rw[g],i⟩
   ·exact absurd j (by
     by_cases q:Ez num ks'=true
     ·rw[Jx num ks' vs' q];simp[kd,Kd]
     ·rw[Mm num ks' vs' q];simp[kd,Kd])
   ·exact absurd j (by
     by_cases q:Ez num ks=true
     ·rw[Jx num ks vs q];simp[kd,Ho]
     ·rw[Mm num ks vs q];simp[kd,Ho])
   ·exact absurd j (by
     by_cases q:Ez num ks=true
     ·rw[Jx num ks vs q];simp[kd,Kd]
     ·rw[Mm num ks vs q];simp[kd,Kd])
   ·by_cases q:Ez num ks=true
    ·by_cases o:Ez num ks'=true
     ·simp only[Yu _ _ _ _ q,Yu _ _ _ _ o,List.cons_append,List.cons.injEq,true_and] at e;obtain⟨g,i⟩:=gC H cX vs vs' r t L u z A e;have S:ks.length=ks'.length:=by rw[m,f,g]
      rw[Su hn 1 ks ks' K p q o S,g];exact⟨rfl,i⟩
     ·rw[Jx num ks vs q,Mm num ks' vs' o] at j;simp at j
    ·by_cases o:Ez num ks'=true
     ·rw[Mm num ks vs q,Jx num ks' vs' o] at j;simp at j
     ·simp only[fZ _ _ _ _ q,fZ _ _ _ _ o,List.cons_append,List.cons.injEq,true_and] at e;cases ks with
      | nil=>exact absurd rfl q
      | cons k ks =>
       cases ks' with
       | nil=>exact absurd rfl o
       | cons k' ks' =>
        cases vs with
        | nil=>simp at m
        | cons v vs =>
         cases vs' with
         | nil=>simp at f
         | cons v' vs' =>
          simp only[List.map,jP,List.append_assoc,List.cons_append] at e;obtain⟨g,i⟩:=H.can k k' _ _ (K k (by simp)) (p k' (by simp)) (Fe (by decide)) (Fe (by decide)) e;simp only[List.cons.injEq,true_and] at i;obtain⟨C,Q⟩:=H.can v v' _ _ (L v (by simp)) (u v' (by simp)) (Mp _ _ r) (Mp _ _ t) i;obtain⟨D,E,R⟩:=gD H ks vs ks' vs' r t (fun x hx=>K x (by simp[hx])) (fun x hx=>L x (by simp[hx])) (fun x hx=>p x (by simp[hx])) (fun x hx=>u x (by simp[hx])) (by simpa using m) (by simpa using f) z A Q;exact⟨by rw[g,C,D,E],R⟩
 ·intro a w;obtain⟨d,r,e,h⟩:=Tr s num W c wta w;exact⟨d,r,_,e,h⟩
end
theorem jO:∀(n:Nat)(a b:AV n)(i:Int),WF n a->WF n b->Vw n a=some i->Vw n b=some i->a=b
 | 0,a,_,_,_,_,_,_=>Empty.elim a
 | n+1,a,b,i,ha,hb,ea,eb=>by
  have one:∀x:AV (n+1),WF (n+1) x->Vw (n+1) x=some i->x=(Sr i:Jf (AV n)):=by
   intro x d c;simp only[Vw] at c;split at c
   ·rename_i hk
    rcases d with rfl|⟨b,rfl⟩|⟨m,rfl,_⟩|⟨l,rfl,_⟩|⟨l,rfl,_⟩|⟨e,rfl,_⟩|⟨f,g,rfl,_⟩
    ·exact absurd hk (by simp[Vv])
    ·exact absurd hk (by simp[Pk])
    ·simp only[Sr,Option.some.injEq] at c;rw[c]
    ·exact absurd hk (by simp[Ho])
    ·exact absurd hk (by simp[Pl])
    ·exact absurd hk (by simp[Kd])
    ·exact absurd hk (by simp[Ys])
   ·simp at c
  rw[one a ha ea,one b hb eb]
theorem Ts:∀n,Yv (sh n) (WF n)
 | 0=>⟨fun a=>Empty.elim a,fun a=>Empty.elim a⟩
 | n+1=>cY (Ts n) (jO n) (lG n) (wt n)
end Go.Proofs.YtjbfcadeapphbaaGreatDoor.Sx
namespace Go.Proofs.YtjbfcadeapphbaaGreatDoor.Sx
structure Tk where
 cl:Nat
 tx:List UInt8
 at':Nat
structure PX where
 rk:Nat
 tx:List UInt8
 key:Option (List UInt8)
def wIf:List UInt8:=[105,102]
def Jg:List UInt8:=[108,101,116]
def Lg:List UInt8:=[45]
def C5:List UInt8:=[101,110,97,98,108,101,100]
def Cc:List UInt8:=[117,110,99,104,97,110,103,101,100]
def Es:List (List UInt8):=[[105,102],[108,101,116],[97,108,108],[115,111,109,101],[99,104,111,111,115,101],[102,117,110]]
def Ek:List (List UInt8):=[[110,111,116],[97,108,119,97,121,115],[101,118,101,110,116,117,97,108,108,121],[101,110,97,98,108,101,100]]
def Df:List (List UInt8):=[[45],[100,111,109,97,105,110],[112,111,119,101,114,115,101,116],[102,108,97,116,116,101,110],[117,110,99,104,97,110,103,101,100]]
def Gh:List (List UInt8):=[[110,105,108],[116,114,117,101],[102,97,108,115,101]]
def Cs:List (List UInt8):=[[115,105,122,101],[108,101,110],[104,101,97,100],[116,97,105,108],[97,112,112,101,110,100],[118,97,108,117,101,115],[115,101,113,115]]
def Dr:List (List UInt8):=[[101,97,99,104],[116,104,111,115,101]]
def C6 (p:List UInt8):Nat:=if Es.contains p then 0 else if Ek.contains p then 6 else if Df.contains p then 12 else 14
def E0:List (List UInt8×Nat):=[([108,101,97,100,115,116,111],1),([117,110,116,105,108],1),([105,102,102],2),([105,109,112,108,105,101,115],3),([111,114],4),([97,110,100],5),
 ([61],7),([47,61],7),([60],7),([60,61],7),([62],7),([62,61],7),([105,110],7),([115,117,98,115,101,116],7),([45,62],8),([46,46],9),
 ([43],10),([45],10),([117,110,105,111,110],10),([109,105,110,117,115],10),([43,43],10),([42],11),([47],11),([37],11),([105,110,116,101,114],11)]
def Ak (p:List UInt8):Nat:=(E0.lookup p).getD 0
def I5 (n:Nat):Bool:=n==2||n==4||n==5||n==10||n==11
def Cv (n:Nat):Nat:=if I5 n then n else n+1
def Ca (n:Nat):Nat:=if n=3 then 3 else n+1
def Al (x:PX)(least:Nat):List UInt8:=if x.rk<least then 40::(x.tx++[41]) else x.tx
def Bh (sep:Nat->List UInt8):Nat->List (List UInt8)->List UInt8
 | _,[]=>[]
 | i,a::l=>sep i++a++Bh sep (i+1) l
def Br (i:Nat):List UInt8:=if i=0 then[] else[44,32]
def C9 (i:Nat):List UInt8:=if i % 2=1 then[58,32] else if i=0 then[] else[44,32]
def Cx (l:List PX):List UInt8:=Bh Br 0 (l.map PX.tx)
def Ff (l:List UInt8):Bool:=(match l with | []=>false|c::_=>Bp c)&&decide (l.length<=16)&&l.all Bu&&!A0 l
def Cw (t:List UInt8):PX:=⟨14,t,none⟩
def Fg (n:List UInt8):PX:=⟨14,34::(n++[34]),if Ff n then some n else none⟩
def Ef (n:List UInt8)(l:List PX):PX:=⟨14,n++40::(Cx l++[41]),none⟩
def Jo (l:List PX):PX:=⟨14,123::(Cx l++[125]),none⟩
def Iz (l:List PX):PX:=⟨14,60::60::(Cx l++[62,62]),none⟩
def Jh (l:List PX):PX:=⟨14,91::(Bh C9 0 (l.map PX.tx)++[93]),none⟩
def Ed (r:Nat)(op n:List UInt8):PX:=⟨r,op++32::n,none⟩
def Co (r:Nat)(op:List UInt8)(x:PX):PX:=⟨r,if op=Lg then 45::Al x r else op++32::Al x r,none⟩
def dIf (a b c:PX):PX:=⟨0,[105,102,32]++a.tx++[32,116,104,101,110,32]++b.tx++[32,101,108,115,101,32]++c.tx,none⟩
def Kh (n:List UInt8)(a b:PX):PX:=⟨0,[108,101,116,32]++n++[32,61,32]++a.tx++[32,58,32]++b.tx,none⟩
def Gv (op n:List UInt8)(a b:PX):List UInt8:=op++[32]++n++[32,105,110,32]++Al a 8++[32,58,32]++b.tx
def C7 (op n:List UInt8)(a b:PX):PX:=if Dr.contains op then⟨14,123::(Gv op n a b++[125]),none⟩ else⟨0,Gv op n a b,none⟩
def B8 (op:List UInt8)(a b:PX):PX:=⟨Ak op,Al a (Cv (Ak op))++[32]++op++[32]++Al b (Ca (Ak op)),none⟩
def dAt (f k:PX):PX:=⟨13,Al f 13++(match k.key with|some n=>46::n|none=>91::(k.tx++[93])),none⟩
def Gp (f k v:PX):PX:=⟨13,Al f 13++91::(k.tx++[32,58,61,32]++v.tx++[93]),none⟩
abbrev RX (β:Type):=Option (Except (Nat×Nat) (β×Nat))
def bX {β γ:Type}(r:RX β)(k:β->Nat->RX γ):RX γ :=
 match r with
 | none=>none
 | some (.error e)=>some (.error e)
 | some (.ok (x,i))=>k x i
def okX {β:Type}(x:β)(i:Nat):RX β:=some (.ok (x,i))
def Dg {β:Type}(c p:Nat):RX β:=some (.error (c,p))
section
variable (K:Nat->Tk)
def B7 {γ:Type}(m:List UInt8)(i:Nat)(k:Nat->RX γ):RX γ:=if (K i).tx==m then k (i+1) else Dg 1 (K i).at'
def Dh {γ:Type}(d i:Nat)(k:Nat->RX γ):RX γ:=if d=24 then Dg 6 (K i).at' else k (i+1)
def Au (i:Nat):RX (List UInt8) :=
 if (K i).cl≠1\/A0 (K i).tx=true then Dg 1 (K i).at' else if 16<(K i).tx.length then Dg 5 (K i).at' else okX (K i).tx (i+1)
def A2 {β:Type}(closing:List UInt8)(item:Nat->RX β):Nat->List β->Nat->RX (List β)
 | 0,_,_=>none
 | m+1,acc,i=>bX (item i) fun x j=>if (K j).tx==closing then okX (acc++[x]) (j+1) else B7 K [44] j fun j=>A2 closing item m (acc++[x]) j
def Lh {β:Type}(closing:List UInt8)(item:Nat->RX β)(m i:Nat):RX (List β) :=
 if (K i).tx==closing then okX [] (i+1) else A2 K closing item m [] i
variable (self:Nat->Nat->Nat->RX PX)
def Gt (d i:Nat):RX (PX×PX):=bX (self 0 d i) fun a j=>B7 K [58] j fun j=>bX (self 0 d j) fun b j=>okX (a,b) j
def Jy (op:List UInt8)(d i:Nat):RX PX :=
 bX (Au K i) fun n j=>B7 K [105,110] j fun j=>bX (self 8 d j) fun a j=>B7 K [58] j fun j=>bX (self 0 d j) fun b j=>okX (C7 op n a b) j
def I6 (d i:Nat):RX PX :=
 bX (self 0 d i) fun a j=>B7 K [116,104,101,110] j fun j=>bX (self 0 d j) fun b j=>B7 K [101,108,115,101] j fun j=>bX (self 0 d j) fun c j=>okX (dIf a b c) j
def Jz (d i:Nat):RX PX :=
 bX (Au K i) fun n j=>B7 K [61] j fun j=>bX (self 0 d j) fun a j=>B7 K [58] j fun j=>bX (self 0 d j) fun b j=>okX (Kh n a b) j
def Dv (d i:Nat):RX PX :=
 Dh K d i fun j=>if (K i).tx==wIf then I6 K self (d+1) j else if (K i).tx==Jg then Jz K self (d+1) j else Jy K self (K i).tx (d+1) j
def El (r d i:Nat):RX PX :=
 if (K i).tx==C5||(K i).tx==Cc then bX (Au K (i+1)) fun n j=>okX (Ed r (K i).tx n) j
 else Dh K d i fun j=>bX (self r (d+1) j) fun x j=>okX (Co r (K i).tx x) j
def Ke (m:Nat)(n:List UInt8)(d i:Nat):RX PX :=
 Dh K d i fun j=>bX (A2 K [41] (self 0 (d+1)) m [] j) fun l j=>okX (Ef n l) j
def Hq (m d i:Nat):RX PX :=
 bX (Au K i) fun n j=>if (K j).tx==[39] then okX (Cw (n++[39])) (j+1) else if (K j).tx==[40] then Ke K self m n d j else okX (Cw n) j
def Ge (m d i:Nat):RX PX :=
 if Gh.contains (K i).tx then okX (Cw (K i).tx) (i+1)
 else if Cs.contains (K i).tx then(if (K (i+1)).tx==[40] then Ke K self m (K i).tx d (i+1) else Dg 1 (K (i+1)).at')
 else Hq K self m d i
def Oz (m d i:Nat):RX PX :=
 if Dr.contains (K i).tx then bX (Jy K self (K i).tx d (i+1)) fun x j=>B7 K [125] j fun j=>okX x j
 else bX (Lh K [125] (self 0 d) m i) fun l j=>okX (Jo l) j
def Cj (m d i:Nat):RX PX :=
 if (K i).tx==[40] then Dh K d i fun j=>bX (self 0 (d+1) j) fun x j=>B7 K [41] j fun j=>okX x j
 else if (K i).tx==[123] then Dh K d i fun j=>Oz K self m (d+1) j
 else if (K i).tx==[60,60] then Dh K d i fun j=>bX (Lh K [62,62] (self 0 (d+1)) m j) fun l j=>okX (Iz l) j
 else if (K i).tx==[91] then Dh K d i fun j=>bX (A2 K [93] (Gt K self (d+1)) m [] j) fun l j=>okX (Jh (l.flatMap fun p=>[p.1,p.2])) j
 else Dg 1 (K i).at'
def Gw (m d i:Nat):RX PX :=
 if (K i).cl=2 then(match Lib.parseIntB 64 (K i).tx with | .ok v=>okX (Cw (Lib.itoa v)) (i+1)|_=>Dg 5 (K i).at')
 else if (K i).cl=3 then okX (Fg (((K i).tx.take ((K i).tx.length-1)).drop 1)) (i+1)
 else if (K i).cl=1 then Ge K self m d i
 else Cj K self m d i
def Ce (M d:Nat):Nat->PX->Nat->RX PX
 | 0,_,_=>none
 | m+1,x,i =>
  if (K i).tx==[91] then Dh K d i fun j=>bX (self 0 (d+1) j) fun k j =>
   if (K j).tx==[58,61] then bX (self 0 (d+1) (j+1)) fun v j=>B7 K [93] j fun j=>Ce M d m (Gp x k v) j
   else B7 K [93] j fun j=>Ce M d m (dAt x k) j
  else if (K i).tx==[46] then bX (Au K (i+1)) fun n j=>Ce M d m (dAt x (Fg n)) j
  else okX x i
def Gq (m d i:Nat):RX PX:=bX (Gw K self m d i) fun x j=>Ce K self m d m x j
def Cr (rank d:Nat):Nat->Nat->PX->Nat->RX (PX×Nat)
 | 0,_,_,_=>none
 | m+1,held,x,i =>
  if Ak (K i).tx=0\/Ak (K i).tx<rank\/held<Cv (Ak (K i).tx) then okX (x,held) i
  else bX (self (Ca (Ak (K i).tx)) d (i+1)) fun y j=>Cr rank d m (Ak (K i).tx) (B8 (K i).tx x y) j
def Hc (m held d i:Nat):RX PX:=if held=0 then Dv K self d i else if held=6\/held=12 then El K self held d i else Gq K self m d i
def Ii (m rank d i:Nat):RX (PX×Nat) :=
 if C6 (K i).tx<rank then Dg 1 (K i).at'
 else bX (Hc K self m (C6 (K i).tx) d i) fun x j=>Cr K self rank d m (C6 (K i).tx) x j
def I0 (n d:Nat):Nat->PX->Nat->RX PX
 | 0,_,_=>none
 | m+1,x,i =>
  if Ak (K i).tx=n then bX (self (Ca n) d (i+1)) fun y j=>if I5 n then I0 n d m (B8 (K i).tx x y) j else okX (B8 (K i).tx x y) j
  else okX x i
def Ij (m d:Nat):Nat->Nat->RX PX
 | 0,i=>if Df.contains (K i).tx then El K self 12 d i else Gq K self m d i
 | k+1,i =>
  if k=5 then(if Ek.contains (K i).tx then El K self 6 d i else Ij m d k i)
  else bX (Ij m d k i) fun x j=>I0 K self (11-k) d m x j
def Hh (m n d i:Nat):RX PX :=
 if n=0 then(if Es.contains (K i).tx then Dv K self d i else Ij K self m d 11 i) else Ij K self m d (12-n) i
end
def Ht (K:Nat->Tk):Nat->Nat->Nat->Nat->RX PX
 | 0,_,_,_=>none
 | f+1,n,d,i=>bX (Ii K (Ht K f) f (min n 12) d i) fun x j=>okX x.1 j
def Li (K:Nat->Tk):Nat->Nat->Nat->Nat->RX PX
 | 0,_,_,_=>none
 | f+1,n,d,i=>Hh K (Li K f) f n d i
def leX {β:Type}(a b:RX β):Prop:=a=none\/a=b
theorem leX.refl {β:Type}(a:RX β):leX a a:=.inr rfl
theorem leX.none {β:Type}(a:RX β):leX Option.none a:=.inl rfl
theorem leX.trans {β:Type}{a b c:RX β}(h:leX a b)(k:leX b c):leX a c:=by
 rcases h with h|h
 ·exact .inl h
 ·subst h;exact k
theorem leX.some {β:Type}{a b:RX β}(h:leX a b){r:Except (Nat×Nat) (β×Nat)}(e:a=Option.some r):b=Option.some r:=by
 rcases h with h|h
 ·rw[h] at e;simp at e
 ·rw[<- h,e]
theorem Bd {β γ:Type}{r r':RX β}{k k':β->Nat->RX γ}(h:leX r r')(hk:∀x i,leX (k x i) (k' x i)):leX (bX r k) (bX r' k'):=by
 rcases h with h|h
 ·rw[h];exact .inl rfl
 ·subst h;rcases r with _|(e|⟨x,i⟩)
  ·exact .inl rfl
  ·exact .inr rfl
  ·exact hk x i
theorem Bc {β:Type}{c:Prop}[Decidable c]{a a' b b':RX β}(h:leX a a')(k:leX b b'):leX (if c then a else b) (if c then a' else b'):=by
 split
 ·exact h
 ·exact k
theorem Di {γ:Type}{K:Nat->Tk}{m:List UInt8}{i:Nat}{k k':Nat->RX γ}(h:∀j,leX (k j) (k' j)):leX (B7 K m i k) (B7 K m i k'):=Bc (h _) (leX.refl _)
theorem Fd {γ:Type}{K:Nat->Tk}{d i:Nat}{k k':Nat->RX γ}(h:∀j,leX (k j) (k' j)):leX (Dh K d i k) (Dh K d i k'):=Bc (leX.refl _) (h _)
theorem Gx {β:Type}{K:Nat->Tk}{cl:List UInt8}{item item':Nat->RX β}(h:∀i,leX (item i) (item' i)):∀m m',m<=m'->∀acc i,leX (A2 K cl item m acc i) (A2 K cl item' m' acc i)
 | 0,_,_,_,_=>leX.none _
 | m+1,0,hm,_,_=>absurd hm (by omega)
 | m+1,m'+1,hm,acc,i=>Bd (h i) fun x j=>Bc (leX.refl _) (Di fun j=>Gx h m m' (by omega) _ _)
theorem Sv {β:Type}{K:Nat->Tk}{cl:List UInt8}{item item':Nat->RX β}(h:∀i,leX (item i) (item' i)){m m':Nat}(hm:m<=m')(i:Nat):leX (Lh K cl item m i) (Lh K cl item' m' i) :=
 Bc (leX.refl _) (Gx h m m' hm _ _)
abbrev LeS (self self':Nat->Nat->Nat->RX PX):Prop:=∀n d i,leX (self n d i) (self' n d i)
section
variable {K:Nat->Tk} {self self':Nat->Nat->Nat->RX PX}
theorem Yw (hs:LeS self self')(d i:Nat):leX (Gt K self d i) (Gt K self' d i) :=
 Bd (hs _ _ _) fun _ _=>Di fun _=>Bd (hs _ _ _) fun _ _=>leX.refl _
theorem Oc (hs:LeS self self')(op:List UInt8)(d i:Nat):leX (Jy K self op d i) (Jy K self' op d i) :=
 Bd (leX.refl _) fun _ _=>Di fun _=>Bd (hs _ _ _) fun _ _=>Di fun _=>Bd (hs _ _ _) fun _ _=>leX.refl _
theorem Tt (hs:LeS self self')(d i:Nat):leX (I6 K self d i) (I6 K self' d i) :=
 Bd (hs _ _ _) fun _ _=>Di fun _=>Bd (hs _ _ _) fun _ _=>Di fun _=>Bd (hs _ _ _) fun _ _=>leX.refl _
theorem Tu (hs:LeS self self')(d i:Nat):leX (Jz K self d i) (Jz K self' d i) :=
 Bd (leX.refl _) fun _ _=>Di fun _=>Bd (hs _ _ _) fun _ _=>Di fun _=>Bd (hs _ _ _) fun _ _=>leX.refl _
theorem Ll (hs:LeS self self')(d i:Nat):leX (Dv K self d i) (Dv K self' d i) :=
 Fd fun _=>Bc (Tt hs _ _) (Bc (Tu hs _ _) (Oc hs _ _ _))
theorem Kk (hs:LeS self self')(r d i:Nat):leX (El K self r d i) (El K self' r d i) :=
 Bc (leX.refl _) (Fd fun _=>Bd (hs _ _ _) fun _ _=>leX.refl _)
theorem Pp (hs:LeS self self'){m m':Nat}(hm:m<=m')(n:List UInt8)(d i:Nat):leX (Ke K self m n d i) (Ke K self' m' n d i) :=
 Fd fun _=>Bd (Gx (fun i=>hs _ _ i) m m' hm _ _) fun _ _=>leX.refl _
theorem Vy (hs:LeS self self'){m m':Nat}(hm:m<=m')(d i:Nat):leX (Hq K self m d i) (Hq K self' m' d i) :=
 Bd (leX.refl _) fun _ _=>Bc (leX.refl _) (Bc (Pp hs hm _ _ _) (leX.refl _))
theorem Yx (hs:LeS self self'){m m':Nat}(hm:m<=m')(d i:Nat):leX (Ge K self m d i) (Ge K self' m' d i) :=
 Bc (leX.refl _) (Bc (Bc (Pp hs hm _ _ _) (leX.refl _)) (Vy hs hm _ _))
theorem cZ (hs:LeS self self'){m m':Nat}(hm:m<=m')(d i:Nat):leX (Oz K self m d i) (Oz K self' m' d i) :=
 Bc (Bd (Oc hs _ _ _) fun _ _=>leX.refl _) (Bd (Sv (fun i=>hs _ _ i) hm _) fun _ _=>leX.refl _)
theorem Ro (hs:LeS self self'){m m':Nat}(hm:m<=m')(d i:Nat):leX (Cj K self m d i) (Cj K self' m' d i) :=
 Bc (Fd fun _=>Bd (hs _ _ _) fun _ _=>leX.refl _) (Bc (Fd fun _=>cZ hs hm _ _)
  (Bc (Fd fun _=>Bd (Sv (fun i=>hs _ _ i) hm _) fun _ _=>leX.refl _)
   (Bc (Fd fun _=>Bd (Gx (fun i=>Yw hs _ i) m m' hm _ _) fun _ _=>leX.refl _) (leX.refl _))))
theorem Vz (hs:LeS self self'){m m':Nat}(hm:m<=m')(d i:Nat):leX (Gw K self m d i) (Gw K self' m' d i) :=
 Bc (leX.refl _) (Bc (leX.refl _) (Bc (Yx hs hm _ _) (Ro hs hm _ _)))
theorem H4 (hs:LeS self self')(M M' d:Nat):∀m m',m<=m'->∀x i,leX (Ce K self M d m x i) (Ce K self' M' d m' x i)
 | 0,_,_,_,_=>leX.none _
 | m+1,0,hm,_,_=>absurd hm (by omega)
 | m+1,m'+1,hm,x,i =>
  Bc (Fd fun _=>Bd (hs _ _ _) fun _ _=>Bc (Bd (hs _ _ _) fun _ _=>Di fun _=>H4 hs M M' d m m' (by omega) _ _) (Di fun _=>H4 hs M M' d m m' (by omega) _ _))
   (Bc (Bd (leX.refl _) fun _ _=>H4 hs M M' d m m' (by omega) _ _) (leX.refl _))
theorem Kl (hs:LeS self self'){m m':Nat}(hm:m<=m')(d i:Nat):leX (Gq K self m d i) (Gq K self' m' d i) :=
 Bd (Vz hs hm _ _) fun _ _=>H4 hs _ _ _ m m' hm _ _
theorem Hj (hs:LeS self self')(rank d:Nat):∀m m',m<=m'->∀h x i,leX (Cr K self rank d m h x i) (Cr K self' rank d m' h x i)
 | 0,_,_,_,_,_=>leX.none _
 | m+1,0,hm,_,_,_=>absurd hm (by omega)
 | m+1,m'+1,hm,h,x,i=>Bc (leX.refl _) (Bd (hs _ _ _) fun _ _=>Hj hs rank d m m' (by omega) _ _ _)
theorem H5 (hs:LeS self self'){m m':Nat}(hm:m<=m')(held d i:Nat):leX (Hc K self m held d i) (Hc K self' m' held d i) :=
 Bc (Ll hs _ _) (Bc (Kk hs _ _ _) (Kl hs hm _ _))
theorem Lt (hs:LeS self self'){m m':Nat}(hm:m<=m')(rank d i:Nat):leX (Ii K self m rank d i) (Ii K self' m' rank d i) :=
 Bc (leX.refl _) (Bd (H5 hs hm _ _ _) fun _ _=>Hj hs _ _ m m' hm _ _ _)
theorem Sw (hs:LeS self self')(n d:Nat):∀m m',m<=m'->∀x i,leX (I0 K self n d m x i) (I0 K self' n d m' x i)
 | 0,_,_,_,_=>leX.none _
 | m+1,0,hm,_,_=>absurd hm (by omega)
 | m+1,m'+1,hm,x,i=>Bc (Bd (hs _ _ _) fun _ _=>Bc (Sw hs n d m m' (by omega) _ _) (leX.refl _)) (leX.refl _)
theorem J0 (hs:LeS self self'){m m':Nat}(hm:m<=m')(d:Nat):∀k i,leX (Ij K self m d k i) (Ij K self' m' d k i)
 | 0,_=>Bc (Kk hs _ _ _) (Kl hs hm _ _)
 | k+1,i=>Bc (Bc (Kk hs _ _ _) (J0 hs hm d k i)) (Bd (J0 hs hm d k i) fun _ _=>Sw hs _ _ m m' hm _ _)
theorem Yy (hs:LeS self self'){m m':Nat}(hm:m<=m')(n d i:Nat):leX (Hh K self m n d i) (Hh K self' m' n d i) :=
 Bc (Bc (Ll hs _ _) (J0 hs hm _ _ _)) (J0 hs hm _ _ _)
end
theorem Pq (K:Nat->Tk):∀f f',f<=f'->∀n d i,leX (Ht K f n d i) (Ht K f' n d i)
 | 0,_,_,_,_,_=>leX.none _
 | f+1,0,h,_,_,_=>absurd h (by omega)
 | f+1,f'+1,h,n,d,i=>Bd (Lt (Pq K f f' (by omega)) (by omega) _ _ _) fun _ _=>leX.refl _
structure Bs (t:Tk):Prop where
 word:∀c r,t.tx=c::r->Bp c=true->t.cl=1
 sort:t.cl=0\/t.cl=1\/t.cl=2\/t.cl=3\/t.cl=4\/t.cl=5
 none:t.cl=0->t.tx=[]
 odd:t.cl=2\/t.cl=3\/t.cl=5->∀c r,t.tx=c::r->Bg c=true\/c=95\/c=34
 two:t.cl=3->2<=t.tx.length
theorem Pr {p:List UInt8}{v:Nat}:∀(l:List (List UInt8×Nat)),l.lookup p=some v->v∈l.map Prod.snd
 | [],h=>by simp at h
 | (a,b)::l,h=>by
  rw[List.lookup_cons] at h;split at h
  ·simp only[Option.some.injEq] at h;simp[h]
  ·have:=Pr l h;simp only[List.map_cons,List.mem_cons];exact .inr this
theorem Gk (p:List UInt8):Ak p=0\/Ak p=1\/Ak p=2\/Ak p=3\/Ak p=4\/Ak p=5\/Ak p=7\/Ak p=8\/Ak p=9\/Ak p=10\/Ak p=11:=by
 unfold Ak;cases h:E0.lookup p with
 | none=>exact .inl rfl
 | some v =>
  have:=Pr _ h;simp only[E0,List.map_cons,List.map_nil,List.mem_cons,List.not_mem_nil,or_false] at this;simp only[Option.getD_some];omega
theorem Km (n:Nat):n<=Cv n/\Cv n<=n+1:=by unfold Cv;split<;>omega
theorem cD {p:List UInt8}(h:Es.contains p=true):C6 p=0:=by unfold C6;rw[if_pos h]
theorem cE {p:List UInt8}(h:Ek.contains p=true):C6 p=6:=by
 have:Es.contains p=false:=by
  simp only[Ek,List.contains_cons,List.contains_nil,Bool.or_false,Bool.or_eq_true,beq_iff_eq] at h;rcases h with rfl|rfl|rfl|rfl<;>rfl
 unfold C6;rw[this,h];rfl
theorem Ps {p:List UInt8}(h:Df.contains p=true):C6 p=12:=by
 have a:Es.contains p=false/\Ek.contains p=false:=by
  simp only[Df,List.contains_cons,List.contains_nil,Bool.or_false,Bool.or_eq_true,beq_iff_eq] at h;rcases h with rfl|rfl|rfl|rfl|rfl<;>exact⟨rfl,rfl⟩
 unfold C6;rw[a.1,a.2,h];rfl
theorem Mq (p:List UInt8):(C6 p=0/\Es.contains p=true)\/(C6 p=6/\Ek.contains p=true)\/(C6 p=12/\Df.contains p=true)\/(C6 p=14/\Es.contains p=false/\Ek.contains p=false/\Df.contains p=false):=by
 cases b:Es.contains p with
 | true=>exact .inl ⟨cD b,rfl⟩
 | false =>
  cases c:Ek.contains p with
  | true=>exact .inr (.inl ⟨cE c,rfl⟩)
  | false =>
   cases a:Df.contains p with
   | true=>exact .inr (.inr (.inl ⟨Ps a,rfl⟩))
   | false=>exact .inr (.inr (.inr ⟨by unfold C6;rw[b,c,a];rfl,rfl,rfl,rfl⟩))
theorem Pt {K:Nat->Tk}{self:Nat->Nat->Nat->RX PX}{m d i:Nat}(hK:Bs (K i))(h:Es.contains (K i).tx=true\/Ek.contains (K i).tx=true):Gq K self m d i=Dg 1 (K i).at':=by
 have a:(K i).cl=1/\Gh.contains (K i).tx=false/\Cs.contains (K i).tx=false/\A0 (K i).tx=true:=by
  simp only[Es,Ek,List.contains_cons,List.contains_nil,Bool.or_false,Bool.or_eq_true,beq_iff_eq] at h;rcases h with(h|h|h|h|h|h)|(h|h|h|h)
  all_goals
   refine⟨hK.word _ _ h rfl,?_⟩;rw[h];exact⟨rfl,rfl,by decide⟩
 have b:Au K i=Dg 1 (K i).at':=by unfold Au;rw[if_pos (.inr a.2.2.2)]
 unfold Gq Gw Ge Hq;rw[if_neg (by omega),if_neg (by omega),if_pos a.1,if_neg (by rw[a.2.1];simp),if_neg (by rw[a.2.2.1];simp),b];rfl
theorem C8 {β γ δ:Type}(r:RX β)(k:β->Nat->RX γ)(l:γ->Nat->RX δ):bX (bX r k) l=bX r fun x i=>bX (k x i) l:=by
 rcases r with _|(e|⟨x,i⟩)<;>rfl
theorem mO {β γ:Type}(x:β)(i:Nat)(k:β->Nat->RX γ):bX (okX x i) k=k x i:=rfl
section
variable {K:Nat->Tk} {self:Nat->Nat->Nat->RX PX}
theorem Od (n d m2:Nat):∀m held x i,leX (bX (Cr K self (n+1) d m held x i) fun y j=>Cr K self n d m2 y.2 y.1 j) (Cr K self n d (m+m2) held x i)
 | 0,_,_,_=>leX.none _
 | m+1,held,x,i=>by
  rw[Cr];by_cases h:Ak (K i).tx=0\/Ak (K i).tx<n+1\/held<Cv (Ak (K i).tx)
  ·rw[if_pos h,mO];exact Hj (fun _ _ _=>leX.refl _) n d m2 (m+1+m2) (by omega) _ _ _
  ·rw[if_neg h,show m+1+m2=(m+m2)+1 from by omega,Cr,if_neg (by omega),C8];exact Bd (leX.refl _) fun y j=>Od n d m2 m _ _ _
theorem Pu (n d:Nat):∀m held x i y h' j,Cr K self n d m held x i=some (.ok ((y,h'),j))->n<=held->n<=h'/\(Ak (K j).tx=0\/Ak (K j).tx<n\/h'<Cv (Ak (K j).tx))
 | 0,_,_,_,_,_,_,e,_=>by simp[Cr] at e
 | m+1,held,x,i,y,h',j,e,hn=>by
  rw[Cr] at e;by_cases h:Ak (K i).tx=0\/Ak (K i).tx<n\/held<Cv (Ak (K i).tx)
  ·rw[if_pos h] at e;simp only[okX,Option.some.injEq,Except.ok.injEq,Prod.mk.injEq] at e;obtain⟨⟨-,rfl⟩,rfl⟩:=e;exact⟨hn,h⟩
  ·rw[if_neg h] at e;cases q:self (Ca (Ak (K i).tx)) d (i+1) with
   | none=>rw[q] at e;simp[bX] at e
   | some r =>
    rw[q] at e;rcases r with e' | ⟨z,k⟩
    ·simp[bX] at e
    ·exact Pu n d m _ _ _ y h' j e (by omega)
theorem Ik {n d m held:Nat}{x:PX}{i:Nat}(h:Ak (K i).tx=0\/Ak (K i).tx<n\/held<Cv (Ak (K i).tx)):Cr K self n d (m+1) held x i=okX (x,held) i:=by rw[Cr,if_pos h]
theorem V7 (n d:Nat)(hn:1<=n)(hl:I5 n=true):∀m y j,leX (I0 K self n d m y j) (bX (Cr K self n d m n y j) fun z j=>okX z.1 j)
 | 0,_,_=>leX.none _
 | m+1,y,j=>by
  rw[I0,Cr];have hlf:Cv n=n:=by unfold Cv;rw[hl];rfl
  by_cases h:Ak (K j).tx=n
  ·rw[if_pos h,if_neg (by rw[h,hlf];omega),C8,h];exact Bd (leX.refl _) fun z k=>by rw[hl];exact V7 n d hn hl m _ _
  ·have:=(Km (Ak (K j).tx)).1;rw[if_neg h,if_pos (by omega)];exact leX.refl _
theorem dA (n d:Nat)(hn:1<=n)(m:Nat)(y:PX)(h' j:Nat)(hh:n+1<=h')(hs:Ak (K j).tx=0\/Ak (K j).tx<n+1\/h'<Cv (Ak (K j).tx)) :
  leX (I0 K self n d m y j) (bX (Cr K self n d (m+1) h' y j) fun z j=>okX z.1 j):=by
 cases m with
 | zero=>exact leX.none _
 | succ m =>
  rw[I0,Cr];have c:=Km n;by_cases h:Ak (K j).tx=n
  ·rw[if_pos h,if_neg (by rw[h];omega),C8,h];refine Bd (leX.refl _) fun z k=>?_;cases a:I5 n with
   | true=>exact(V7 n d hn a m _ _).trans (Bd (Hj (fun _ _ _=>leX.refl _) n d m (m+1) (by omega) _ _ _) fun _ _=>leX.refl _)
   | false =>
    have b:Cv n=n+1:=by unfold Cv;rw[a];rfl
    have e:=Km (Ak (K k).tx);rw[if_neg (by simp),Ik (by
     by_cases q:Ak (K k).tx=n
     ·rw[q,b];omega
     ·omega)]
    exact leX.refl _
  ·rw[if_neg h,if_pos (by omega)];exact leX.refl _
theorem Pv {a b:Nat}(h:∀p,(Ak p=0\/Ak p<a)↔(Ak p=0\/Ak p<b))(d:Nat):∀m held x i,Cr K self a d m held x i=Cr K self b d m held x i
 | 0,_,_,_=>rfl
 | m+1,held,x,i=>by
  rw[Cr,Cr];have:=h (K i).tx;by_cases q:Ak (K i).tx=0\/Ak (K i).tx<a\/held<Cv (Ak (K i).tx)
  ·rw[if_pos q,if_pos (by omega)]
  ·rw[if_neg q,if_neg (by omega)]
   congr 1;funext y j;exact Pv h d m _ _ _
theorem Nm (hK:∀i,Bs (K i))(m d:Nat):∀k,k<=11->∀i,leX (Ij K self m d k i) (bX (Ii K self ((k+1)*(m+1)) (12-k) d i) fun x j=>okX x.1 j)
 | 0,_,i=>by
  rw[Ij];unfold Ii;rcases Mq (K i).tx with⟨e,h⟩|⟨e,h⟩|⟨e,h⟩|⟨e,h0,h6,h⟩
  ·rw[e,if_pos (show 0<12-0 by omega)];have:Df.contains (K i).tx=false:=by
    cases q:Df.contains (K i).tx with
    | false=>rfl
    | true=>have:=Ps q;omega
   rw[this,Pt (hK i) (.inl h)];exact leX.refl _
  ·rw[e,if_pos (show 6<12-0 by omega)];have:Df.contains (K i).tx=false:=by
    cases q:Df.contains (K i).tx with
    | false=>rfl
    | true=>have:=Ps q;omega
   rw[this,Pt (hK i) (.inr h)];exact leX.refl _
  ·rw[h,e,if_neg (show ¬12<12-0 by omega),if_pos rfl,C8];have c:Hc K self ((0+1)*(m+1)) 12 d i=El K self 12 d i:=rfl;rw[c];rcases hq:El K self 12 d i with _|(q|⟨x,j⟩)
   ·exact leX.none _
   ·exact leX.refl _
   ·show leX _ (bX (Cr _ _ _ _ _ _ _ _) _);rw[show(0+1)*(m+1)=m+1 from by omega,Ik (by have:=Gk (K j).tx;omega)];exact leX.refl _
  ·rw[h,e,if_neg (show ¬14<12-0 by omega),C8];have c:Hc K self ((0+1)*(m+1)) 14 d i=Gq K self (m+1) d i:=by rw[show(0+1)*(m+1)=m+1 from by omega];rfl
   rw[c];refine leX.trans (Kl (fun _ _ _=>leX.refl _) (Nat.le_succ m) _ _) ?_;rcases hq:Gq K self (m+1) d i with _|(q|⟨x,j⟩)
   ·exact leX.none _
   ·exact leX.refl _
   ·show leX _ (bX (Cr _ _ _ _ _ _ _ _) _);rw[show(0+1)*(m+1)=m+1 from by omega,Ik (by have:=Gk (K j).tx;omega)];exact leX.refl _
 | k+1,hk,i=>by
  have g:=Nm hK m d k (by omega) i;have r:(k+1+1)*(m+1)=(k+1)*(m+1)+(m+1):=by rw[Nat.add_mul (k+1) 1 (m+1),Nat.one_mul]
  rw[Ij];by_cases o:k=5
  ·subst o;rw[if_pos rfl];unfold Ii;unfold Ii at g;cases h6:Ek.contains (K i).tx with
   | true =>
    have e:=cE h6;rw[e,if_pos rfl,if_neg (show ¬6<12-(5+1) by omega),C8];have c:∀M,Hc K self M 6 d i=El K self 6 d i:=fun _=>rfl;rw[c];rcases hq:El K self 6 d i with _|(q|⟨x,j⟩)
    ·exact leX.none _
    ·exact leX.refl _
    ·show leX _ (bX (Cr _ _ _ _ _ _ _ _) _);rw[show(5+1+1)*(m+1)=(6*(m+1)+m)+1 from by omega,Ik (by have:=Gk (K j).tx;have:=Km (Ak (K j).tx);omega)];exact leX.refl _
   | false =>
    have e:=Mq (K i).tx;rw[h6] at e;refine leX.trans g ?_;by_cases q:C6 (K i).tx<12-5
    ·rw[if_pos q,if_pos (by simp at e;omega)];exact leX.refl _
    ·rw[if_neg q,if_neg (by omega),C8,C8];refine Bd (H5 (fun _ _ _=>leX.refl _) (by omega) _ _ _) fun x j=>?_;rw[Pv (a:=12-(5+1)) (b:=12-5) (fun p=>by have:=Gk p;omega)];exact Bd (Hj (fun _ _ _=>leX.refl _) _ _ _ _ (by omega) _ _ _) fun _ _=>leX.refl _
  ·rw[if_neg o];refine leX.trans (Bd g fun _ _=>leX.refl _) ?_;unfold Ii;have e:=Mq (K i).tx;by_cases q:C6 (K i).tx<12-k
   ·rw[if_pos q,if_pos (by omega)];exact leX.refl _
   ·rw[if_neg q,if_neg (by omega),C8,C8,C8];refine Bd (H5 (fun _ _ _=>leX.refl _) (by omega) _ _ _) fun x j=>?_;rw[r,show 12-k=(12-(k+1))+1 from by omega];have f:=Pu (K:=K) (self:=self) (12-(k+1)+1) d ((k+1)*(m+1)) (C6 (K i).tx) x j;refine leX.trans ?_ (Bd (Od (12-(k+1)) d (m+1) ((k+1)*(m+1)) _ _ _) fun _ _=>leX.refl _);rw[C8];rcases hq:Cr K self (12-(k+1)+1) d ((k+1)*(m+1)) (C6 (K i).tx) x j with _|(u|⟨⟨y,n⟩,l⟩)
    ·exact leX.none _
    ·exact leX.refl _
    ·obtain⟨s,t⟩:=f y n l hq (by omega);show leX (I0 _ _ _ _ _ _ _) (bX (Cr _ _ _ _ _ _ _ _) _);rw[show 11-k=12-(k+1) from by omega];exact dA _ d (by omega) m y n l s t
theorem dB (hK:∀i,Bs (K i))(m n d i:Nat)(hn:n<=12):leX (Hh K self m n d i) (bX (Ii K self (12*(m+1)) n d i) fun x j=>okX x.1 j):=by
 unfold Hh;by_cases h:n=0
 ·subst h;rw[if_pos rfl];cases c:Es.contains (K i).tx with
  | true =>
   unfold Ii;rw[cD c,if_pos rfl,if_neg (show ¬0<0 by omega),C8];have f:∀M,Hc K self M 0 d i=Dv K self d i:=fun _=>rfl;rw[f];rcases hq:Dv K self d i with _|(q|⟨x,j⟩)
   ·exact leX.none _
   ·exact leX.refl _
   ·show leX _ (bX (Cr _ _ _ _ _ _ _ _) _);rw[show 12*(m+1)=(12*m+11)+1 from by omega,Ik (by have:=Gk (K j).tx;have:=Km (Ak (K j).tx);omega)];exact leX.refl _
  | false =>
   refine leX.trans (Nm hK m d 11 (by omega) i) ?_;have e:=Mq (K i).tx;rw[c] at e;unfold Ii;rw[if_neg (by simp at e;omega),if_neg (by omega),C8,C8];refine Bd (H5 (fun _ _ _=>leX.refl _) (by omega) _ _ _) fun x j=>?_;rw[Pv (a:=0) (b:=12-11) (fun p=>by have:=Gk p;omega)];exact leX.refl _
 ·rw[if_neg h];refine leX.trans (Nm hK m d (12-n) (by omega) i) ?_;rw[show 12-(12-n)=n from by omega];exact Bd (Lt (fun _ _ _=>leX.refl _) (Nat.mul_le_mul_right _ (by omega)) _ _ _) fun _ _=>leX.refl _
end
theorem Wb {K:Nat->Tk}(hK:∀i,Bs (K i)):∀f n d i,leX (Li K f n d i) (Ht K (13*f+20) n d i)
 | 0,_,_,_=>leX.none _
 | f+1,n,d,i=>by
  have ih:=Wb hK f;have e:Hh K (Ht K (13*f+20)) f n d i=Hh K (Ht K (13*f+20)) f (min n 12) d i:=by
   by_cases h:n<=12
   ·rw[Nat.min_eq_left h]
   ·unfold Hh;rw[if_neg (by omega),if_neg (by omega),show 12-n=12-min n 12 from by omega]
  refine leX.trans (Yy ih (Nat.le_refl f) n d i) ?_;rw[e];refine leX.trans (dB hK f (min n 12) d i (by omega)) ?_;rw[show 13*(f+1)+20=(13*f+32)+1 from by omega,Ht];exact Bd (Lt (Pq K _ _ (by omega)) (by omega) _ _ _) fun _ _=>leX.refl _
def Adv {β:Type}(lo N:Nat)(r:RX β):Prop:=∃e,r=some e/\∀x j,e=.ok (x,j)->lo<=j/\j<=N
theorem Adv.err {β:Type}{lo N c p:Nat}:Adv lo N (Dg c p:RX β):=⟨_,rfl,fun _ _ h=>by simp at h⟩
theorem Adv.ok {β:Type}{lo N:Nat}{x:β}{j:Nat}(h:lo<=j)(k:j<=N):Adv lo N (okX x j):=⟨_,rfl,fun _ _ e=>by simp at e;omega⟩
theorem Adv.bind {β γ:Type}{a lo N:Nat}{r:RX β}{k:β->Nat->RX γ}(h:Adv a N r)(hk:∀x j,a<=j->j<=N->Adv lo N (k x j)):Adv lo N (bX r k):=by
 obtain⟨e,rfl,h⟩:=h;rcases e with e|⟨x,j⟩
 ·exact⟨_,rfl,fun _ _ h=>by simp at h⟩
 ·obtain⟨b,c⟩:=h x j rfl;exact hk x j b c
theorem Adv.mono {β:Type}{a b N:Nat}{r:RX β}(h:Adv a N r)(hb:b<=a):Adv b N r:=by
 obtain⟨e,c,h⟩:=h;exact⟨e,c,fun x j q=>⟨Nat.le_trans hb (h x j q).1,(h x j q).2⟩⟩
theorem Adv.ite {β:Type}{lo N:Nat}{c:Prop}[Decidable c]{a b:RX β}(h:c->Adv lo N a)(k:¬c->Adv lo N b):Adv lo N (if c then a else b):=by
 split
 ·exact h ‹_›
 ·exact k ‹_›
def jR:List (List UInt8):=[[109,111,100,117,108,101],[99,111,110,115,116,97,110,116],[97,116,111,109,115],[115,121,109,109,101,116,114,105,99],[118,97,114,105,97,98,108,101],[100,101,102,105,110,101],[105,110,105,116],[97,99,116,105,111,110],[102,97,105,114],[119,101,97,107],[115,116,114,111,110,103],[105,110,118,97,114,105,97,110,116],[112,114,111,112,101,114,116,121],[61,61]]
def Dp:List (List UInt8):=[[58],[105,110],[116,104,101,110],[101,108,115,101],[61],[44],[41],[93],[125],[62,62],[39],[40],[123],[60,60],[91],[46],[58,61]]++jR++Es++Ek++Df++Gh++Cs++Dr++E0.map Prod.fst
structure Bi (K:Nat->Tk)(N:Nat):Prop where
 cl:(K N).cl=0\/(K N).cl=5
 tx:∀m∈Dp,(K N).tx≠m
section
variable {K:Nat->Tk} {N:Nat}
theorem Bi.lt (h:Bi K N){i:Nat}(hi:i<=N){m:List UInt8}(e:((K i).tx==m)=true)(hm:m∈Dp):i<N:=by
 rcases Nat.lt_or_eq_of_le hi with q|q
 ·exact q
 ·subst q;exact absurd (eq_of_beq e) (h.tx m hm)
theorem Bi.lt_in (h:Bi K N){i:Nat}(hi:i<=N){l:List (List UInt8)}(e:l.contains (K i).tx=true)(hm:∀m∈l,m∈Dp):i<N:=by
 rcases Nat.lt_or_eq_of_le hi with q|q
 ·exact q
 ·subst q;exact absurd rfl (h.tx _ (hm _ (List.contains_iff_mem.1 e)))
theorem Bi.lt_cl (h:Bi K N){i:Nat}(hi:i<=N)(e:(K i).cl=1\/(K i).cl=2\/(K i).cl=3):i<N:=by
 rcases Nat.lt_or_eq_of_le hi with q|q
 ·exact q
 ·subst q;have:=h.cl;omega
theorem Dl {γ:Type}(h:Bi K N){m:List UInt8}(hm:m∈Dp){lo i:Nat}(hi:i<=N){k:Nat->RX γ}(hk:i+1<=N->Adv lo N (k (i+1))):Adv lo N (B7 K m i k) :=
 Adv.ite (fun e=>hk (h.lt hi e hm)) fun _=>Adv.err
theorem Fq {γ:Type}{d lo i:Nat}{k:Nat->RX γ}(hk:Adv lo N (k (i+1))):Adv lo N (Dh K d i k):=Adv.ite (fun _=>Adv.err) fun _=>hk
theorem Ei (h:Bi K N){i:Nat}(hi:i<=N):Adv (i+1) N (Au K i) :=
 Adv.ite (fun _=>Adv.err) fun q=>Adv.ite (fun _=>Adv.err) fun _=>Adv.ok (Nat.le_refl _) (h.lt_cl hi (by have:(K i).cl=1:=Classical.byContradiction fun e=>q (.inl e);omega))
theorem H9 {β:Type}(h:Bi K N){cl:List UInt8}(hc:cl∈Dp){item:Nat->RX β}{lo:Nat}(hi:∀i,lo<=i->i<=N->Adv (i+1) N (item i)):∀m acc i,lo<=i->i<=N->N-i<m->Adv (i+1) N (A2 K cl item m acc i)
 | 0,_,_,_,_,q=>absurd q (by omega)
 | m+1,acc,i,h1,h2,q=>(hi i h1 h2).bind fun x j a b=>Adv.ite (fun e=>Adv.ok (by omega) (h.lt b e hc)) fun _ =>
   Dl h (by decide) b fun c=>(H9 h hc hi m _ _ (by omega) c (by omega)).mono (by omega)
theorem Wc {β:Type}(h:Bi K N){cl:List UInt8}(hc:cl∈Dp){item:Nat->RX β}{i m:Nat}(hi:∀j,i<=j->j<=N->Adv (j+1) N (item j))(h2:i<=N)(q:N-i<m):Adv (i+1) N (Lh K cl item m i) :=
 Adv.ite (fun e=>Adv.ok (by omega) (h.lt h2 e hc)) fun _=>H9 h hc hi m _ _ (Nat.le_refl _) h2 q
variable {self:Nat->Nat->Nat->RX PX}
abbrev Dt (N lo:Nat)(self:Nat->Nat->Nat->RX PX):Prop:=∀n d j,lo<=j->j<=N->Adv (j+1) N (self n d j)
theorem dC (h:Bi K N){lo:Nat}(hs:Dt N lo self)(d:Nat){i:Nat}(h1:lo<=i)(h2:i<=N):Adv (i+1) N (Gt K self d i) :=
 (hs 0 d i h1 h2).bind fun _ j a b=>Dl h (by decide) b fun c=>(hs 0 d _ (by omega) c).bind fun _ _ a b=>Adv.ok (by omega) b
theorem Pw (h:Bi K N){lo:Nat}(hs:Dt N lo self)(op:List UInt8)(d:Nat){i:Nat}(h1:lo<=i)(h2:i<=N):Adv (i+1) N (Jy K self op d i) :=
 (Ei h h2).bind fun _ j a b=>Dl h (by decide) b fun c=>(hs 8 d _ (by omega) c).bind fun _ j a b=>Dl h (by decide) b fun c=>(hs 0 d _ (by omega) c).bind fun _ _ a b=>Adv.ok (by omega) b
theorem Wd (h:Bi K N){lo:Nat}(hs:Dt N lo self)(d:Nat){i:Nat}(h1:lo<=i)(h2:i<=N):Adv (i+1) N (I6 K self d i) :=
 (hs 0 d i h1 h2).bind fun _ j a b=>Dl h (by decide) b fun c=>(hs 0 d _ (by omega) c).bind fun _ j a b=>Dl h (by decide) b fun c=>(hs 0 d _ (by omega) c).bind fun _ _ a b=>Adv.ok (by omega) b
theorem Wf (h:Bi K N){lo:Nat}(hs:Dt N lo self)(d:Nat){i:Nat}(h1:lo<=i)(h2:i<=N):Adv (i+1) N (Jz K self d i) :=
 (Ei h h2).bind fun _ j a b=>Dl h (by decide) b fun c=>(hs 0 d _ (by omega) c).bind fun _ j a b=>Dl h (by decide) b fun c=>(hs 0 d _ (by omega) c).bind fun _ _ a b=>Adv.ok (by omega) b
theorem Tv (h:Bi K N){i:Nat}(hs:Dt N (i+1) self)(d:Nat)(h2:i<N):Adv (i+1) N (Dv K self d i) :=
 Fq (Adv.ite (fun _=>(Wd h hs _ (Nat.le_refl _) h2).mono (by omega)) fun _=>Adv.ite (fun _=>(Wf h hs _ (Nat.le_refl _) h2).mono (by omega)) fun _=>(Pw h hs _ _ (Nat.le_refl _) h2).mono (by omega))
theorem Px (h:Bi K N){i:Nat}(hs:Dt N (i+1) self)(r d:Nat)(h2:i<N):Adv (i+1) N (El K self r d i) :=
 Adv.ite (fun _=>(Ei h h2).bind fun _ _ a b=>Adv.ok (by omega) b) fun _=>Fq ((hs _ _ _ (Nat.le_refl _) h2).bind fun _ _ a b=>Adv.ok (by omega) b)
theorem Sy (h:Bi K N){lo:Nat}(hs:Dt N lo self)(n:List UInt8)(d:Nat){m i:Nat}(h1:lo<=i+1)(h2:i<N)(q:N-i<m+1):Adv (i+1) N (Ke K self m n d i) :=
 Fq ((H9 h (by decide) (fun j a b=>hs 0 (d+1) j a b) m _ _ h1 h2 (by omega)).bind fun _ _ a b=>Adv.ok (by omega) b)
theorem Yz (h:Bi K N){i m:Nat}(hs:Dt N (i+1) self)(d:Nat)(h2:i<=N)(q:N-i<m+1):Adv (i+1) N (Hq K self m d i) :=
 (Ei h h2).bind fun _ j a b=>Adv.ite (fun e=>Adv.ok (by omega) (h.lt b e (by decide))) fun _=>Adv.ite (fun e=>(Sy h hs _ d (by omega) (h.lt b e (by decide)) (by omega)).mono (by omega)) fun _=>Adv.ok a b
theorem dD (h:Bi K N){i m:Nat}(hs:Dt N (i+1) self)(d:Nat)(h2:i<N)(q:N-i<m+1):Adv (i+1) N (Ge K self m d i) :=
 Adv.ite (fun _=>Adv.ok (by omega) h2) fun _=>Adv.ite (fun _=>Adv.ite (fun e=>(Sy h hs _ d (by omega) (h.lt h2 e (by decide)) (by omega)).mono (by omega)) fun _=>Adv.err) fun _=>Yz h hs d (by omega) q
theorem gE (h:Bi K N){i m:Nat}(hs:Dt N i self)(d:Nat)(h2:i<=N)(q:N-i<m):Adv (i+1) N (Oz K self m d i) :=
 Adv.ite (fun e=>(Pw h hs _ d (by omega) (h.lt_in h2 e (by decide))).bind fun _ j a b=>Dl h (by decide) b fun c=>Adv.ok (by omega) c) fun _=>(Wc h (by decide) (fun j a b=>hs 0 d j a b) h2 q).bind fun _ _ a b=>Adv.ok a b
theorem Tw (h:Bi K N){i m:Nat}(hs:Dt N (i+1) self)(d:Nat)(h2:i<=N)(q:N-i<m+1):Adv (i+1) N (Cj K self m d i) :=
 Adv.ite (fun e=>Fq ((hs _ _ _ (Nat.le_refl _) (h.lt h2 e (by decide))).bind fun _ j a b=>Dl h (by decide) b fun c=>Adv.ok (by omega) c)) fun _ =>
 Adv.ite (fun e=>have:=h.lt h2 e (by decide);Fq ((gE h hs _ this (by omega)).mono (by omega))) fun _ =>
 Adv.ite (fun e=>have:=h.lt h2 e (by decide);Fq ((Wc h (by decide) (fun j a b=>hs 0 (d+1) j a b) this (by omega)).bind fun _ _ a b=>Adv.ok (by omega) b)) fun _ =>
 Adv.ite (fun e=>have:=h.lt h2 e (by decide);Fq ((H9 h (by decide) (fun j a b=>dC h hs (d+1) a b) m _ _ (Nat.le_refl _) this (by omega)).bind fun _ _ a b=>Adv.ok (by omega) b)) fun _=>Adv.err
theorem Y0 (h:Bi K N){i m:Nat}(hs:Dt N (i+1) self)(d:Nat)(h2:i<=N)(q:N-i<m+1):Adv (i+1) N (Gw K self m d i) :=
 Adv.ite (fun e=>by
  have:=h.lt_cl h2 (.inr (.inl e));split
  ·exact Adv.ok (Nat.le_refl _) this
  ·exact Adv.err) fun _ =>
 Adv.ite (fun e=>Adv.ok (Nat.le_refl _) (h.lt_cl h2 (.inr (.inr e)))) fun _=>Adv.ite (fun e=>dD h hs d (h.lt_cl h2 (.inl e)) q) fun _=>Tw h hs d h2 q
theorem I7 (h:Bi K N){lo:Nat}(hs:Dt N lo self)(M d:Nat):∀m x i,lo<=i->i<=N->N-i<m->Adv i N (Ce K self M d m x i)
 | 0,_,_,_,_,q=>absurd q (by omega)
 | m+1,x,i,h1,h2,q =>
  Adv.ite (fun e=>Fq ((hs _ _ _ (by omega) (h.lt h2 e (by decide))).bind fun _ j a b =>
   Adv.ite (fun e=>(hs _ _ _ (by omega) (h.lt b e (by decide))).bind fun _ j a b=>Dl h (by decide) b fun c=>(I7 h hs M d m _ _ (by omega) c (by omega)).mono (by omega))
    fun _=>Dl h (by decide) b fun c=>(I7 h hs M d m _ _ (by omega) c (by omega)).mono (by omega))) fun _ =>
  Adv.ite (fun e=>(Ei h (h.lt h2 e (by decide))).bind fun _ j a b=>(I7 h hs M d m _ _ (by omega) b (by omega)).mono (by omega)) fun _=>Adv.ok (Nat.le_refl _) h2
theorem Y1 (h:Bi K N){i m:Nat}(hs:Dt N (i+1) self)(d:Nat)(h2:i<=N)(q:N-i<m+1):Adv (i+1) N (Gq K self m d i) :=
 (Y0 h hs d h2 q).bind fun x j a b=>(I7 h hs m d m x j a b (by omega)).mono a
theorem Wg (h:Bi K N){lo:Nat}(hs:Dt N lo self)(n d:Nat)(hn:1<=n):∀m x i,lo<=i->i<=N->N-i<m->Adv i N (I0 K self n d m x i)
 | 0,_,_,_,_,q=>absurd q (by omega)
 | m+1,x,i,h1,h2,q=>by
  rw[I0];refine Adv.ite (fun e=>?_) fun _=>Adv.ok (Nat.le_refl _) h2;have hlt:i<N:=by
   rcases Nat.lt_or_eq_of_le h2 with q|q
   ·exact q
   ·subst q;unfold Ak at e;cases w:E0.lookup (K i).tx with
    | none=>rw[w] at e;simp at e;omega
    | some v =>
     have:(K i).tx∈E0.map Prod.fst:=by
      have:∀l:List (List UInt8×Nat),l.lookup (K i).tx=some v->(K i).tx∈l.map Prod.fst:=by
       intro l
       induction l with
       | nil=>intro w;simp at w
       | cons a l ih =>
        intro w;rw[List.lookup_cons] at w;split at w
        ·rename_i q;rw[eq_of_beq q];simp
        ·simp only[List.map_cons,List.mem_cons];exact .inr (ih w)
      exact this _ w
     exact absurd rfl (h.tx _ (by unfold Dp;exact List.mem_append_right _ this))
  exact(hs _ _ _ (by omega) hlt).bind fun _ j a b=>Adv.ite (fun _=>(Wg h hs n d hn m _ _ (by omega) b (by omega)).mono (by omega)) fun _=>Adv.ok (by omega) b
theorem K6 (h:Bi K N){i m:Nat}(hs:Dt N (i+1) self)(d:Nat)(h2:i<=N)(q:N-i<m+1):∀k,k<=11->Adv (i+1) N (Ij K self m d k i)
 | 0,_=>Adv.ite (fun e=>Px h hs 12 d (h.lt_in h2 e (by decide))) fun _=>Y1 h hs d h2 q
 | k+1,hk=>Adv.ite (fun _=>Adv.ite (fun e=>Px h hs 6 d (h.lt_in h2 e (by decide))) fun _=>K6 h hs d h2 q k (by omega)) fun _ =>
   (K6 h hs d h2 q k (by omega)).bind fun x j a b=>(Wg h hs _ d (by omega) m x j a b (by omega)).mono a
theorem dE (h:Bi K N){i m:Nat}(hs:Dt N (i+1) self)(n d:Nat)(h2:i<=N)(q:N-i<m+1):Adv (i+1) N (Hh K self m n d i) :=
 Adv.ite (fun _=>Adv.ite (fun e=>Tv h hs d (h.lt_in h2 e (by decide))) fun _=>K6 h hs d h2 q 11 (by omega)) fun _=>K6 h hs d h2 q _ (by omega)
end
theorem Wh {K:Nat->Tk}{N:Nat}(h:Bi K N):∀f n d i,i<=N->N-i<f->Adv (i+1) N (Li K f n d i)
 | 0,_,_,_,_,q=>absurd q (by omega)
 | f+1,n,d,i,h2,q=>dE h (self:=Li K f) (fun n d j a b=>Wh h f n d j b (by omega)) n d h2 q
end Go.Proofs.YtjbfcadeapphbaaGreatDoor.Sx
