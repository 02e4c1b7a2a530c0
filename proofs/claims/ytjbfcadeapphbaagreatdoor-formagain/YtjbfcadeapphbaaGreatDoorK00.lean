/- Plain: every text is read to its end, or to a fault. -/
import Derived.Lib.Bytealg
import Derived.Lib.Small
import Derived.Lib.ItoaNum
import Derived.Lib.ParseIntB
namespace Go.Proofs.YtjbfcadeapphbaaGreatDoor.Sx
structure Ip (α:Type) where
 kind:Nat
 int:Int
 text:List UInt8
 keys:List α
 vals:List α
def AV:Nat->Type
 | 0=>Empty
 | n+1=>Ip (AV n)
def Ub {α:Type}:Ip α:=⟨0,0,[],[],[]⟩
def N9 {α:Type}(b:Bool):Ip α:=⟨1,if b then 1 else 0,[],[],[]⟩
def Q9 {α:Type}(n:Int):Ip α:=⟨2,n,[],[],[]⟩
def G7 {α:Type}(l:List UInt8):Ip α:=⟨3,0,l,[],[]⟩
def Oa {α:Type}(l:List UInt8):Ip α:=⟨4,0,l,[],[]⟩
def Jm {α:Type}(es:List α):Ip α:=⟨5,0,[],es,[]⟩
def Wi {α:Type}(ks vs:List α):Ip α:=⟨6,0,[],ks,vs⟩
def Ra (x y:Int):Int:=if x=0 then y else x
def jR {α:Type}(c:α->α->Int):List α->List α->Int
 | [],[]=>0
 | [],_::_=>-1
 | _::_,[]=>1
 | a::as,b::bs=>Ra (c a b) (jR c as bs)
def jS {α:Type}(c:α->α->Int)(a b:List α):Int:=Ra (Lib.compareInt a.length b.length) (jR c a b)
def kT {α:Type}(c:α->α->Int)(a b:Ip α):Int :=
 Ra (Lib.compareInt a.kind b.kind) (Ra (Lib.compareInt a.int b.int) (Ra (Lib.compareBytes a.text b.text) (Ra (jS c a.keys b.keys) (jS c a.vals b.vals))))
def hY:(n:Nat)->AV n->AV n->Int
 | 0,_,_=>0
 | n+1,a,b=>kT (hY n) a b
structure jU {α:Type}(c:α->α->Int):Prop where
 rng:∀a b,c a b=-1\/c a b=0\/c a b=1
 anti:∀a b,c b a=- c a b
 trans:∀a b d,c a b<=0->c b d<=0->c a d<=0
theorem jU.self {α:Type}{c:α->α->Int}(h:jU c)(a:α):c a a=0:=by
 have:=h.anti a a;omega
end Go.Proofs.YtjbfcadeapphbaaGreatDoor.Sx
namespace Go.Proofs.YtjbfcadeapphbaaGreatDoor.Sx
def A8 (c:UInt8):Bool:=(97<=c&&c<=122)||(65<=c&&c<=90)
def Bn (c:UInt8):Bool:=48<=c&&c<=57
def Ba (c:UInt8):Bool:=A8 c||Bn c||c==95
def str (s:String):List UInt8:=s.toUTF8.data.toList
def Iq : List (List UInt8) := ["module", "constant", "atoms", "symmetric", "variable", "define", "init", "action", "fair", "weak", "strong", "invariant", "property", "and", "or", "not", "implies", "iff", "in", "union", "inter", "minus", "subset", "powerset", "flatten", "domain", "unchanged", "enabled", "always", "eventually", "until", "leadsto", "choose", "all", "some", "each", "those", "fun", "if", "then", "else", "let", "nil", "true", "false", "size", "len", "head", "tail", "append", "values", "seqs"].map str
def Bm (l:List UInt8):Bool:=Iq.contains l
def Zu:List UInt8:=[110,105,108]
def Mv:List UInt8:=[116,114,117,101]
def Jp:List UInt8:=[102,97,108,115,101]
structure Wj (l:List UInt8):Prop where
 len:l.length<=16
 head:∃c r,l=c::r/\A8 c=true
 all:∀c∈l,Ba c=true
 free:Bm l=false
def Hq (c:UInt8):Bool:=32<=c&&c<=126&&c != 34&&c != 92
def Uc:(n:Nat)->AV n->Option Int
 | 0,_=>none
 | _+1,a=>if Ip.kind a=2 then some (Ip.int a) else none
def Hr {α:Type}(num:α->Option Int):Nat->List α->Bool
 | _,[]=>true
 | i,a::l=>num a==some (i:Int)&&Hr num (i+1) l
def Ef {α:Type}(num:α->Option Int)(l:List α):Bool:=Hr num 1 l
def wtL {α:Type}(wt:α->Nat)(l:List α):Nat:=(l.map wt).sum
def wtN {α:Type}(wt:α->Nat)(a:Ip α):Nat:=if a.kind=5 then 1+wtL wt a.keys else if a.kind=6 then 1+wtL wt a.keys+wtL wt a.vals else 1
def wt:(n:Nat)->AV n->Nat
 | 0,_=>0
 | n+1,a=>wtN (wt n) a
def jT (cl:List UInt8):List (List UInt8)->List UInt8
 | []=>cl
 | a::l=>44::32::(a++jT cl l)
def jL (cl:List UInt8):List (List UInt8)->List UInt8
 | []=>cl
 | a::l=>a++jT cl l
def jQ:List (List UInt8)->List (List UInt8)->List UInt8
 | k::ks,v::vs=>44::32::(k++58::32::(v++jQ ks vs))
 | _,_=>[93]
def jP:List (List UInt8)->List (List UInt8)->List UInt8
 | k::ks,v::vs=>k++58::32::(v++jQ ks vs)
 | _,_=>[93]
def shN {α:Type}(s:α->List UInt8)(num:α->Option Int)(a:Ip α):List UInt8 :=
 if a.kind=0 then Zu
 else if a.kind=1 then(if a.int=1 then Mv else Jp)
 else if a.kind=2 then Lib.itoa a.int
 else if a.kind=3 then 34::(a.text++[34])
 else if a.kind=4 then a.text
 else if a.kind=5 then 123::jL [125] (a.keys.map s)
 else if Ef num a.keys then 60::60::jL [62,62] (a.vals.map s)
 else 91::jP (a.keys.map s) (a.vals.map s)
def sh:(n:Nat)->AV n->List UInt8
 | 0,_=>[]
 | n+1,a=>shN (sh n) (Uc n) a
def Asc {α:Type}(c:α->α->Int)(l:List α):Prop:=l.Pairwise fun a b=>c a b<0
def wfN {α:Type}(W:α->Prop)(c:α->α->Int)(wt:α->Nat)(a:Ip α):Prop :=
 a=Ub\/(∃b,a=N9 b)\/(∃n,a=Q9 n/\-9223372036854775808<=n/\n<=9223372036854775807) \/
 (∃l,a=G7 l/\∀c∈l,Hq c=true)\/(∃l,a=Oa l/\Wj l) \/
 (∃es,a=Jm es/\(∀x∈es,W x)/\Asc c es/\1+wtL wt es<=1024) \/
 (∃ks vs,a=Wi ks vs/\(∀x∈ks,W x)/\(∀x∈vs,W x)/\Asc c ks/\ks.length=vs.length/\1+wtL wt ks+wtL wt vs<=1024)
def WF:(n:Nat)->AV n->Prop
 | 0,_=>True
 | n+1,a=>wfN (WF n) (hY n) (wt n) a
def isW (c:UInt8):Bool:=Ba c||c==45
def H9 (r:List UInt8):Prop:=∀c l,r=c::l->isW c=false
theorem El {c:UInt8}{l:List UInt8}(h:isW c=false):H9 (c::l):=by
 intro d m e;simp only[List.cons.injEq] at e;rw[<- e.1];exact h
theorem Ob:∀(u v r s:List UInt8),(∀c∈u,isW c=true)->(∀c∈v,isW c=true)->H9 r->H9 s->u++r=v++s->u=v/\r=s
 | [],[],r,s,_,_,_,_,e=>⟨rfl,by simpa using e⟩
 | [],d::v,r,s,_,hv,hr,_,e=>by
  have:=hr d (v++s) (by simpa using e);rw[hv d (by simp)] at this;simp at this
 | c::u,[],r,s,hu,_,_,hs,e=>by
  have:=hs c (u++r) (by simpa using e.symm);rw[hu c (by simp)] at this;simp at this
 | c::u,d::v,r,s,hu,hv,hr,hs,e=>by
  simp only[List.cons_append,List.cons.injEq] at e;obtain⟨e1,e2⟩:=e;obtain⟨h1,h2⟩:=Ob u v r s (fun x hx=>hu x (by simp[hx])) (fun x hx=>hv x (by simp[hx])) hr hs e2;exact⟨by rw[e1,h1],h2⟩
theorem L0 {c:UInt8}(h:Bn c=true):isW c=true:=by simp[isW,Ba,h]
theorem Ud {c:UInt8}(h:Ba c=true):isW c=true:=by simp[isW,h]
theorem Hs (k:Nat)(h:k<10):(UInt8.ofNat (48+k)).toNat=48+k:=by
 simp;omega
theorem Gc (n:Nat):∀c∈Lib.decDigits n,Bn c=true:=by
 induction n using Nat.strongRecOn with
 | ind n ih =>
  intro c a;rw[Lib.decDigits] at a;split at a
  ·rename_i hn
   simp only[List.mem_singleton] at a;subst a;simp[Bn,UInt8.le_iff_toNat_le];omega
  ·simp only[List.mem_append,List.mem_singleton] at a;rcases a with a|a
   ·exact ih (n / 10) (by omega) c a
   ·subst a;simp[Bn,UInt8.le_iff_toNat_le];omega
theorem Gl (n:Nat):Lib.decDigits n≠[]:=by
 rw[Lib.decDigits];split<;>simp
theorem Kn:∀(n m:Nat),Lib.decDigits n=Lib.decDigits m->n=m:=by
 intro n
 induction n using Nat.strongRecOn with
 | ind n ih =>
  intro m h;rw[Lib.decDigits.eq_def n,Lib.decDigits.eq_def m] at h;split at h<;>split at h
  ·rename_i h1 h2
   simp only[List.cons.injEq,and_true] at h;have:=congrArg UInt8.toNat h;rw[Hs n h1,Hs m h2] at this;omega
  ·have:=congrArg List.length h;simp at this;exact absurd this (Gl _)
  ·have:=congrArg List.length h;simp at this;exact absurd this (Gl _)
  ·obtain⟨d,c⟩:=List.append_inj' h (by simp);have a:=ih (n / 10) (by omega) (m / 10) d;simp only[List.cons.injEq,and_true] at c;have b:=congrArg UInt8.toNat c;rw[Hs _ (by omega),Hs _ (by omega)] at b;omega
theorem hZ (n:Int):∀c∈Lib.itoa n,isW c=true:=by
 intro c a;unfold Lib.itoa at a;split at a
 ·rcases List.mem_cons.1 a with a|a
  ·subst a;decide
  ·exact L0 (Gc _ c a)
 ·exact L0 (Gc _ c a)
theorem Lb (c:UInt8)(h:Bn c=true):c≠45/\A8 c=false:=by
 simp[Bn,UInt8.le_iff_toNat_le] at h;refine⟨fun e=>by subst e;simp at h,?_⟩;simp[A8,UInt8.le_iff_toNat_le];omega
theorem Fc (n:Nat):∃c r,Lib.decDigits n=c::r/\Bn c=true:=by
 cases h:Lib.decDigits n with
 | nil=>exact absurd h (Gl n)
 | cons c r=>exact⟨c,r,rfl,Gc n c (by simp[h])⟩
theorem cQ (n m:Int)(h:Lib.itoa n=Lib.itoa m):n=m:=by
 unfold Lib.itoa at h;obtain⟨c,r,e,f⟩:=Fc n.toNat;obtain⟨b,g,d,a⟩:=Fc m.toNat;split at h<;>split at h
 ·simp only[List.cons.injEq,true_and] at h;have:=Kn _ _ h;omega
 ·rw[d] at h;simp only[List.cons.injEq] at h;exact absurd h.1.symm (Lb b a).1
 ·rw[e] at h;simp only[List.cons.injEq] at h;exact absurd h.1 (Lb c f).1
 ·have:=Kn _ _ h;omega
theorem L2 (n:Int):∃c r,Lib.itoa n=c::r/\A8 c=false/\(Bn c=true\/c=45):=by
 unfold Lib.itoa;obtain⟨c,r,e,a⟩:=Fc n.toNat;split
 ·exact⟨45,_,rfl,by decide,.inr rfl⟩
 ·exact⟨c,r,e,(Lb c a).2,.inl a⟩
theorem Yy:Bm Zu=true:=by decide +kernel
theorem cR:Bm Mv=true:=by decide +kernel
theorem Zv:Bm Jp=true:=by decide +kernel
section
variable {α:Type} (s:α->List UInt8) (num:α->Option Int)
theorem cS:shN s num Ub=Zu:=rfl
theorem Sf (b:Bool):shN s num (N9 b)=if b then Mv else Jp:=by cases b<;>rfl
theorem cT (n:Int):shN s num (Q9 n)=Lib.itoa n:=rfl
theorem fF (l:List UInt8):shN s num (G7 l)=34::(l++[34]):=rfl
theorem Yz (l:List UInt8):shN s num (Oa l)=l:=rfl
theorem cU (es:List α):shN s num (Jm es)=123::jL [125] (es.map s):=rfl
theorem Wk (ks vs:List α)(h:Ef num ks=true):shN s num (Wi ks vs)=60::60::jL [62,62] (vs.map s):=by
 show(if Ef num ks=true then _ else _)=_;rw[if_pos h];rfl
theorem cV (ks vs:List α)(h:¬Ef num ks=true):shN s num (Wi ks vs)=91::jP (ks.map s) (vs.map s):=by
 show(if Ef num ks=true then _ else _)=_;rw[if_neg h];rfl
def kd (a:Ip α):Nat :=
 if a.kind=3 then 1 else if a.kind=5 then 2 else if a.kind=6 then(if Ef num a.keys then 3 else 4) else 0
theorem Ja (ks vs:List α)(h:Ef num ks=true):kd num (Wi ks vs)=3:=by
 show(if Ef num ks=true then 3 else 4)=3;rw[if_pos h]
theorem Lc (ks vs:List α)(h:¬Ef num ks=true):kd num (Wi ks vs)=4:=by
 show(if Ef num ks=true then 3 else 4)=4;rw[if_neg h]
def first (k:Nat)(c:UInt8):Bool :=
 if k=0 then isW c else if k=1 then c==34 else if k=2 then c==123 else if k=3 then c==60 else if k=4 then c==91 else false
variable (W:α->Prop) (c:α->α->Int) (wta:α->Nat)
theorem Oc {a:Ip α}(hw:wfN W c wta a)(hk:kd num a=0):∀c∈shN s num a,isW c=true:=by
 rcases hw with rfl|⟨b,rfl⟩|⟨n,rfl,_⟩|⟨l,rfl,_⟩|⟨l,rfl,h⟩|⟨f,rfl,_⟩|⟨d,e,rfl,_⟩
 ·rw[cS];decide
 ·rw[Sf];cases b<;>decide
 ·rw[cT];exact hZ n
 ·exact absurd hk (by simp[kd,G7])
 ·rw[Yz];exact fun c hc=>Ud (h.all c hc)
 ·exact absurd hk (by simp[kd,Jm])
 ·by_cases q:Ef num d=true
  ·rw[Ja num d e q] at hk;simp at hk
  ·rw[Lc num d e q] at hk;simp at hk
theorem cW {a b:Ip α}(ha:wfN W c wta a)(hb:wfN W c wta b)(ka:kd num a=0)(kb:kd num b=0)(h:shN s num a=shN s num b):a=b:=by
 have z:∀{l:List UInt8} {n:Int},Wj l->l=Lib.itoa n->False:=by
  intro l n g e;obtain⟨c,r,D,x⟩:=g.head;obtain⟨C,H,p,d,_⟩:=L2 n;rw[D,p] at e;simp only[List.cons.injEq] at e;rw[e.1,d] at x;simp at x
 have k:∀{l:List UInt8} {n:Int},A8 (l.headD 0)=true->l=Lib.itoa n->False:=by
  intro l n g e;obtain⟨C,H,p,d,_⟩:=L2 n;rw[e,p] at g;simp[d] at g
 have m:∀{l r:List UInt8},Wj l->Bm r=true->l=r->False:=by
  intro l r g y e;rw[<- e,g.free] at y;simp at y
 have A:∀f i,kd num (Wi f i)=0->False:=by
  intro f i j;by_cases q:Ef num f=true
  ·rw[Ja num f i q] at j;simp at j
  ·rw[Lc num f i q] at j;simp at j
 have B:A8 (Zu.headD 0)=true:=by decide
 have o:∀b:Bool,A8 ((if b then Mv else Jp).headD 0)=true/\Bm (if b then Mv else Jp)=true:=by
  intro b;cases b
  ·exact⟨by decide,Zv⟩
  ·exact⟨by decide,cR⟩
 rcases ha with rfl|⟨v,rfl⟩|⟨I,rfl,_⟩|⟨F,rfl,_⟩|⟨F,rfl,t⟩|⟨E,rfl,_⟩|⟨f,i,rfl,_⟩
 all_goals first|(exact absurd ka (A _ _))|(exfalso;simp[kd,G7,Jm] at ka;done)|skip
 all_goals rcases hb with rfl|⟨w,rfl⟩|⟨J,rfl,_⟩|⟨G,rfl,_⟩|⟨G,rfl,u⟩|⟨E,rfl,_⟩|⟨f,i,rfl,_⟩
 all_goals first|(exact absurd kb (A _ _))|(exfalso;simp[kd,G7,Jm] at kb;done)|skip
 all_goals simp only[cS,Sf,cT,Yz] at h
 all_goals first
  | rfl
  | (cases w<;>simp[Zu,Mv,Jp] at h;done)
  | (cases v<;>simp[Zu,Mv,Jp] at h;done)
  | (cases v<;>cases w<;>first | rfl | (simp[Mv,Jp] at h;done))
  | (exact absurd h (fun e=>k (o _).1 e))
  | (exact absurd h.symm (fun e=>k (o _).1 e))
  | (exact absurd h (fun e=>k B e))
  | (exact absurd h.symm (fun e=>k B e))
  | (exact absurd h.symm (fun e=>m u Yy e))
  | (exact absurd h (fun e=>m t Yy e))
  | (exact absurd h.symm (fun e=>m u (o _).2 e))
  | (exact absurd h (fun e=>m t (o _).2 e))
  | (exact absurd h (fun e=>z t e))
  | (exact absurd h.symm (fun e=>z u e))
  | (rw[cQ _ _ h])
  | (rw[h])
theorem Sg {a:Ip α}(hw:wfN W c wta a):∃d r,shN s num a=d::r/\first (kd num a) d=true:=by
 rcases hw with rfl|⟨b,rfl⟩|⟨n,rfl,_⟩|⟨l,rfl,_⟩|⟨l,rfl,h⟩|⟨i,rfl,_⟩|⟨f,g,rfl,_⟩
 ·exact⟨110,_,rfl,(by decide:isW 110=true)⟩
 ·rw[Sf];cases b
  ·exact⟨102,_,rfl,(by decide:isW 102=true)⟩
  ·exact⟨116,_,rfl,(by decide:isW 116=true)⟩
 ·obtain⟨d,r,e,_,h⟩:=L2 n;refine⟨d,r,e,?_⟩;rcases h with h|h
  ·exact L0 h
  ·subst h;exact(by decide:isW 45=true)
 ·exact⟨34,l++[34],rfl,rfl⟩
 ·obtain⟨d,r,e,j⟩:=h.head;exact⟨d,r,e,Ud (h.all d (by simp[e]))⟩
 ·exact⟨123,_,cU s num i,rfl⟩
 ·by_cases q:Ef num f=true
  ·exact⟨60,_,Wk s num f g q,by rw[Ja num f g q];rfl⟩
  ·exact⟨91,_,cV s num f g q,by rw[Lc num f g q];rfl⟩
theorem Zw {j k:Nat}{c:UInt8}(h:first j c=true)(h':first k c=true):j=k:=by
 have a:isW c=true->c≠34/\c≠123/\c≠60/\c≠91:=by
  intro f;refine⟨?_,?_,?_,?_⟩<;>(intro e;subst e;exact absurd f (by decide))
 have d:∀i,first i c=true->i=0/\isW c=true\/i=1/\c=34\/i=2/\c=123\/i=3/\c=60\/i=4/\c=91:=by
  intro i b;unfold first at b
  repeat' split at b
  all_goals first|(simp at b;done)|simp_all
 rcases d j h with⟨rfl,x⟩|⟨rfl,x⟩|⟨rfl,x⟩|⟨rfl,x⟩|⟨rfl,x⟩ <;>
 rcases d k h' with⟨rfl,y⟩|⟨rfl,y⟩|⟨rfl,y⟩|⟨rfl,y⟩|⟨rfl,y⟩ <;>
 first|rfl|(exact absurd y (a x).1)|(exact absurd y (a x).2.1)|(exact absurd y (a x).2.2.1)|(exact absurd y (a x).2.2.2)|(exact absurd x (a y).1)|(exact absurd x (a y).2.1)|(exact absurd x (a y).2.2.1)|(exact absurd x (a y).2.2.2)|(rw[x] at y;simp at y)
theorem iA {a b:Ip α}(ha:wfN W c wta a)(hb:wfN W c wta b){r t:List UInt8}(h:shN s num a++r=shN s num b++t):kd num a=kd num b:=by
 obtain⟨x,u,e,d⟩:=Sg s num W c wta ha;obtain⟨y,v,f,g⟩:=Sg s num W c wta hb;rw[e,f] at h;simp only[List.cons_append,List.cons.injEq] at h;rw[h.1] at d;exact Zw d g
theorem Ld:∀(u v r s:List UInt8),(∀c∈u,Hq c=true)->(∀c∈v,Hq c=true)->u++34::r=v++34::s->u=v/\r=s
 | [],[],r,s,_,_,e=>⟨rfl,by simpa using e⟩
 | [],d::v,r,s,_,hv,e=>by
  simp only[List.nil_append,List.cons_append,List.cons.injEq] at e;have:=hv d (by simp);rw[<- e.1] at this;exact absurd this (by decide)
 | c::u,[],r,s,hu,_,e=>by
  simp only[List.nil_append,List.cons_append,List.cons.injEq] at e;have:=hu c (by simp);rw[e.1] at this;exact absurd this (by decide)
 | c::u,d::v,r,s,hu,hv,e=>by
  simp only[List.cons_append,List.cons.injEq] at e;obtain⟨h1,h2⟩:=Ld u v r s (fun x hx=>hu x (by simp[hx])) (fun x hx=>hv x (by simp[hx])) e.2;exact⟨by rw[e.1,h1],h2⟩
structure Wl (s:α->List UInt8)(W:α->Prop):Prop where
 can:∀a b r t,W a->W b->H9 r->H9 t->s a++r=s b++t->a=b/\r=t
 head:∀a,W a->∃d r k,s a=d::r/\first k d=true
theorem Y0 {s:α->List UInt8}{W:α->Prop}(H:Wl s W){a:α}(ha:W a){c:UInt8}{r t:List UInt8}(hc:∀k,first k c=false):s a++r≠c::t:=by
 obtain⟨d,u,k,e,b⟩:=H.head a ha;rw[e];intro h;simp only[List.cons_append,List.cons.injEq] at h;rw[h.1,hc] at b;simp at b
structure Clo (cl:List UInt8):Prop where
 ex:∃c r,cl=c::r/\(∀k,first k c=false)/\c≠44
theorem Clo.delim {cl:List UInt8}(h:Clo cl)(r:List UInt8):H9 (cl++r):=by
 obtain⟨c,u,rfl,a,_⟩:=h.ex;exact El (a 0)
theorem Rb {c:UInt8}(h:isW c=false/\c≠34/\c≠123/\c≠60/\c≠91)(k:Nat):first k c=false:=by
 unfold first;repeat' split
 all_goals simp[h]
theorem Zx:Clo [125]:=⟨125,[],rfl,Rb (by decide),by decide⟩
theorem Zy:Clo [62,62]:=⟨62,[62],rfl,Rb (by decide),by decide⟩
theorem Le {cl:List UInt8}(h:Clo cl)(l:List (List UInt8))(r:List UInt8):H9 (jT cl l++r):=by
 cases l with
 | nil=>exact h.delim r
 | cons a l=>exact El (by decide)
theorem cX {s:α->List UInt8}{W:α->Prop}(H:Wl s W){cl:List UInt8}(hcl:Clo cl):∀(l m:List α)(r t:List UInt8),(∀x∈l,W x)->(∀x∈m,W x)->H9 r->H9 t->jT cl (l.map s)++r=jT cl (m.map s)++t->l=m/\r=t
 | [],[],r,s,_,_,_,_,e=>⟨rfl,by simpa [jT] using e⟩
 | [],b::m,r,s,_,_,_,_,e=>by
  obtain⟨c,u,rfl,_,h2⟩:=hcl.ex;simp only[List.map,jT,List.cons_append,List.cons.injEq] at e;exact absurd e.1 h2
 | a::l,[],r,s,_,_,_,_,e=>by
  obtain⟨c,u,rfl,_,h2⟩:=hcl.ex;simp only[List.map,jT,List.cons_append,List.cons.injEq] at e;exact absurd e.1.symm h2
 | a::l,b::m,r,t,hl,hm,hr,hs,e=>by
  simp only[List.map,jT,List.cons_append,List.cons.injEq,true_and,List.append_assoc] at e;obtain⟨h1,h2⟩:=H.can a b _ _ (hl a (by simp)) (hm b (by simp)) (Le hcl _ r) (Le hcl _ t) e;obtain⟨h3,h4⟩:=cX H hcl l m r t (fun x hx=>hl x (by simp[hx])) (fun x hx=>hm x (by simp[hx])) hr hs h2;exact⟨by rw[h1,h3],h4⟩
theorem cY {s:α->List UInt8}{W:α->Prop}(H:Wl s W){cl:List UInt8}(hcl:Clo cl)(l m:List α)(r t:List UInt8)(hl:∀x∈l,W x)(hm:∀x∈m,W x)(hr:H9 r)(hs:H9 t)(e:jL cl (l.map s)++r=jL cl (m.map s)++t):l=m/\r=t:=by
 obtain⟨c,u,f,d,_⟩:=hcl.ex;cases l with
 | nil =>
  cases m with
  | nil=>exact⟨rfl,by simpa [jL] using e⟩
  | cons b m =>
   simp only[List.map,jL,f,List.cons_append,List.append_assoc] at e;exact absurd e.symm (Y0 H (hm b (by simp)) d)
 | cons a l =>
  cases m with
  | nil =>
   simp only[List.map,jL,f,List.cons_append,List.append_assoc] at e;exact absurd e (Y0 H (hl a (by simp)) d)
  | cons b m =>
   simp only[List.map,jL,List.append_assoc] at e;obtain⟨d,g⟩:=H.can a b _ _ (hl a (by simp)) (hm b (by simp)) (Le hcl _ r) (Le hcl _ t) e;obtain⟨h,i⟩:=cX H hcl l m r t (fun x hx=>hl x (by simp[hx])) (fun x hx=>hm x (by simp[hx])) hr hs g;exact⟨by rw[d,h],i⟩
theorem iB (v:List (List UInt8)):jQ [] v=[93]:=by cases v<;>rfl
theorem fG (k:List (List UInt8)):jQ k []=[93]:=by cases k<;>rfl
theorem Lf (k v:List (List UInt8))(r:List UInt8):H9 (jQ k v++r):=by
 cases k with
 | nil=>rw[iB];exact El (by decide)
 | cons a k =>
  cases v with
  | nil=>rw[fG];exact El (by decide)
  | cons b v=>exact El (by decide)
theorem cZ {s:α->List UInt8}{W:α->Prop}(H:Wl s W):∀(k v k' v':List α)(r t:List UInt8),(∀x∈k,W x)->(∀x∈v,W x)->(∀x∈k',W x)->(∀x∈v',W x)->k.length=v.length->k'.length=v'.length->H9 r->H9 t ->
  jQ (k.map s) (v.map s)++r=jQ (k'.map s) (v'.map s)++t->k=k'/\v=v'/\r=t
 | [],v,k',v',r,s,_,_,_,_,hl,hl',_,_,e=>by
  have hv:v=[]:=List.length_eq_zero_iff.1 (by simpa using hl.symm);subst hv;cases k' with
  | nil =>
   have hv':v'=[]:=List.length_eq_zero_iff.1 (by simpa using hl'.symm);subst hv';exact⟨rfl,rfl,by simpa [jQ] using e⟩
  | cons a k' =>
   cases v' with
   | nil=>simp at hl'
   | cons b v'=>simp[jQ] at e
 | a::k,[],k',v',r,s,_,_,_,_,hl,_,_,_,e=>by simp at hl
 | a::k,b::v,[],v',r,s,_,_,_,_,_,hl',_,_,e=>by simp[jQ] at e
 | a::k,b::v,c::k',[],r,s,_,_,_,_,_,hl',_,_,e=>by simp at hl'
 | a::k,b::v,c::k',d::v',r,t,hk,hv,wk,wv,hl,hl',hr,hs,e=>by
  simp only[List.map,jQ,List.cons_append,List.cons.injEq,true_and,List.append_assoc] at e;obtain⟨h1,h2⟩:=H.can a c _ _ (hk a (by simp)) (wk c (by simp)) (El (by decide)) (El (by decide)) e;simp only[List.cons.injEq,true_and] at h2;obtain⟨h3,h4⟩:=H.can b d _ _ (hv b (by simp)) (wv d (by simp)) (Lf _ _ r) (Lf _ _ t) h2;obtain⟨h5,h6,h7⟩:=cZ H k v k' v' r t (fun x hx=>hk x (by simp[hx])) (fun x hx=>hv x (by simp[hx])) (fun x hx=>wk x (by simp[hx])) (fun x hx=>wv x (by simp[hx])) (by simpa using hl) (by simpa using hl') hr hs h4;exact⟨by rw[h1,h5],by rw[h3,h6],h7⟩
theorem Rc {num:α->Option Int}{W:α->Prop}(hn:∀a b n,W a->W b->num a=some n->num b=some n->a=b):∀(i:Nat)(k l:List α),(∀x∈k,W x)->(∀x∈l,W x)->Hr num i k=true->Hr num i l=true->k.length=l.length->k=l
 | _,[],[],_,_,_,_,_=>rfl
 | _,[],_::_,_,_,_,_,h=>by simp at h
 | _,_::_,[],_,_,_,_,h=>by simp at h
 | i,a::k,b::l,wk,wl,ha,hb,h=>by
  simp only[Hr,Bool.and_eq_true,beq_iff_eq] at ha hb;rw[hn a b i (wk a (by simp)) (wl b (by simp)) ha.1 hb.1,Rc hn (i+1) k l (fun x hx=>wk x (by simp[hx])) (fun x hx=>wl x (by simp[hx])) ha.2 hb.2 (by simpa using h)]
theorem Zz {s:α->List UInt8}{num:α->Option Int}{W:α->Prop}(H:Wl s W)(hn:∀a b n,W a->W b->num a=some n->num b=some n->a=b)(c:α->α->Int)(wta:α->Nat):Wl (shN s num) (wfN W c wta):=by
 constructor
 ·intro a b r t w y z A e;have j:=iA s num W c wta w y e;by_cases I:kd num a=0
  ·have l:kd num b=0:=by omega
   obtain⟨g,i⟩:=Ob _ _ r t (Oc s num W c wta w I) (Oc s num W c wta y l) z A e;exact⟨cW s num W c wta w y I l g,i⟩
  ·have l:¬kd num b=0:=by omega
   have O:∀x:Ip α,x.kind≠3->x.kind≠5->x.kind≠6->kd num x=0:=by
    intro x C D E;simp[kd,C,D,E]
   rcases w with rfl|⟨U,rfl⟩|⟨X,rfl,_⟩|⟨M,rfl,F⟩|⟨M,rfl,_⟩|⟨P,rfl,T,_⟩|⟨ks,vs,rfl,K,L,_,m,_⟩
   all_goals first|(exfalso;refine I (O _ ?_ ?_ ?_)<;>(simp[Ub,N9,Q9,Oa];done))|skip
   all_goals rcases y with rfl|⟨V,rfl⟩|⟨Y,rfl,_⟩|⟨N,rfl,G⟩|⟨N,rfl,_⟩|⟨B,rfl,J,_⟩|⟨ks',vs',rfl,p,u,_,f,_⟩
   all_goals first|(exfalso;refine l (O _ ?_ ?_ ?_)<;>(simp[Ub,N9,Q9,Oa];done))|skip
   ·simp only[fF,List.cons_append,List.cons.injEq,true_and,List.append_assoc,List.nil_append] at e;obtain⟨g,i⟩:=Ld M N r t F G e;exact⟨by rw[g],i⟩
   ·exact absurd j (by simp[kd,G7,Jm])
   ·exact absurd j (by
     by_cases q:Ef num ks'=true
     ·rw[Ja num ks' vs' q];simp[kd,G7]
     ·rw[Lc num ks' vs' q];simp[kd,G7])
   ·exact absurd j (by simp[kd,G7,Jm])
   ·simp only[cU,List.cons_append,List.cons.injEq,true_and] at e;obtain⟨g,i⟩:=cY H Zx P B r t T J z A e;exact⟨by rw[g],i⟩
   ·exact absurd j (by
     by_cases q:Ef num ks'=true
     ·rw[Ja num ks' vs' q];simp[kd,Jm]
     ·rw[Lc num ks' vs' q];simp[kd,Jm])
   ·exact absurd j (by
     by_cases q:Ef num ks=true
     ·rw[Ja num ks vs q];simp[kd,G7]
     ·rw[Lc num ks vs q];simp[kd,G7])
   ·exact absurd j (by
     by_cases q:Ef num ks=true
     ·rw[Ja num ks vs q];simp[kd,Jm]
     ·rw[Lc num ks vs q];simp[kd,Jm])
   ·by_cases q:Ef num ks=true
    ·by_cases o:Ef num ks'=true
     ·simp only[Wk _ _ _ _ q,Wk _ _ _ _ o,List.cons_append,List.cons.injEq,true_and] at e;obtain⟨g,i⟩:=cY H Zy vs vs' r t L u z A e;have S:ks.length=ks'.length:=by rw[m,f,g]
      rw[Rc hn 1 ks ks' K p q o S,g];exact⟨rfl,i⟩
     ·rw[Ja num ks vs q,Lc num ks' vs' o] at j;simp at j
    ·by_cases o:Ef num ks'=true
     ·rw[Lc num ks vs q,Ja num ks' vs' o] at j;simp at j
     ·simp only[cV _ _ _ _ q,cV _ _ _ _ o,List.cons_append,List.cons.injEq,true_and] at e;cases ks with
      | nil=>exact absurd rfl q
      | cons k ks =>
       cases ks' with
       | nil=>exact absurd rfl o
       | cons k' ks' =>
        cases vs with
        | nil=>simp at m
        | cons v vs =>
         cases vs' with
         | nil=>simp at f
         | cons v' vs' =>
          simp only[List.map,jP,List.append_assoc,List.cons_append] at e;obtain⟨g,i⟩:=H.can k k' _ _ (K k (by simp)) (p k' (by simp)) (El (by decide)) (El (by decide)) e;simp only[List.cons.injEq,true_and] at i;obtain⟨C,Q⟩:=H.can v v' _ _ (L v (by simp)) (u v' (by simp)) (Lf _ _ r) (Lf _ _ t) i;obtain⟨D,E,R⟩:=cZ H ks vs ks' vs' r t (fun x hx=>K x (by simp[hx])) (fun x hx=>L x (by simp[hx])) (fun x hx=>p x (by simp[hx])) (fun x hx=>u x (by simp[hx])) (by simpa using m) (by simpa using f) z A Q;exact⟨by rw[g,C,D,E],R⟩
 ·intro a w;obtain⟨d,r,e,h⟩:=Sg s num W c wta w;exact⟨d,r,_,e,h⟩
end
theorem fH:∀(n:Nat)(a b:AV n)(i:Int),WF n a->WF n b->Uc n a=some i->Uc n b=some i->a=b
 | 0,a,_,_,_,_,_,_=>Empty.elim a
 | n+1,a,b,i,ha,hb,ea,eb=>by
  have one:∀x:AV (n+1),WF (n+1) x->Uc (n+1) x=some i->x=(Q9 i:Ip (AV n)):=by
   intro x d c;simp only[Uc] at c;split at c
   ·rename_i hk
    rcases d with rfl|⟨b,rfl⟩|⟨m,rfl,_⟩|⟨l,rfl,_⟩|⟨l,rfl,_⟩|⟨e,rfl,_⟩|⟨f,g,rfl,_⟩
    ·exact absurd hk (by simp[Ub])
    ·exact absurd hk (by simp[N9])
    ·simp only[Q9,Option.some.injEq] at c;rw[c]
    ·exact absurd hk (by simp[G7])
    ·exact absurd hk (by simp[Oa])
    ·exact absurd hk (by simp[Jm])
    ·exact absurd hk (by simp[Wi])
   ·simp at c
  rw[one a ha ea,one b hb eb]
theorem part:∀n,Wl (sh n) (WF n)
 | 0=>⟨fun a=>Empty.elim a,fun a=>Empty.elim a⟩
 | n+1=>Zz (part n) (fH n) (hY n) (wt n)
end Go.Proofs.YtjbfcadeapphbaaGreatDoor.Sx
namespace Go.Proofs.YtjbfcadeapphbaaGreatDoor.Sx
structure Tk where
 cl:Nat
 tx:List UInt8
 at':Nat
structure PX where
 rk:Nat
 tx:List UInt8
 key:Option (List UInt8)
def wIf:List UInt8:=[105,102]
def Qj:List UInt8:=[108,101,116]
def Ks:List UInt8:=[45]
def C8:List UInt8:=[101,110,97,98,108,101,100]
def Cd:List UInt8:=[117,110,99,104,97,110,103,101,100]
def Dm:List (List UInt8):=[[105,102],[108,101,116],[97,108,108],[115,111,109,101],[99,104,111,111,115,101],[102,117,110]]
def De:List (List UInt8):=[[110,111,116],[97,108,119,97,121,115],[101,118,101,110,116,117,97,108,108,121],[101,110,97,98,108,101,100]]
def Cf:List (List UInt8):=[[45],[100,111,109,97,105,110],[112,111,119,101,114,115,101,116],[102,108,97,116,116,101,110],[117,110,99,104,97,110,103,101,100]]
def Gv:List (List UInt8):=[[110,105,108],[116,114,117,101],[102,97,108,115,101]]
def Cz:List (List UInt8):=[[115,105,122,101],[108,101,110],[104,101,97,100],[116,97,105,108],[97,112,112,101,110,100],[118,97,108,117,101,115],[115,101,113,115]]
def Cp:List (List UInt8):=[[101,97,99,104],[116,104,111,115,101]]
def Bd (p:List UInt8):Nat:=if Dm.contains p then 0 else if De.contains p then 6 else if Cf.contains p then 12 else 14
def Eu:List (List UInt8×Nat):=[([108,101,97,100,115,116,111],1),([117,110,116,105,108],1),([105,102,102],2),([105,109,112,108,105,101,115],3),([111,114],4),([97,110,100],5),
 ([61],7),([47,61],7),([60],7),([60,61],7),([62],7),([62,61],7),([105,110],7),([115,117,98,115,101,116],7),([45,62],8),([46,46],9),
 ([43],10),([45],10),([117,110,105,111,110],10),([109,105,110,117,115],10),([43,43],10),([42],11),([47],11),([37],11),([105,110,116,101,114],11)]
def Ae (p:List UInt8):Nat:=(Eu.lookup p).getD 0
def Y1 (n:Nat):Bool:=n==2||n==4||n==5||n==10||n==11
def Bh (n:Nat):Nat:=if Y1 n then n else n+1
def Bg (n:Nat):Nat:=if n=3 then 3 else n+1
def A9 (x:PX)(least:Nat):List UInt8:=if x.rk<least then 40::(x.tx++[41]) else x.tx
def Bq (sep:Nat->List UInt8):Nat->List (List UInt8)->List UInt8
 | _,[]=>[]
 | i,a::l=>sep i++a++Bq sep (i+1) l
def Cm (i:Nat):List UInt8:=if i=0 then[] else[44,32]
def C5 (i:Nat):List UInt8:=if i % 2=1 then[58,32] else if i=0 then[] else[44,32]
def C0 (l:List PX):List UInt8:=Bq Cm 0 (l.map PX.tx)
def Fq (l:List UInt8):Bool:=(match l with | []=>false|c::_=>A8 c)&&decide (l.length<=16)&&l.all Ba&&!Bm l
def Ct (t:List UInt8):PX:=⟨14,t,none⟩
def Ee (n:List UInt8):PX:=⟨14,34::(n++[34]),if Fq n then some n else none⟩
def Ed (n:List UInt8)(l:List PX):PX:=⟨14,n++40::(C0 l++[41]),none⟩
def Kt (l:List PX):PX:=⟨14,123::(C0 l++[125]),none⟩
def Jq (l:List PX):PX:=⟨14,60::60::(C0 l++[62,62]),none⟩
def Kl (l:List PX):PX:=⟨14,91::(Bq C5 0 (l.map PX.tx)++[93]),none⟩
def Gm (r:Nat)(op n:List UInt8):PX:=⟨r,op++32::n,none⟩
def Em (r:Nat)(op:List UInt8)(x:PX):PX:=⟨r,if op=Ks then 45::A9 x r else op++32::A9 x r,none⟩
def dIf (a b c:PX):PX:=⟨0,[105,102,32]++a.tx++[32,116,104,101,110,32]++b.tx++[32,101,108,115,101,32]++c.tx,none⟩
def L7 (n:List UInt8)(a b:PX):PX:=⟨0,[108,101,116,32]++n++[32,61,32]++a.tx++[32,58,32]++b.tx,none⟩
def En (op n:List UInt8)(a b:PX):List UInt8:=op++[32]++n++[32,105,110,32]++A9 a 8++[32,58,32]++b.tx
def Ds (op n:List UInt8)(a b:PX):PX:=if Cp.contains op then⟨14,123::(En op n a b++[125]),none⟩ else⟨0,En op n a b,none⟩
def I0 (op:List UInt8)(a b:PX):PX:=⟨Ae op,A9 a (Bh (Ae op))++[32]++op++[32]++A9 b (Bg (Ae op)),none⟩
def dAt (f k:PX):PX:=⟨13,A9 f 13++(match k.key with|some n=>46::n|none=>91::(k.tx++[93])),none⟩
def Ht (f k v:PX):PX:=⟨13,A9 f 13++91::(k.tx++[32,58,61,32]++v.tx++[93]),none⟩
abbrev RX (β:Type):=Option (Except (Nat×Nat) (β×Nat))
def bX {β γ:Type}(r:RX β)(k:β->Nat->RX γ):RX γ :=
 match r with
 | none=>none
 | some (.error e)=>some (.error e)
 | some (.ok (x,i))=>k x i
def okX {β:Type}(x:β)(i:Nat):RX β:=some (.ok (x,i))
def Ck {β:Type}(c p:Nat):RX β:=some (.error (c,p))
section
variable (K:Nat->Tk)
def Bv {γ:Type}(m:List UInt8)(i:Nat)(k:Nat->RX γ):RX γ:=if (K i).tx==m then k (i+1) else Ck 1 (K i).at'
def Bw {γ:Type}(d i:Nat)(k:Nat->RX γ):RX γ:=if d=24 then Ck 6 (K i).at' else k (i+1)
def Bo (i:Nat):RX (List UInt8) :=
 if (K i).cl≠1\/Bm (K i).tx=true then Ck 1 (K i).at' else if 16<(K i).tx.length then Ck 5 (K i).at' else okX (K i).tx (i+1)
def Bj {β:Type}(closing:List UInt8)(item:Nat->RX β):Nat->List β->Nat->RX (List β)
 | 0,_,_=>none
 | m+1,acc,i=>bX (item i) fun x j=>if (K j).tx==closing then okX (acc++[x]) (j+1) else Bv K [44] j fun j=>Bj closing item m (acc++[x]) j
def Km {β:Type}(closing:List UInt8)(item:Nat->RX β)(m i:Nat):RX (List β) :=
 if (K i).tx==closing then okX [] (i+1) else Bj K closing item m [] i
variable (self:Nat->Nat->Nat->RX PX)
def Gn (d i:Nat):RX (PX×PX):=bX (self 0 d i) fun a j=>Bv K [58] j fun j=>bX (self 0 d j) fun b j=>okX (a,b) j
def Fd (op:List UInt8)(d i:Nat):RX PX :=
 bX (Bo K i) fun n j=>Bv K [105,110] j fun j=>bX (self 8 d j) fun a j=>Bv K [58] j fun j=>bX (self 0 d j) fun b j=>okX (Ds op n a b) j
def Fs (d i:Nat):RX PX :=
 bX (self 0 d i) fun a j=>Bv K [116,104,101,110] j fun j=>bX (self 0 d j) fun b j=>Bv K [101,108,115,101] j fun j=>bX (self 0 d j) fun c j=>okX (dIf a b c) j
def Ft (d i:Nat):RX PX :=
 bX (Bo K i) fun n j=>Bv K [61] j fun j=>bX (self 0 d j) fun a j=>Bv K [58] j fun j=>bX (self 0 d j) fun b j=>okX (L7 n a b) j
def Cn (d i:Nat):RX PX :=
 Bw K d i fun j=>if (K i).tx==wIf then Fs K self (d+1) j else if (K i).tx==Qj then Ft K self (d+1) j else Fd K self (K i).tx (d+1) j
def Dn (r d i:Nat):RX PX :=
 if (K i).tx==C8||(K i).tx==Cd then bX (Bo K (i+1)) fun n j=>okX (Gm r (K i).tx n) j
 else Bw K d i fun j=>bX (self r (d+1) j) fun x j=>okX (Em r (K i).tx x) j
def G0 (m:Nat)(n:List UInt8)(d i:Nat):RX PX :=
 Bw K d i fun j=>bX (Bj K [41] (self 0 (d+1)) m [] j) fun l j=>okX (Ed n l) j
def Fe (m d i:Nat):RX PX :=
 bX (Bo K i) fun n j=>if (K j).tx==[39] then okX (Ct (n++[39])) (j+1) else if (K j).tx==[40] then G0 K self m n d j else okX (Ct n) j
def Gp (m d i:Nat):RX PX :=
 if Gv.contains (K i).tx then okX (Ct (K i).tx) (i+1)
 else if Cz.contains (K i).tx then(if (K (i+1)).tx==[40] then G0 K self m (K i).tx d (i+1) else Ck 1 (K (i+1)).at')
 else Fe K self m d i
def Jr (m d i:Nat):RX PX :=
 if Cp.contains (K i).tx then bX (Fd K self (K i).tx d (i+1)) fun x j=>Bv K [125] j fun j=>okX x j
 else bX (Km K [125] (self 0 d) m i) fun l j=>okX (Kt l) j
def Bp (m d i:Nat):RX PX :=
 if (K i).tx==[40] then Bw K d i fun j=>bX (self 0 (d+1) j) fun x j=>Bv K [41] j fun j=>okX x j
 else if (K i).tx==[123] then Bw K d i fun j=>Jr K self m (d+1) j
 else if (K i).tx==[60,60] then Bw K d i fun j=>bX (Km K [62,62] (self 0 (d+1)) m j) fun l j=>okX (Jq l) j
 else if (K i).tx==[91] then Bw K d i fun j=>bX (Bj K [93] (Gn K self (d+1)) m [] j) fun l j=>okX (Kl (l.flatMap fun p=>[p.1,p.2])) j
 else Ck 1 (K i).at'
def C7 (m d i:Nat):RX PX :=
 if (K i).cl=2 then(match Lib.parseIntB 64 (K i).tx with | .ok v=>okX (Ct (Lib.itoa v)) (i+1)|_=>Ck 5 (K i).at')
 else if (K i).cl=3 then okX (Ee (((K i).tx.take ((K i).tx.length-1)).drop 1)) (i+1)
 else if (K i).cl=1 then Gp K self m d i
 else Bp K self m d i
def Bs (M d:Nat):Nat->PX->Nat->RX PX
 | 0,_,_=>none
 | m+1,x,i =>
  if (K i).tx==[91] then Bw K d i fun j=>bX (self 0 (d+1) j) fun k j =>
   if (K j).tx==[58,61] then bX (self 0 (d+1) (j+1)) fun v j=>Bv K [93] j fun j=>Bs M d m (Ht x k v) j
   else Bv K [93] j fun j=>Bs M d m (dAt x k) j
  else if (K i).tx==[46] then bX (Bo K (i+1)) fun n j=>Bs M d m (dAt x (Ee n)) j
  else okX x i
def Eo (m d i:Nat):RX PX:=bX (C7 K self m d i) fun x j=>Bs K self m d m x j
def Bb (rank d:Nat):Nat->Nat->PX->Nat->RX (PX×Nat)
 | 0,_,_,_=>none
 | m+1,held,x,i =>
  if Ae (K i).tx=0\/Ae (K i).tx<rank\/held<Bh (Ae (K i).tx) then okX (x,held) i
  else bX (self (Bg (Ae (K i).tx)) d (i+1)) fun y j=>Bb rank d m (Ae (K i).tx) (I0 (K i).tx x y) j
def Ep (m held d i:Nat):RX PX:=if held=0 then Cn K self d i else if held=6\/held=12 then Dn K self held d i else Eo K self m d i
def Fa (m rank d i:Nat):RX (PX×Nat) :=
 if Bd (K i).tx<rank then Ck 1 (K i).at'
 else bX (Ep K self m (Bd (K i).tx) d i) fun x j=>Bb K self rank d m (Bd (K i).tx) x j
def Od (n d:Nat):Nat->PX->Nat->RX PX
 | 0,_,_=>none
 | m+1,x,i =>
  if Ae (K i).tx=n then bX (self (Bg n) d (i+1)) fun y j=>if Y1 n then Od n d m (I0 (K i).tx x y) j else okX (I0 (K i).tx x y) j
  else okX x i
def Ko (m d:Nat):Nat->Nat->RX PX
 | 0,i=>if Cf.contains (K i).tx then Dn K self 12 d i else Eo K self m d i
 | k+1,i =>
  if k=5 then(if De.contains (K i).tx then Dn K self 6 d i else Ko m d k i)
  else bX (Ko m d k i) fun x j=>Od K self (11-k) d m x j
def Lg (m n d i:Nat):RX PX :=
 if n=0 then(if Dm.contains (K i).tx then Cn K self d i else Ko K self m d 11 i) else Ko K self m d (12-n) i
end
def A3 (K:Nat->Tk):Nat->Nat->Nat->Nat->RX PX
 | 0,_,_,_=>none
 | f+1,n,d,i=>bX (Fa K (A3 K f) f (min n 12) d i) fun x j=>okX x.1 j
def Z6 (K:Nat->Tk):Nat->Nat->Nat->Nat->RX PX
 | 0,_,_,_=>none
 | f+1,n,d,i=>Lg K (Z6 K f) f n d i
def leX {β:Type}(a b:RX β):Prop:=a=none\/a=b
theorem leX.refl {β:Type}(a:RX β):leX a a:=.inr rfl
theorem leX.none {β:Type}(a:RX β):leX Option.none a:=.inl rfl
theorem leX.trans {β:Type}{a b c:RX β}(h:leX a b)(k:leX b c):leX a c:=by
 rcases h with h|h
 ·exact .inl h
 ·subst h;exact k
theorem leX.some {β:Type}{a b:RX β}(h:leX a b){r:Except (Nat×Nat) (β×Nat)}(e:a=Option.some r):b=Option.some r:=by
 rcases h with h|h
 ·rw[h] at e;simp at e
 ·rw[<- h,e]
theorem Ay {β γ:Type}{r r':RX β}{k k':β->Nat->RX γ}(h:leX r r')(hk:∀x i,leX (k x i) (k' x i)):leX (bX r k) (bX r' k'):=by
 rcases h with h|h
 ·rw[h];exact .inl rfl
 ·subst h;rcases r with _|(e|⟨x,i⟩)
  ·exact .inl rfl
  ·exact .inr rfl
  ·exact hk x i
theorem Az {β:Type}{c:Prop}[Decidable c]{a a' b b':RX β}(h:leX a a')(k:leX b b'):leX (if c then a else b) (if c then a' else b'):=by
 split
 ·exact h
 ·exact k
theorem Cu {γ:Type}{K:Nat->Tk}{m:List UInt8}{i:Nat}{k k':Nat->RX γ}(h:∀j,leX (k j) (k' j)):leX (Bv K m i k) (Bv K m i k'):=Az (h _) (leX.refl _)
theorem Ej {γ:Type}{K:Nat->Tk}{d i:Nat}{k k':Nat->RX γ}(h:∀j,leX (k j) (k' j)):leX (Bw K d i k) (Bw K d i k'):=Az (leX.refl _) (h _)
theorem Ff {β:Type}{K:Nat->Tk}{cl:List UInt8}{item item':Nat->RX β}(h:∀i,leX (item i) (item' i)):∀m m',m<=m'->∀acc i,leX (Bj K cl item m acc i) (Bj K cl item' m' acc i)
 | 0,_,_,_,_=>leX.none _
 | m+1,0,hm,_,_=>absurd hm (by omega)
 | m+1,m'+1,hm,acc,i=>Ay (h i) fun x j=>Az (leX.refl _) (Cu fun j=>Ff h m m' (by omega) _ _)
theorem Rd {β:Type}{K:Nat->Tk}{cl:List UInt8}{item item':Nat->RX β}(h:∀i,leX (item i) (item' i)){m m':Nat}(hm:m<=m')(i:Nat):leX (Km K cl item m i) (Km K cl item' m' i) :=
 Az (leX.refl _) (Ff h m m' hm _ _)
abbrev LeS (self self':Nat->Nat->Nat->RX PX):Prop:=∀n d i,leX (self n d i) (self' n d i)
section
variable {K:Nat->Tk} {self self':Nat->Nat->Nat->RX PX}
theorem Oe (hs:LeS self self')(d i:Nat):leX (Gn K self d i) (Gn K self' d i) :=
 Ay (hs _ _ _) fun _ _=>Cu fun _=>Ay (hs _ _ _) fun _ _=>leX.refl _
theorem Mw (hs:LeS self self')(op:List UInt8)(d i:Nat):leX (Fd K self op d i) (Fd K self' op d i) :=
 Ay (leX.refl _) fun _ _=>Cu fun _=>Ay (hs _ _ _) fun _ _=>Cu fun _=>Ay (hs _ _ _) fun _ _=>leX.refl _
theorem Sh (hs:LeS self self')(d i:Nat):leX (Fs K self d i) (Fs K self' d i) :=
 Ay (hs _ _ _) fun _ _=>Cu fun _=>Ay (hs _ _ _) fun _ _=>Cu fun _=>Ay (hs _ _ _) fun _ _=>leX.refl _
theorem Si (hs:LeS self self')(d i:Nat):leX (Ft K self d i) (Ft K self' d i) :=
 Ay (leX.refl _) fun _ _=>Cu fun _=>Ay (hs _ _ _) fun _ _=>Cu fun _=>Ay (hs _ _ _) fun _ _=>leX.refl _
theorem Ir (hs:LeS self self')(d i:Nat):leX (Cn K self d i) (Cn K self' d i) :=
 Ej fun _=>Az (Sh hs _ _) (Az (Si hs _ _) (Mw hs _ _ _))
theorem Ia (hs:LeS self self')(r d i:Nat):leX (Dn K self r d i) (Dn K self' r d i) :=
 Az (leX.refl _) (Ej fun _=>Ay (hs _ _ _) fun _ _=>leX.refl _)
theorem Og (hs:LeS self self'){m m':Nat}(hm:m<=m')(n:List UInt8)(d i:Nat):leX (G0 K self m n d i) (G0 K self' m' n d i) :=
 Ej fun _=>Ay (Ff (fun i=>hs _ _ i) m m' hm _ _) fun _ _=>leX.refl _
theorem Ue (hs:LeS self self'){m m':Nat}(hm:m<=m')(d i:Nat):leX (Fe K self m d i) (Fe K self' m' d i) :=
 Ay (leX.refl _) fun _ _=>Az (leX.refl _) (Az (Og hs hm _ _ _) (leX.refl _))
theorem Wm (hs:LeS self self'){m m':Nat}(hm:m<=m')(d i:Nat):leX (Gp K self m d i) (Gp K self' m' d i) :=
 Az (leX.refl _) (Az (Az (Og hs hm _ _ _) (leX.refl _)) (Ue hs hm _ _))
theorem Z7 (hs:LeS self self'){m m':Nat}(hm:m<=m')(d i:Nat):leX (Jr K self m d i) (Jr K self' m' d i) :=
 Az (Ay (Mw hs _ _ _) fun _ _=>leX.refl _) (Ay (Rd (fun i=>hs _ _ i) hm _) fun _ _=>leX.refl _)
theorem Qk (hs:LeS self self'){m m':Nat}(hm:m<=m')(d i:Nat):leX (Bp K self m d i) (Bp K self' m' d i) :=
 Az (Ej fun _=>Ay (hs _ _ _) fun _ _=>leX.refl _) (Az (Ej fun _=>Z7 hs hm _ _)
  (Az (Ej fun _=>Ay (Rd (fun i=>hs _ _ i) hm _) fun _ _=>leX.refl _)
   (Az (Ej fun _=>Ay (Ff (fun i=>Oe hs _ i) m m' hm _ _) fun _ _=>leX.refl _) (leX.refl _))))
theorem Mx (hs:LeS self self'){m m':Nat}(hm:m<=m')(d i:Nat):leX (C7 K self m d i) (C7 K self' m' d i) :=
 Az (leX.refl _) (Az (leX.refl _) (Az (Wm hs hm _ _) (Qk hs hm _ _)))
theorem Dt (hs:LeS self self')(M M' d:Nat):∀m m',m<=m'->∀x i,leX (Bs K self M d m x i) (Bs K self' M' d m' x i)
 | 0,_,_,_,_=>leX.none _
 | m+1,0,hm,_,_=>absurd hm (by omega)
 | m+1,m'+1,hm,x,i =>
  Az (Ej fun _=>Ay (hs _ _ _) fun _ _=>Az (Ay (hs _ _ _) fun _ _=>Cu fun _=>Dt hs M M' d m m' (by omega) _ _) (Cu fun _=>Dt hs M M' d m m' (by omega) _ _))
   (Az (Ay (leX.refl _) fun _ _=>Dt hs M M' d m m' (by omega) _ _) (leX.refl _))
theorem Ib (hs:LeS self self'){m m':Nat}(hm:m<=m')(d i:Nat):leX (Eo K self m d i) (Eo K self' m' d i) :=
 Ay (Mx hs hm _ _) fun _ _=>Dt hs _ _ _ m m' hm _ _
theorem Fg (hs:LeS self self')(rank d:Nat):∀m m',m<=m'->∀h x i,leX (Bb K self rank d m h x i) (Bb K self' rank d m' h x i)
 | 0,_,_,_,_,_=>leX.none _
 | m+1,0,hm,_,_,_=>absurd hm (by omega)
 | m+1,m'+1,hm,h,x,i=>Az (leX.refl _) (Ay (hs _ _ _) fun _ _=>Fg hs rank d m m' (by omega) _ _ _)
theorem Hc (hs:LeS self self'){m m':Nat}(hm:m<=m')(held d i:Nat):leX (Ep K self m held d i) (Ep K self' m' held d i) :=
 Az (Ir hs _ _) (Az (Ia hs _ _ _) (Ib hs hm _ _))
theorem Ku (hs:LeS self self'){m m':Nat}(hm:m<=m')(rank d i:Nat):leX (Fa K self m rank d i) (Fa K self' m' rank d i) :=
 Az (leX.refl _) (Ay (Hc hs hm _ _ _) fun _ _=>Fg hs _ _ m m' hm _ _ _)
theorem Rf (hs:LeS self self')(n d:Nat):∀m m',m<=m'->∀x i,leX (Od K self n d m x i) (Od K self' n d m' x i)
 | 0,_,_,_,_=>leX.none _
 | m+1,0,hm,_,_=>absurd hm (by omega)
 | m+1,m'+1,hm,x,i=>Az (Ay (hs _ _ _) fun _ _=>Az (Rf hs n d m m' (by omega) _ _) (leX.refl _)) (leX.refl _)
theorem Jb (hs:LeS self self'){m m':Nat}(hm:m<=m')(d:Nat):∀k i,leX (Ko K self m d k i) (Ko K self' m' d k i)
 | 0,_=>Az (Ia hs _ _ _) (Ib hs hm _ _)
 | k+1,i=>Az (Az (Ia hs _ _ _) (Jb hs hm d k i)) (Ay (Jb hs hm d k i) fun _ _=>Rf hs _ _ m m' hm _ _)
theorem Wn (hs:LeS self self'){m m':Nat}(hm:m<=m')(n d i:Nat):leX (Lg K self m n d i) (Lg K self' m' n d i) :=
 Az (Az (Ir hs _ _) (Jb hs hm _ _ _)) (Jb hs hm _ _ _)
end
theorem Gw (K:Nat->Tk):∀f f',f<=f'->∀n d i,leX (A3 K f n d i) (A3 K f' n d i)
 | 0,_,_,_,_,_=>leX.none _
 | f+1,0,h,_,_,_=>absurd h (by omega)
 | f+1,f'+1,h,n,d,i=>Ay (Ku (Gw K f f' (by omega)) (by omega) _ _ _) fun _ _=>leX.refl _
structure Wo (t:Tk):Prop where
 word:∀c r,t.tx=c::r->A8 c=true->t.cl=1
 sort:t.cl=0\/t.cl=1\/t.cl=2\/t.cl=3\/t.cl=4\/t.cl=5
 none:t.cl=0->t.tx=[]
 odd:t.cl=2\/t.cl=3\/t.cl=5->∀c r,t.tx=c::r->Bn c=true\/c=95\/c=34
 two:t.cl=3->2<=t.tx.length
theorem Oi {p:List UInt8}{v:Nat}:∀(l:List (List UInt8×Nat)),l.lookup p=some v->v∈l.map Prod.snd
 | [],h=>by simp at h
 | (a,b)::l,h=>by
  rw[List.lookup_cons] at h;split at h
  ·simp only[Option.some.injEq] at h;simp[h]
  ·have:=Oi l h;simp only[List.map_cons,List.mem_cons];exact .inr this
theorem Gg (p:List UInt8):Ae p=0\/Ae p=1\/Ae p=2\/Ae p=3\/Ae p=4\/Ae p=5\/Ae p=7\/Ae p=8\/Ae p=9\/Ae p=10\/Ae p=11:=by
 unfold Ae;cases h:Eu.lookup p with
 | none=>exact .inl rfl
 | some v =>
  have:=Oi _ h;simp only[Eu,List.map_cons,List.map_nil,List.mem_cons,List.not_mem_nil,or_false] at this;simp only[Option.getD_some];omega
theorem Js (n:Nat):n<=Bh n/\Bh n<=n+1:=by unfold Bh;split<;>omega
theorem Y2 {p:List UInt8}(h:Dm.contains p=true):Bd p=0:=by unfold Bd;rw[if_pos h]
theorem Y7 {p:List UInt8}(h:De.contains p=true):Bd p=6:=by
 have:Dm.contains p=false:=by
  simp only[De,List.contains_cons,List.contains_nil,Bool.or_false,Bool.or_eq_true,beq_iff_eq] at h;rcases h with rfl|rfl|rfl|rfl<;>rfl
 unfold Bd;rw[this,h];rfl
theorem Oj {p:List UInt8}(h:Cf.contains p=true):Bd p=12:=by
 have a:Dm.contains p=false/\De.contains p=false:=by
  simp only[Cf,List.contains_cons,List.contains_nil,Bool.or_false,Bool.or_eq_true,beq_iff_eq] at h;rcases h with rfl|rfl|rfl|rfl|rfl<;>exact⟨rfl,rfl⟩
 unfold Bd;rw[a.1,a.2,h];rfl
theorem Lh (p:List UInt8):(Bd p=0/\Dm.contains p=true)\/(Bd p=6/\De.contains p=true)\/(Bd p=12/\Cf.contains p=true)\/(Bd p=14/\Dm.contains p=false/\De.contains p=false/\Cf.contains p=false):=by
 cases b:Dm.contains p with
 | true=>exact .inl ⟨Y2 b,rfl⟩
 | false =>
  cases c:De.contains p with
  | true=>exact .inr (.inl ⟨Y7 c,rfl⟩)
  | false =>
   cases a:Cf.contains p with
   | true=>exact .inr (.inr (.inl ⟨Oj a,rfl⟩))
   | false=>exact .inr (.inr (.inr ⟨by unfold Bd;rw[b,c,a];rfl,rfl,rfl,rfl⟩))
theorem Ol {K:Nat->Tk}{self:Nat->Nat->Nat->RX PX}{m d i:Nat}(hK:Wo (K i))(h:Dm.contains (K i).tx=true\/De.contains (K i).tx=true):Eo K self m d i=Ck 1 (K i).at':=by
 have a:(K i).cl=1/\Gv.contains (K i).tx=false/\Cz.contains (K i).tx=false/\Bm (K i).tx=true:=by
  simp only[Dm,De,List.contains_cons,List.contains_nil,Bool.or_false,Bool.or_eq_true,beq_iff_eq] at h;rcases h with(h|h|h|h|h|h)|(h|h|h|h)
  all_goals
   refine⟨hK.word _ _ h rfl,?_⟩;rw[h];exact⟨rfl,rfl,by decide⟩
 have b:Bo K i=Ck 1 (K i).at':=by unfold Bo;rw[if_pos (.inr a.2.2.2)]
 unfold Eo C7 Gp Fe;rw[if_neg (by omega),if_neg (by omega),if_pos a.1,if_neg (by rw[a.2.1];simp),if_neg (by rw[a.2.2.1];simp),b];rfl
theorem Cl {β γ δ:Type}(r:RX β)(k:β->Nat->RX γ)(l:γ->Nat->RX δ):bX (bX r k) l=bX r fun x i=>bX (k x i) l:=by
 rcases r with _|(e|⟨x,i⟩)<;>rfl
theorem jV {β γ:Type}(x:β)(i:Nat)(k:β->Nat->RX γ):bX (okX x i) k=k x i:=rfl
section
variable {K:Nat->Tk} {self:Nat->Nat->Nat->RX PX}
theorem Mz (n d m2:Nat):∀m held x i,leX (bX (Bb K self (n+1) d m held x i) fun y j=>Bb K self n d m2 y.2 y.1 j) (Bb K self n d (m+m2) held x i)
 | 0,_,_,_=>leX.none _
 | m+1,held,x,i=>by
  rw[Bb];by_cases h:Ae (K i).tx=0\/Ae (K i).tx<n+1\/held<Bh (Ae (K i).tx)
  ·rw[if_pos h,jV];exact Fg (fun _ _ _=>leX.refl _) n d m2 (m+1+m2) (by omega) _ _ _
  ·rw[if_neg h,show m+1+m2=(m+m2)+1 from by omega,Bb,if_neg (by omega),Cl];exact Ay (leX.refl _) fun y j=>Mz n d m2 m _ _ _
theorem Om (n d:Nat):∀m held x i y h' j,Bb K self n d m held x i=some (.ok ((y,h'),j))->n<=held->n<=h'/\(Ae (K j).tx=0\/Ae (K j).tx<n\/h'<Bh (Ae (K j).tx))
 | 0,_,_,_,_,_,_,e,_=>by simp[Bb] at e
 | m+1,held,x,i,y,h',j,e,hn=>by
  rw[Bb] at e;by_cases h:Ae (K i).tx=0\/Ae (K i).tx<n\/held<Bh (Ae (K i).tx)
  ·rw[if_pos h] at e;simp only[okX,Option.some.injEq,Except.ok.injEq,Prod.mk.injEq] at e;obtain⟨⟨-,rfl⟩,rfl⟩:=e;exact⟨hn,h⟩
  ·rw[if_neg h] at e;cases q:self (Bg (Ae (K i).tx)) d (i+1) with
   | none=>rw[q] at e;simp[bX] at e
   | some r =>
    rw[q] at e;rcases r with e' | ⟨z,k⟩
    ·simp[bX] at e
    ·exact Om n d m _ _ _ y h' j e (by omega)
theorem Hu {n d m held:Nat}{x:PX}{i:Nat}(h:Ae (K i).tx=0\/Ae (K i).tx<n\/held<Bh (Ae (K i).tx)):Bb K self n d (m+1) held x i=okX (x,held) i:=by rw[Bb,if_pos h]
theorem Uf (n d:Nat)(hn:1<=n)(hl:Y1 n=true):∀m y j,leX (Od K self n d m y j) (bX (Bb K self n d m n y j) fun z j=>okX z.1 j)
 | 0,_,_=>leX.none _
 | m+1,y,j=>by
  rw[Od,Bb];have hlf:Bh n=n:=by unfold Bh;rw[hl];rfl
  by_cases h:Ae (K j).tx=n
  ·rw[if_pos h,if_neg (by rw[h,hlf];omega),Cl,h];exact Ay (leX.refl _) fun z k=>by rw[hl];exact Uf n d hn hl m _ _
  ·have:=(Js (Ae (K j).tx)).1;rw[if_neg h,if_pos (by omega)];exact leX.refl _
theorem Z9 (n d:Nat)(hn:1<=n)(m:Nat)(y:PX)(h' j:Nat)(hh:n+1<=h')(hs:Ae (K j).tx=0\/Ae (K j).tx<n+1\/h'<Bh (Ae (K j).tx)) :
  leX (Od K self n d m y j) (bX (Bb K self n d (m+1) h' y j) fun z j=>okX z.1 j):=by
 cases m with
 | zero=>exact leX.none _
 | succ m =>
  rw[Od,Bb];have c:=Js n;by_cases h:Ae (K j).tx=n
  ·rw[if_pos h,if_neg (by rw[h];omega),Cl,h];refine Ay (leX.refl _) fun z k=>?_;cases a:Y1 n with
   | true=>exact(Uf n d hn a m _ _).trans (Ay (Fg (fun _ _ _=>leX.refl _) n d m (m+1) (by omega) _ _ _) fun _ _=>leX.refl _)
   | false =>
    have b:Bh n=n+1:=by unfold Bh;rw[a];rfl
    have e:=Js (Ae (K k).tx);rw[if_neg (by simp),Hu (by
     by_cases q:Ae (K k).tx=n
     ·rw[q,b];omega
     ·omega)]
    exact leX.refl _
  ·rw[if_neg h,if_pos (by omega)];exact leX.refl _
theorem Oo {a b:Nat}(h:∀p,(Ae p=0\/Ae p<a)↔(Ae p=0\/Ae p<b))(d:Nat):∀m held x i,Bb K self a d m held x i=Bb K self b d m held x i
 | 0,_,_,_=>rfl
 | m+1,held,x,i=>by
  rw[Bb,Bb];have:=h (K i).tx;by_cases q:Ae (K i).tx=0\/Ae (K i).tx<a\/held<Bh (Ae (K i).tx)
  ·rw[if_pos q,if_pos (by omega)]
  ·rw[if_neg q,if_neg (by omega)]
   congr 1;funext y j;exact Oo h d m _ _ _
theorem L8 (hK:∀i,Wo (K i))(m d:Nat):∀k,k<=11->∀i,leX (Ko K self m d k i) (bX (Fa K self ((k+1)*(m+1)) (12-k) d i) fun x j=>okX x.1 j)
 | 0,_,i=>by
  rw[Ko];unfold Fa;rcases Lh (K i).tx with⟨e,h⟩|⟨e,h⟩|⟨e,h⟩|⟨e,h0,h6,h⟩
  ·rw[e,if_pos (show 0<12-0 by omega)];have:Cf.contains (K i).tx=false:=by
    cases q:Cf.contains (K i).tx with
    | false=>rfl
    | true=>have:=Oj q;omega
   rw[this,Ol (hK i) (.inl h)];exact leX.refl _
  ·rw[e,if_pos (show 6<12-0 by omega)];have:Cf.contains (K i).tx=false:=by
    cases q:Cf.contains (K i).tx with
    | false=>rfl
    | true=>have:=Oj q;omega
   rw[this,Ol (hK i) (.inr h)];exact leX.refl _
  ·rw[h,e,if_neg (show ¬12<12-0 by omega),if_pos rfl,Cl];have c:Ep K self ((0+1)*(m+1)) 12 d i=Dn K self 12 d i:=rfl;rw[c];rcases hq:Dn K self 12 d i with _|(q|⟨x,j⟩)
   ·exact leX.none _
   ·exact leX.refl _
   ·show leX _ (bX (Bb _ _ _ _ _ _ _ _) _);rw[show(0+1)*(m+1)=m+1 from by omega,Hu (by have:=Gg (K j).tx;omega)];exact leX.refl _
  ·rw[h,e,if_neg (show ¬14<12-0 by omega),Cl];have c:Ep K self ((0+1)*(m+1)) 14 d i=Eo K self (m+1) d i:=by rw[show(0+1)*(m+1)=m+1 from by omega];rfl
   rw[c];refine leX.trans (Ib (fun _ _ _=>leX.refl _) (Nat.le_succ m) _ _) ?_;rcases hq:Eo K self (m+1) d i with _|(q|⟨x,j⟩)
   ·exact leX.none _
   ·exact leX.refl _
   ·show leX _ (bX (Bb _ _ _ _ _ _ _ _) _);rw[show(0+1)*(m+1)=m+1 from by omega,Hu (by have:=Gg (K j).tx;omega)];exact leX.refl _
 | k+1,hk,i=>by
  have g:=L8 hK m d k (by omega) i;have r:(k+1+1)*(m+1)=(k+1)*(m+1)+(m+1):=by rw[Nat.add_mul (k+1) 1 (m+1),Nat.one_mul]
  rw[Ko];by_cases o:k=5
  ·subst o;rw[if_pos rfl];unfold Fa;unfold Fa at g;cases h6:De.contains (K i).tx with
   | true =>
    have e:=Y7 h6;rw[e,if_pos rfl,if_neg (show ¬6<12-(5+1) by omega),Cl];have c:∀M,Ep K self M 6 d i=Dn K self 6 d i:=fun _=>rfl;rw[c];rcases hq:Dn K self 6 d i with _|(q|⟨x,j⟩)
    ·exact leX.none _
    ·exact leX.refl _
    ·show leX _ (bX (Bb _ _ _ _ _ _ _ _) _);rw[show(5+1+1)*(m+1)=(6*(m+1)+m)+1 from by omega,Hu (by have:=Gg (K j).tx;have:=Js (Ae (K j).tx);omega)];exact leX.refl _
   | false =>
    have e:=Lh (K i).tx;rw[h6] at e;refine leX.trans g ?_;by_cases q:Bd (K i).tx<12-5
    ·rw[if_pos q,if_pos (by simp at e;omega)];exact leX.refl _
    ·rw[if_neg q,if_neg (by omega),Cl,Cl];refine Ay (Hc (fun _ _ _=>leX.refl _) (by omega) _ _ _) fun x j=>?_;rw[Oo (a:=12-(5+1)) (b:=12-5) (fun p=>by have:=Gg p;omega)];exact Ay (Fg (fun _ _ _=>leX.refl _) _ _ _ _ (by omega) _ _ _) fun _ _=>leX.refl _
  ·rw[if_neg o];refine leX.trans (Ay g fun _ _=>leX.refl _) ?_;unfold Fa;have e:=Lh (K i).tx;by_cases q:Bd (K i).tx<12-k
   ·rw[if_pos q,if_pos (by omega)];exact leX.refl _
   ·rw[if_neg q,if_neg (by omega),Cl,Cl,Cl];refine Ay (Hc (fun _ _ _=>leX.refl _) (by omega) _ _ _) fun x j=>?_;rw[r,show 12-k=(12-(k+1))+1 from by omega];have f:=Om (K:=K) (self:=self) (12-(k+1)+1) d ((k+1)*(m+1)) (Bd (K i).tx) x j;refine leX.trans ?_ (Ay (Mz (12-(k+1)) d (m+1) ((k+1)*(m+1)) _ _ _) fun _ _=>leX.refl _);rw[Cl];rcases hq:Bb K self (12-(k+1)+1) d ((k+1)*(m+1)) (Bd (K i).tx) x j with _|(u|⟨⟨y,n⟩,l⟩)
    ·exact leX.none _
    ·exact leX.refl _
    ·obtain⟨s,t⟩:=f y n l hq (by omega);show leX (Od _ _ _ _ _ _ _) (bX (Bb _ _ _ _ _ _ _ _) _);rw[show 11-k=12-(k+1) from by omega];exact Z9 _ d (by omega) m y n l s t
theorem aA (hK:∀i,Wo (K i))(m n d i:Nat)(hn:n<=12):leX (Lg K self m n d i) (bX (Fa K self (12*(m+1)) n d i) fun x j=>okX x.1 j):=by
 unfold Lg;by_cases h:n=0
 ·subst h;rw[if_pos rfl];cases c:Dm.contains (K i).tx with
  | true =>
   unfold Fa;rw[Y2 c,if_pos rfl,if_neg (show ¬0<0 by omega),Cl];have f:∀M,Ep K self M 0 d i=Cn K self d i:=fun _=>rfl;rw[f];rcases hq:Cn K self d i with _|(q|⟨x,j⟩)
   ·exact leX.none _
   ·exact leX.refl _
   ·show leX _ (bX (Bb _ _ _ _ _ _ _ _) _);rw[show 12*(m+1)=(12*m+11)+1 from by omega,Hu (by have:=Gg (K j).tx;have:=Js (Ae (K j).tx);omega)];exact leX.refl _
  | false =>
   refine leX.trans (L8 hK m d 11 (by omega) i) ?_;have e:=Lh (K i).tx;rw[c] at e;unfold Fa;rw[if_neg (by simp at e;omega),if_neg (by omega),Cl,Cl];refine Ay (Hc (fun _ _ _=>leX.refl _) (by omega) _ _ _) fun x j=>?_;rw[Oo (a:=0) (b:=12-11) (fun p=>by have:=Gg p;omega)];exact leX.refl _
 ·rw[if_neg h];refine leX.trans (L8 hK m d (12-n) (by omega) i) ?_;rw[show 12-(12-n)=n from by omega];exact Ay (Ku (fun _ _ _=>leX.refl _) (Nat.mul_le_mul_right _ (by omega)) _ _ _) fun _ _=>leX.refl _
end
theorem Op {K:Nat->Tk}(hK:∀i,Wo (K i)):∀f n d i,leX (Z6 K f n d i) (A3 K (13*f+20) n d i)
 | 0,_,_,_=>leX.none _
 | f+1,n,d,i=>by
  have ih:=Op hK f;have e:Lg K (A3 K (13*f+20)) f n d i=Lg K (A3 K (13*f+20)) f (min n 12) d i:=by
   by_cases h:n<=12
   ·rw[Nat.min_eq_left h]
   ·unfold Lg;rw[if_neg (by omega),if_neg (by omega),show 12-n=12-min n 12 from by omega]
  refine leX.trans (Wn ih (Nat.le_refl f) n d i) ?_;rw[e];refine leX.trans (aA hK f (min n 12) d i (by omega)) ?_;rw[show 13*(f+1)+20=(13*f+32)+1 from by omega,A3];exact Ay (Ku (Gw K _ _ (by omega)) (by omega) _ _ _) fun _ _=>leX.refl _
def Adv {β:Type}(lo N:Nat)(r:RX β):Prop:=∃e,r=some e/\∀x j,e=.ok (x,j)->lo<=j/\j<=N
theorem Adv.err {β:Type}{lo N c p:Nat}:Adv lo N (Ck c p:RX β):=⟨_,rfl,fun _ _ h=>by simp at h⟩
theorem Adv.ok {β:Type}{lo N:Nat}{x:β}{j:Nat}(h:lo<=j)(k:j<=N):Adv lo N (okX x j):=⟨_,rfl,fun _ _ e=>by simp at e;omega⟩
theorem Adv.bind {β γ:Type}{a lo N:Nat}{r:RX β}{k:β->Nat->RX γ}(h:Adv a N r)(hk:∀x j,a<=j->j<=N->Adv lo N (k x j)):Adv lo N (bX r k):=by
 obtain⟨e,rfl,h⟩:=h;rcases e with e|⟨x,j⟩
 ·exact⟨_,rfl,fun _ _ h=>by simp at h⟩
 ·obtain⟨b,c⟩:=h x j rfl;exact hk x j b c
theorem Adv.mono {β:Type}{a b N:Nat}{r:RX β}(h:Adv a N r)(hb:b<=a):Adv b N r:=by
 obtain⟨e,c,h⟩:=h;exact⟨e,c,fun x j q=>⟨Nat.le_trans hb (h x j q).1,(h x j q).2⟩⟩
theorem Adv.ite {β:Type}{lo N:Nat}{c:Prop}[Decidable c]{a b:RX β}(h:c->Adv lo N a)(k:¬c->Adv lo N b):Adv lo N (if c then a else b):=by
 split
 ·exact h ‹_›
 ·exact k ‹_›
def fI:List (List UInt8):=[[109,111,100,117,108,101],[99,111,110,115,116,97,110,116],[97,116,111,109,115],[115,121,109,109,101,116,114,105,99],[118,97,114,105,97,98,108,101],[100,101,102,105,110,101],[105,110,105,116],[97,99,116,105,111,110],[102,97,105,114],[119,101,97,107],[115,116,114,111,110,103],[105,110,118,97,114,105,97,110,116],[112,114,111,112,101,114,116,121],[61,61]]
def Jt:List (List UInt8):=[[58],[105,110],[116,104,101,110],[101,108,115,101],[61],[44],[41],[93],[125],[62,62],[39],[40],[123],[60,60],[91],[46],[58,61]]++fI++Dm++De++Cf++Gv++Cz++Cp++Eu.map Prod.fst
structure Fy (K:Nat->Tk)(N:Nat):Prop where
 cl:(K N).cl=0\/(K N).cl=5
 tx:∀m∈Jt,(K N).tx≠m
section
variable {K:Nat->Tk} {N:Nat}
theorem Fy.lt (h:Fy K N){i:Nat}(hi:i<=N){m:List UInt8}(e:((K i).tx==m)=true)(hm:m∈Jt):i<N:=by
 rcases Nat.lt_or_eq_of_le hi with q|q
 ·exact q
 ·subst q;exact absurd (eq_of_beq e) (h.tx m hm)
theorem Fy.lt_in (h:Fy K N){i:Nat}(hi:i<=N){l:List (List UInt8)}(e:l.contains (K i).tx=true)(hm:∀m∈l,m∈Jt):i<N:=by
 rcases Nat.lt_or_eq_of_le hi with q|q
 ·exact q
 ·subst q;exact absurd rfl (h.tx _ (hm _ (List.contains_iff_mem.1 e)))
theorem Fy.lt_cl (h:Fy K N){i:Nat}(hi:i<=N)(e:(K i).cl=1\/(K i).cl=2\/(K i).cl=3):i<N:=by
 rcases Nat.lt_or_eq_of_le hi with q|q
 ·exact q
 ·subst q;have:=h.cl;omega
theorem Cv {γ:Type}(h:Fy K N){m:List UInt8}(hm:m∈Jt){lo i:Nat}(hi:i<=N){k:Nat->RX γ}(hk:i+1<=N->Adv lo N (k (i+1))):Adv lo N (Bv K m i k) :=
 Adv.ite (fun e=>hk (h.lt hi e hm)) fun _=>Adv.err
theorem Fh {γ:Type}{d lo i:Nat}{k:Nat->RX γ}(hk:Adv lo N (k (i+1))):Adv lo N (Bw K d i k):=Adv.ite (fun _=>Adv.err) fun _=>hk
theorem Di (h:Fy K N){i:Nat}(hi:i<=N):Adv (i+1) N (Bo K i) :=
 Adv.ite (fun _=>Adv.err) fun q=>Adv.ite (fun _=>Adv.err) fun _=>Adv.ok (Nat.le_refl _) (h.lt_cl hi (by have:(K i).cl=1:=Classical.byContradiction fun e=>q (.inl e);omega))
theorem Hj {β:Type}(h:Fy K N){cl:List UInt8}(hc:cl∈Jt){item:Nat->RX β}{lo:Nat}(hi:∀i,lo<=i->i<=N->Adv (i+1) N (item i)):∀m acc i,lo<=i->i<=N->N-i<m->Adv (i+1) N (Bj K cl item m acc i)
 | 0,_,_,_,_,q=>absurd q (by omega)
 | m+1,acc,i,h1,h2,q=>(hi i h1 h2).bind fun x j a b=>Adv.ite (fun e=>Adv.ok (by omega) (h.lt b e hc)) fun _ =>
   Cv h (by decide) b fun c=>(Hj h hc hi m _ _ (by omega) c (by omega)).mono (by omega)
theorem Ug {β:Type}(h:Fy K N){cl:List UInt8}(hc:cl∈Jt){item:Nat->RX β}{i m:Nat}(hi:∀j,i<=j->j<=N->Adv (j+1) N (item j))(h2:i<=N)(q:N-i<m):Adv (i+1) N (Km K cl item m i) :=
 Adv.ite (fun e=>Adv.ok (by omega) (h.lt h2 e hc)) fun _=>Hj h hc hi m _ _ (Nat.le_refl _) h2 q
variable {self:Nat->Nat->Nat->RX PX}
abbrev C1 (N lo:Nat)(self:Nat->Nat->Nat->RX PX):Prop:=∀n d j,lo<=j->j<=N->Adv (j+1) N (self n d j)
theorem aB (h:Fy K N){lo:Nat}(hs:C1 N lo self)(d:Nat){i:Nat}(h1:lo<=i)(h2:i<=N):Adv (i+1) N (Gn K self d i) :=
 (hs 0 d i h1 h2).bind fun _ j a b=>Cv h (by decide) b fun c=>(hs 0 d _ (by omega) c).bind fun _ _ a b=>Adv.ok (by omega) b
theorem Oq (h:Fy K N){lo:Nat}(hs:C1 N lo self)(op:List UInt8)(d:Nat){i:Nat}(h1:lo<=i)(h2:i<=N):Adv (i+1) N (Fd K self op d i) :=
 (Di h h2).bind fun _ j a b=>Cv h (by decide) b fun c=>(hs 8 d _ (by omega) c).bind fun _ j a b=>Cv h (by decide) b fun c=>(hs 0 d _ (by omega) c).bind fun _ _ a b=>Adv.ok (by omega) b
theorem Uh (h:Fy K N){lo:Nat}(hs:C1 N lo self)(d:Nat){i:Nat}(h1:lo<=i)(h2:i<=N):Adv (i+1) N (Fs K self d i) :=
 (hs 0 d i h1 h2).bind fun _ j a b=>Cv h (by decide) b fun c=>(hs 0 d _ (by omega) c).bind fun _ j a b=>Cv h (by decide) b fun c=>(hs 0 d _ (by omega) c).bind fun _ _ a b=>Adv.ok (by omega) b
theorem Ui (h:Fy K N){lo:Nat}(hs:C1 N lo self)(d:Nat){i:Nat}(h1:lo<=i)(h2:i<=N):Adv (i+1) N (Ft K self d i) :=
 (Di h h2).bind fun _ j a b=>Cv h (by decide) b fun c=>(hs 0 d _ (by omega) c).bind fun _ j a b=>Cv h (by decide) b fun c=>(hs 0 d _ (by omega) c).bind fun _ _ a b=>Adv.ok (by omega) b
theorem Sj (h:Fy K N){i:Nat}(hs:C1 N (i+1) self)(d:Nat)(h2:i<N):Adv (i+1) N (Cn K self d i) :=
 Fh (Adv.ite (fun _=>(Uh h hs _ (Nat.le_refl _) h2).mono (by omega)) fun _=>Adv.ite (fun _=>(Ui h hs _ (Nat.le_refl _) h2).mono (by omega)) fun _=>(Oq h hs _ _ (Nat.le_refl _) h2).mono (by omega))
theorem Ot (h:Fy K N){i:Nat}(hs:C1 N (i+1) self)(r d:Nat)(h2:i<N):Adv (i+1) N (Dn K self r d i) :=
 Adv.ite (fun _=>(Di h h2).bind fun _ _ a b=>Adv.ok (by omega) b) fun _=>Fh ((hs _ _ _ (Nat.le_refl _) h2).bind fun _ _ a b=>Adv.ok (by omega) b)
theorem Rg (h:Fy K N){lo:Nat}(hs:C1 N lo self)(n:List UInt8)(d:Nat){m i:Nat}(h1:lo<=i+1)(h2:i<N)(q:N-i<m+1):Adv (i+1) N (G0 K self m n d i) :=
 Fh ((Hj h (by decide) (fun j a b=>hs 0 (d+1) j a b) m _ _ h1 h2 (by omega)).bind fun _ _ a b=>Adv.ok (by omega) b)
theorem Wp (h:Fy K N){i m:Nat}(hs:C1 N (i+1) self)(d:Nat)(h2:i<=N)(q:N-i<m+1):Adv (i+1) N (Fe K self m d i) :=
 (Di h h2).bind fun _ j a b=>Adv.ite (fun e=>Adv.ok (by omega) (h.lt b e (by decide))) fun _=>Adv.ite (fun e=>(Rg h hs _ d (by omega) (h.lt b e (by decide)) (by omega)).mono (by omega)) fun _=>Adv.ok a b
theorem aC (h:Fy K N){i m:Nat}(hs:C1 N (i+1) self)(d:Nat)(h2:i<N)(q:N-i<m+1):Adv (i+1) N (Gp K self m d i) :=
 Adv.ite (fun _=>Adv.ok (by omega) h2) fun _=>Adv.ite (fun _=>Adv.ite (fun e=>(Rg h hs _ d (by omega) (h.lt h2 e (by decide)) (by omega)).mono (by omega)) fun _=>Adv.err) fun _=>Wp h hs d (by omega) q
theorem dA (h:Fy K N){i m:Nat}(hs:C1 N i self)(d:Nat)(h2:i<=N)(q:N-i<m):Adv (i+1) N (Jr K self m d i) :=
 Adv.ite (fun e=>(Oq h hs _ d (by omega) (h.lt_in h2 e (by decide))).bind fun _ j a b=>Cv h (by decide) b fun c=>Adv.ok (by omega) c) fun _=>(Ug h (by decide) (fun j a b=>hs 0 d j a b) h2 q).bind fun _ _ a b=>Adv.ok a b
theorem Sk (h:Fy K N){i m:Nat}(hs:C1 N (i+1) self)(d:Nat)(h2:i<=N)(q:N-i<m+1):Adv (i+1) N (Bp K self m d i) :=
 Adv.ite (fun e=>Fh ((hs _ _ _ (Nat.le_refl _) (h.lt h2 e (by decide))).bind fun _ j a b=>Cv h (by decide) b fun c=>Adv.ok (by omega) c)) fun _ =>
 Adv.ite (fun e=>have:=h.lt h2 e (by decide);Fh ((dA h hs _ this (by omega)).mono (by omega))) fun _ =>
 Adv.ite (fun e=>have:=h.lt h2 e (by decide);Fh ((Ug h (by decide) (fun j a b=>hs 0 (d+1) j a b) this (by omega)).bind fun _ _ a b=>Adv.ok (by omega) b)) fun _ =>
 Adv.ite (fun e=>have:=h.lt h2 e (by decide);Fh ((Hj h (by decide) (fun j a b=>aB h hs (d+1) a b) m _ _ (Nat.le_refl _) this (by omega)).bind fun _ _ a b=>Adv.ok (by omega) b)) fun _=>Adv.err
theorem Wq (h:Fy K N){i m:Nat}(hs:C1 N (i+1) self)(d:Nat)(h2:i<=N)(q:N-i<m+1):Adv (i+1) N (C7 K self m d i) :=
 Adv.ite (fun e=>by
  have:=h.lt_cl h2 (.inr (.inl e));split
  ·exact Adv.ok (Nat.le_refl _) this
  ·exact Adv.err) fun _ =>
 Adv.ite (fun e=>Adv.ok (Nat.le_refl _) (h.lt_cl h2 (.inr (.inr e)))) fun _=>Adv.ite (fun e=>aC h hs d (h.lt_cl h2 (.inl e)) q) fun _=>Sk h hs d h2 q
theorem Ic (h:Fy K N){lo:Nat}(hs:C1 N lo self)(M d:Nat):∀m x i,lo<=i->i<=N->N-i<m->Adv i N (Bs K self M d m x i)
 | 0,_,_,_,_,q=>absurd q (by omega)
 | m+1,x,i,h1,h2,q =>
  Adv.ite (fun e=>Fh ((hs _ _ _ (by omega) (h.lt h2 e (by decide))).bind fun _ j a b =>
   Adv.ite (fun e=>(hs _ _ _ (by omega) (h.lt b e (by decide))).bind fun _ j a b=>Cv h (by decide) b fun c=>(Ic h hs M d m _ _ (by omega) c (by omega)).mono (by omega))
    fun _=>Cv h (by decide) b fun c=>(Ic h hs M d m _ _ (by omega) c (by omega)).mono (by omega))) fun _ =>
  Adv.ite (fun e=>(Di h (h.lt h2 e (by decide))).bind fun _ j a b=>(Ic h hs M d m _ _ (by omega) b (by omega)).mono (by omega)) fun _=>Adv.ok (Nat.le_refl _) h2
theorem Wr (h:Fy K N){i m:Nat}(hs:C1 N (i+1) self)(d:Nat)(h2:i<=N)(q:N-i<m+1):Adv (i+1) N (Eo K self m d i) :=
 (Wq h hs d h2 q).bind fun x j a b=>(Ic h hs m d m x j a b (by omega)).mono a
theorem Uj (h:Fy K N){lo:Nat}(hs:C1 N lo self)(n d:Nat)(hn:1<=n):∀m x i,lo<=i->i<=N->N-i<m->Adv i N (Od K self n d m x i)
 | 0,_,_,_,_,q=>absurd q (by omega)
 | m+1,x,i,h1,h2,q=>by
  rw[Od];refine Adv.ite (fun e=>?_) fun _=>Adv.ok (Nat.le_refl _) h2;have hlt:i<N:=by
   rcases Nat.lt_or_eq_of_le h2 with q|q
   ·exact q
   ·subst q;unfold Ae at e;cases w:Eu.lookup (K i).tx with
    | none=>rw[w] at e;simp at e;omega
    | some v =>
     have:(K i).tx∈Eu.map Prod.fst:=by
      have:∀l:List (List UInt8×Nat),l.lookup (K i).tx=some v->(K i).tx∈l.map Prod.fst:=by
       intro l
       induction l with
       | nil=>intro w;simp at w
       | cons a l ih =>
        intro w;rw[List.lookup_cons] at w;split at w
        ·rename_i q;rw[eq_of_beq q];simp
        ·simp only[List.map_cons,List.mem_cons];exact .inr (ih w)
      exact this _ w
     exact absurd rfl (h.tx _ (by unfold Jt;exact List.mem_append_right _ this))
  exact(hs _ _ _ (by omega) hlt).bind fun _ j a b=>Adv.ite (fun _=>(Uj h hs n d hn m _ _ (by omega) b (by omega)).mono (by omega)) fun _=>Adv.ok (by omega) b
theorem Kc (h:Fy K N){i m:Nat}(hs:C1 N (i+1) self)(d:Nat)(h2:i<=N)(q:N-i<m+1):∀k,k<=11->Adv (i+1) N (Ko K self m d k i)
 | 0,_=>Adv.ite (fun e=>Ot h hs 12 d (h.lt_in h2 e (by decide))) fun _=>Wr h hs d h2 q
 | k+1,hk=>Adv.ite (fun _=>Adv.ite (fun e=>Ot h hs 6 d (h.lt_in h2 e (by decide))) fun _=>Kc h hs d h2 q k (by omega)) fun _ =>
   (Kc h hs d h2 q k (by omega)).bind fun x j a b=>(Uj h hs _ d (by omega) m x j a b (by omega)).mono a
theorem aD (h:Fy K N){i m:Nat}(hs:C1 N (i+1) self)(n d:Nat)(h2:i<=N)(q:N-i<m+1):Adv (i+1) N (Lg K self m n d i) :=
 Adv.ite (fun _=>Adv.ite (fun e=>Sj h hs d (h.lt_in h2 e (by decide))) fun _=>Kc h hs d h2 q 11 (by omega)) fun _=>Kc h hs d h2 q _ (by omega)
end
theorem Ou {K:Nat->Tk}{N:Nat}(h:Fy K N):∀f n d i,i<=N->N-i<f->Adv (i+1) N (Z6 K f n d i)
 | 0,_,_,_,_,q=>absurd q (by omega)
 | f+1,n,d,i,h2,q=>aD h (self:=Z6 K f) (fun n d j a b=>Ou h f n d j b (by omega)) n d h2 q
end Go.Proofs.YtjbfcadeapphbaaGreatDoor.Sx
