/- Plain mathematics: values as trees (by levels), their order. Nothing of the program. -/
import Derived.Lib.Bytealg
import Derived.Lib.Small
namespace Go.Proofs.YtdpeliifdlhhkaaGreatDoor.Sx
abbrev Ad8 := @Nat.lt_of_lt_of_le
abbrev Ad9 := @Nat.le_refl
abbrev Ae0 := @Nat.le_trans
abbrev Ae1 := @Nat.zero_le
abbrev Ae4 := @List.mem_of_getElem?
abbrev Ae5 := @Option.some.inj
structure Ag (α:Type) where
 kind:Nat
 int:Int
 text:List UInt8
 keys:List α
 vals:List α
def AV:Nat->Type
 | 0=>Empty
 | n+1=>Ag (AV n)
def Ar {α:Type}:Ag α:=⟨0,0,[],[],[]⟩
def Bj {α:Type}(b:Bool):Ag α:=⟨1,if b then 1 else 0,[],[],[]⟩
def Cu {α:Type}(n:Int):Ag α:=⟨2,n,[],[],[]⟩
def Dm {α:Type}(l:List UInt8):Ag α:=⟨3,0,l,[],[]⟩
def D9 {α:Type}(l:List UInt8):Ag α:=⟨4,0,l,[],[]⟩
def Bt {α:Type}(es:List α):Ag α:=⟨5,0,[],es,[]⟩
def Dd {α:Type}(ks vs:List α):Ag α:=⟨6,0,[],ks,vs⟩
def A4 (x y:Int):Int:=if x=0 then y else x
def Ew {α:Type}(c:α->α->Int):List α->List α->Int
 | [],[]=>0
 | [],_::_=>-1
 | _::_,[]=>1
 | a::as,b::bs=>A4 (c a b) (Ew c as bs)
def Es {α:Type}(c:α->α->Int)(a b:List α):Int:=A4 (Lib.compareInt a.length b.length) (Ew c a b)
def Nm {α:Type}(c:α->α->Int)(a b:Ag α):Int :=
 A4 (Lib.compareInt a.kind b.kind) (A4 (Lib.compareInt a.int b.int) (A4 (Lib.compareBytes a.text b.text) (A4 (Es c a.keys b.keys) (Es c a.vals b.vals))))
def Al:(n:Nat)->AV n->AV n->Int
 | 0,_,_=>0
 | n+1,a,b=>Nm (Al n) a b
structure Er {α:Type}(c:α->α->Int):Prop where
 rng:∀a b,c a b=-1\/c a b=0\/c a b=1
 anti:∀a b,c b a=- c a b
 trans:∀a b d,c a b<=0->c b d<=0->c a d<=0
theorem Er.sub {α:Type}{c:α->α->Int}(h:Er c){a b:α}(e:c a b=0)(d:α):c a d=c b d:=by
 have i:c b a=0:=by rw[h.anti a b,e];rfl
 have j:=h.trans a b d (by omega);have k:=h.trans b a d (by omega);have f:=fun q=>h.trans d a b q (by omega);have g:=fun q=>h.trans d b a q (by omega);have l:=h.rng a d;have m:=h.rng b d;rw[h.anti a d,h.anti b d] at f;rw[h.anti a d,h.anti b d] at g;omega
theorem Er.self {α:Type}{c:α->α->Int}(h:Er c)(a:α):c a a=0:=by
 have:=h.anti a a;omega
theorem Er.pull {α β:Type}{c:α->α->Int}(h:Er c)(f:β->α):Er (fun a b=>c (f a) (f b)) :=
 ⟨fun _ _=>h.rng _ _,fun _ _=>h.anti _ _,fun _ _ _=>h.trans _ _ _⟩
theorem Er.lex {α:Type}{c d:α->α->Int}(h:Er c)(k:Er d):Er (fun a b=>A4 (c a b) (d a b)):=by
 constructor
 ·intro a b;have:=h.rng a b;have:=k.rng a b;simp only[A4];split<;>assumption
 ·intro a b;have g:=h.anti a b;have f:=k.anti a b;simp only[A4,g,f];by_cases e:c a b=0
  ·simp[e]
  ·rw[if_neg (by omega),if_neg e]
 ·intro a b x g f;simp only[A4] at g f |-;by_cases e:c a b=0
  ·rw[if_pos e] at g;rw[h.sub e x];by_cases i:c b x=0
   ·rw[if_pos i] at f |-;exact k.trans a b x g f
   ·rw[if_neg i] at f |-;exact f
  ·rw[if_neg e] at g;have l:=h.anti a b;by_cases i:c b x=0
   ·have:=h.trans a b x g (by omega);have n:c a x≠0:=by
     intro q;have s:=h.sub q b;have j:=h.anti b x;omega
    rw[if_neg n];exact this
   ·rw[if_neg i] at f;have:=h.trans a b x g f;have n:c a x≠0:=by
     intro q;have s:=h.sub q b;have j:=h.anti b x;omega
    rw[if_neg n];exact this
theorem Z5:Er Lib.compareInt:=by
 constructor
 ·intro a b;unfold Lib.compareInt;split;· simp
  split<;>simp
 ·intro a b;unfold Lib.compareInt;repeat' split
  all_goals omega
 ·intro a b d;unfold Lib.compareInt;repeat' split
  all_goals omega
theorem Md (a b:Int):Lib.compareInt a b=0↔a=b:=by
 unfold Lib.compareInt;repeat' split
 all_goals omega
theorem Yb:Er Lib.compareBytes:=by
 constructor
 ·intro a
  induction a with
  | nil=>intro b;cases b<;>simp[Lib.compareBytes]
  | cons x a ih =>
   intro b;cases b with
   | nil=>simp[Lib.compareBytes]
   | cons y b =>
    simp only[Lib.compareBytes];repeat' split
    all_goals first|exact ih b|simp
 ·intro a
  induction a with
  | nil=>intro b;cases b<;>simp[Lib.compareBytes]
  | cons x a ih =>
   intro b;cases b with
   | nil=>simp[Lib.compareBytes]
   | cons y b =>
    simp only[Lib.compareBytes,UInt8.lt_iff_toNat_lt]
    repeat' split
    all_goals first|omega|exact ih b
 ·intro a
  induction a with
  | nil=>intro b d;cases d<;>simp[Lib.compareBytes]
  | cons x a ih =>
   intro b d;cases b with
   | nil=>simp[Lib.compareBytes]
   | cons y b =>
    cases d with
    | nil=>simp[Lib.compareBytes]
    | cons z d =>
     simp only[Lib.compareBytes,UInt8.lt_iff_toNat_lt]
     repeat' split
     all_goals first|omega|exact ih b d|skip
     all_goals (intro c e;first|omega|(exact ih b d c e))
theorem pX (a b:List UInt8):Lib.compareBytes a b=0↔a=b:=by
 induction a generalizing b with
 | nil=>cases b<;>simp[Lib.compareBytes]
 | cons x a ih =>
  cases b with
  | nil=>simp[Lib.compareBytes]
  | cons y b =>
   simp only[Lib.compareBytes,UInt8.lt_iff_toNat_lt,List.cons.injEq];have c:x=y↔x.toNat=y.toNat:=UInt8.toNat_inj.symm
   repeat' split
   ·simp;intro h;rw[c] at h;omega
   ·simp;intro h;rw[c] at h;omega
   ·rw[ih b,c];constructor
    ·intro h;exact⟨by omega,h⟩
    ·intro h;exact h.2
theorem cA {α:Type}{c:α->α->Int}(h:Er c):Er (Ew c):=by
 constructor
 ·intro a
  induction a with
  | nil=>intro b;cases b<;>simp[Ew]
  | cons x a ih =>
   intro b;cases b with
   | nil=>simp[Ew]
   | cons y b =>
    have:=h.rng x y;have:=ih b;simp only[Ew,A4];split<;>assumption
 ·intro a
  induction a with
  | nil=>intro b;cases b<;>simp[Ew]
  | cons x a ih =>
   intro b;cases b with
   | nil=>simp[Ew]
   | cons y b =>
    have g:=h.anti x y;have f:=ih b;simp only[Ew,A4,g,f];by_cases e:c x y=0
    ·simp[e]
    ·rw[if_neg (by omega),if_neg e]
 ·intro a
  induction a with
  | nil=>intro b d;cases d<;>simp[Ew]
  | cons x a ih =>
   intro b d;cases b with
   | nil=>simp[Ew]
   | cons y b =>
    cases d with
    | nil=>simp[Ew]
    | cons z d =>
     intro g f;simp only[Ew,A4] at g f |-;by_cases e:c x y=0
     ·rw[if_pos e] at g;rw[h.sub e z];by_cases i:c y z=0
      ·rw[if_pos i] at f |-;exact ih b d g f
      ·rw[if_neg i] at f |-;exact f
     ·rw[if_neg e] at g;have k:=h.anti x y;by_cases i:c y z=0
      ·have:=h.trans x y z g (by omega);have n:c x z≠0:=by
        intro q;have s:=h.sub q y;have j:=h.anti y z;omega
       rw[if_neg n];exact this
      ·rw[if_neg i] at f;have:=h.trans x y z g f;have n:c x z≠0:=by
        intro q;have s:=h.sub q y;have j:=h.anti y z;omega
       rw[if_neg n];exact this
theorem Kd {α:Type}{c:α->α->Int}(h:Er c):Er (Es c) :=
 (Z5.pull (fun a:List α=>(a.length:Int))).lex (cA h)
theorem pY {α:Type}{c:α->α->Int}(h:Er c):Er (Nm c) :=
 (Z5.pull (fun a:Ag α=>(a.kind:Int))).lex ((Z5.pull (fun a:Ag α=>a.int)).lex ((Yb.pull (fun a:Ag α=>a.text)).lex (((Kd h).pull (fun a:Ag α=>a.keys)).lex ((Kd h).pull (fun a:Ag α=>a.vals)))))
theorem ord (n:Nat):Er (Al n):=by
 induction n with
 | zero=>exact⟨fun a=>Empty.elim a,fun a=>Empty.elim a,fun a=>Empty.elim a⟩
 | succ n ih=>exact pY ih
theorem kV {α:Type}{c:α->α->Int}(h:∀a b,c a b=0↔a=b):∀a b:List α,Ew c a b=0↔a=b
 | [],[]=>by simp[Ew]
 | [],_::_=>by simp[Ew]
 | _::_,[]=>by simp[Ew]
 | x::a,y::b=>by
  have h1:=h x y;have h2:=kV h a b;simp only[Ew,A4,List.cons.injEq];by_cases e:c x y=0
  ·rw[if_pos e,h2];exact⟨fun q=>⟨h1.1 e,q⟩,fun q=>q.2⟩
  ·rw[if_neg e];exact⟨fun q=>absurd q e,fun q=>absurd (h1.2 q.1) e⟩
theorem kW {α:Type}{c:α->α->Int}(h:∀a b,c a b=0↔a=b)(a b:List α):Es c a b=0↔a=b:=by
 simp only[Es,A4];by_cases e:Lib.compareInt a.length b.length=0
 ·rw[if_pos e];exact kV h a b
 ·rw[if_neg e];refine⟨fun q=>absurd q e,fun q=>?_⟩;subst q;exact(Md _ _).2 rfl
theorem pZ (x y:Int):A4 x y=0↔x=0/\y=0:=by
 unfold A4;split<;>simp_all
theorem uT {α:Type}{c:α->α->Int}(h:∀a b,c a b=0↔a=b)(a b:Ag α):Nm c a b=0↔a=b:=by
 obtain⟨k,i,t,m,o⟩:=a;obtain⟨l,j,n,f,g⟩:=b;simp only[Nm,pZ,Md,pX,kW h,Ag.mk.injEq];constructor
 ·rintro⟨a,b,c,d,e⟩;exact⟨by omega,b,c,d,e⟩
 ·rintro⟨a,b,c,d,e⟩;exact⟨by omega,b,c,d,e⟩
theorem Em:∀(n:Nat)(a b:AV n),Al n a b=0↔a=b
 | 0,a,_=>Empty.elim a
 | n+1,a,b=>uT (Em n) a b
end Go.Proofs.YtdpeliifdlhhkaaGreatDoor.Sx
