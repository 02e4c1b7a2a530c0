/- The reference: how many values an operator of the table takes. -/
import Derived.Test.YtdpeliifdlhhkaaGreatDoorM23
import Derived.Test.YtdpeliifdlhhkaaGreatDoorM24
import Derived.Test.YtdpeliifdlhhkaaGreatDoorM11
import Derived.Test.YtdpeliifdlhhkaaGreatDoorM13
import Derived.Test.YtdpeliifdlhhkaaGreatDoorM14
namespace Go.Proofs.YtdpeliifdlhhkaaGreatDoor.Sx
open Go.RowKit Go.Sort Tryz
set_option maxRecDepth 100000
set_option maxHeartbeats 8000000
def G9 (w:World)(t:Int)(e:Ending)(w':World):Prop:=e=.returned (.int .i64 t)/\w'=w
theorem Gt {op:ByteArray}{l:List UInt8}(h:l=op.data.toList):op=⟨l.toArray⟩:=by
 cases op with
 | mk d=>subst h;simp
theorem Ii (op:ByteArray)(i:Nat)(t:Int)(C:World->Value->Prop)(h:Cc[i]?=some (op.data.toList,t,C))(w:World):Calls prog 43 #[.string op] w (G9 w t):=by
 have b:i<40:=(List.getElem?_eq_some_iff.1 h).1;obtain _|_|_|_|_|_|_|_|_|_|_|_|_|_|_|_|_|_|_|_|_|_|_|_|_|_|_|_|_|_|_|_|_|_|_|_|_|_|_|_|i:=i
 all_goals first|omega|skip
 all_goals
  simp only[Cc,List.getElem?_cons_zero,List.getElem?_cons_succ,Option.some.injEq,Prod.mk.injEq] at h;obtain⟨a,rfl,-⟩:=h;obtain rfl:=Gt a;clear a b;go_enter func43,ntmps43
  go_wp2_with fail
  go_ret
  exact⟨rfl,rfl⟩
theorem eS (op:ByteArray)(w:World)(h:∀x∈Cc,x.1≠op.data.toList):Calls prog 43 #[.string op] w (G9 w (-2)):=by
 have a:∀x∈Cc,(op.toList==x.1)=false:=fun x hx=>beq_false_of_ne fun e=>h x hx (by rw[<- ByteArray.toList_eq];exact e.symm);simp only[Cc,List.forall_mem_cons] at a;obtain⟨J,K,L,M,N,O,P,Q,R,S,b,c,d,f,g,i,j,k,l,m,n,o,p,q,r,s,t,u,v,y,z,A,B,C,D,E,F,G,H,I,-⟩:=a;clear h;go_enter func43,ntmps43
 go_wp2_with fail
 go_ret
 exact⟨rfl,rfl⟩
theorem Sl (n:Nat)(P:Nat->Prop)(w:World)(x:Ag (AV n))(v:Value)(h:Ref P w (n+1) x v):Calls prog 87 #[v] w fun e w'=>e=.returned (.bool (soN x))/\Ac w w':=by
 obtain⟨s,i,k,j,l,o,m,rfl,-,-,-,-⟩:=h;have a:Hid (soN x=decide (x.kind=1/\x.int=1)):=rfl;have d:Hid (Ac w (w.alloc (.cells #[.int .i64 x.kind,.int .i64 x.int,.string s,.slice i k j,.slice l o m] 30))):=(Ac.refl w).alloc _;by_cases b:x.kind=1
 ·have f:(((x.kind:Nat):Int)==1)=true:=by rw[b];rfl
  by_cases c:x.int=1
  ·have g:(x.int==1)=true:=by rw[c];rfl
   rw[a.out,decide_eq_true ⟨b,c⟩];clear a b c;go_enter func87,ntmps87
   go_wp2_with fail
   go_ret
   exact⟨by simp,d.out⟩
  ·have g:(x.int==1)=false:=by simpa using c
   rw[a.out,decide_eq_false (fun h=>c h.2)];clear a b c;go_enter func87,ntmps87
   go_wp2_with fail
   go_ret
   exact⟨by simp,d.out⟩
 ·have f:(((x.kind:Nat):Int)==1)=false:=by simp;omega
  rw[a.out,decide_eq_false (fun h=>b h.1)];clear a b;go_enter func87,ntmps87
  go_wp2_with fail
  go_ret
  exact⟨by simp,d.out⟩
theorem jS (n:Nat)(P:Nat->Prop)(w:World)(x y:Ag (AV n))(u v:Value)(hx:Ref P w (n+1) x u)(hy:Ref P w (n+1) y v)(s0:ByteArray)(B:Bool)(hs:s0=⟨#[97,110,100]⟩/\(soN x&&soN y)=B\/s0=⟨#[111,114]⟩/\(soN x||soN y)=B\/s0=⟨#[105,109,112,108,105,101,115]⟩/\(!soN x||soN y)=B\/s0=⟨#[105,102,102]⟩/\(soN x==soN y)=B\/s0=⟨#[61]⟩/\(Al (n+1) x y==0)=B\/s0=⟨#[47,61]⟩/\(!(Al (n+1) x y==0))=B):Calls prog 49 #[.string s0,u,v] w fun e w'=>e=.returned (.agg #[.int .i64 1,.int .i64 (if B then 1 else 0),.string ⟨#[]⟩,.slice none 0 0,.slice none 0 0])/\Ac w w':=by
 have f:Hid (∀W,Ac w W->Calls prog 87 #[u] W fun e w'=>e=.returned (.bool (soN x))/\Ac W w'):=fun W hW=>Sl n P W x u (hx.grew hW);have g:Hid (∀W,Ac w W->Calls prog 87 #[v] W fun e w'=>e=.returned (.bool (soN y))/\Ac W w'):=fun W hW=>Sl n P W y v (hy.grew hW);have A:Hid (∀W,Ac w W->Calls prog 18 #[u,v] W fun e w'=>e=.returned (.int .i64 (Al (n+1) x y))/\Ac W w'):=fun W hW=>Mm (n+1) P W x y u v (hx.grew hW) (hy.grew hW);obtain⟨s,ka,kl,kc,va,vl,vc,rfl,-,-,-,-⟩:=id hx;obtain⟨s',F,H,G,I,K,J,rfl,-,-,-,-⟩:=id hy;clear hx hy;generalize soN x=p at f hs;generalize soN y=q at g hs;generalize Al (n+1) x y=c at A hs;have d:Hid (∀(W:World)(b:Bool),b=B->Calls prog 88 #[.bool b] W fun e w'=>e=.returned (.agg #[.int .i64 1,.int .i64 (if B then 1 else 0),.string ⟨#[]⟩,.slice none 0 0,.slice none 0 0])/\Ac W w'):=fun W b e=>by rw[e];exact Ls B W
 generalize (if B then(1:Int) else 0)=D at d |-;have mo:=follows;obtain⟨j,l,o,E⟩:=Qf w #[.int .i64 x.kind,.int .i64 x.int,.string s,.slice ka kl kc,.slice va vl vc] #[.int .i64 y.kind,.int .i64 y.int,.string s',.slice F H G,.slice I K J] #[.int .i64 0,.int .i64 0,.string ⟨#[]⟩,.slice none 0 0,.slice none 0 0] 30;rcases hs with⟨rfl,h⟩|⟨rfl,h⟩|⟨rfl,h⟩|⟨rfl,h⟩|⟨rfl,h⟩|⟨rfl,h⟩
 all_goals
  have O:Hid _:=h;clear h;go_enter func49,ntmps49
  go_wp2_with fail
  generalize ((w.alloc _).alloc _).alloc _=W0 at j l o E |-;refine(f.out W0 j.out).mono ?_;rintro e w1 ⟨rfl,a⟩;have t:Hid (Ac _ _):=j.out.trans a;have M:Hid _:=Ac1 a.below l.out;have i:Hid _:=Ac1 a.below o.out;have Q:Hid _:=Ac1 a.below E.out;clear a j l o E f;obtain⟨X,Y,Z,b3,b4⟩:=Ah i.out;have L:=Aa i.out;go_wp2_with fail
  clear X Y Z b3 b4 L;refine(g.out w1 t.out).mono ?_;rintro e w2 ⟨rfl,a⟩;have z:Hid (Ac _ _):=t.out.trans a;have m:Hid _:=Ac1 a.below M.out;have r:Hid _:=Ac1 a.below i.out;have R:Hid _:=Ac1 a.below Q.out;clear a t M i Q g;have za:=Aa m.out;have L:=Aa r.out;obtain⟨i0,i1,i2,i3,i4⟩:=Ah m.out;obtain⟨j0,j1,j2,j3,j4⟩:=Ah r.out;go_wp2_with fail
  clear i0 i1 i2 i3 i4 j0 j1 j2 j3 j4 za L;refine(A.out w2 z.out).mono ?_;rintro e w3 ⟨rfl,a⟩;have N:Hid (Ac _ _):=z.out.trans a;have S:Hid _:=Ac1 a.below R.out;clear a m r R z A;cases p
  all_goals
   go_wp2_with fail
   refine(d.out w3 _ (by simpa using O.out)).mono ?_;rintro e T ⟨rfl,a⟩;have U:Hid (Ac _ _):=N.out.trans a;have k:Hid _:=Ac1 a.below S.out;have C:Hid (Ac w (Ao T (w.heap.size+1+1) 0 (.int .i64 1) (.int .i64 D) (.string ⟨#[]⟩) (.slice none 0 0) (.slice none 0 0))):=Lt U.out (by omega) 0 _ _ _ _ _;have V:Hid _:=Bc k.out (.int .i64 1) (.int .i64 D) (.string ⟨#[]⟩) (.slice none 0 0) (.slice none 0 0);clear a N S d O;have zw:=Aa k.out;obtain⟨r0,r1,r2,r3,r4⟩:=Ah k.out;obtain⟨s0,s1,s2,s3,s4⟩:=Ax k.out;go_wp2_with fail
   obtain⟨k0,k1,k2,k3,k4⟩:=Ah V.out;change bodyPost _ _ _ _ _ (Ao T (w.heap.size+1+1) 0 (.int .i64 1) (.int .i64 D) (.string ⟨#[]⟩) (.slice none 0 0) (.slice none 0 0));exact Ae2 (by simp[results,results49,go_sem,k0,k1,k2,k3,k4]) rfl ⟨rfl,C.out⟩
end Go.Proofs.YtdpeliifdlhhkaaGreatDoor.Sx
