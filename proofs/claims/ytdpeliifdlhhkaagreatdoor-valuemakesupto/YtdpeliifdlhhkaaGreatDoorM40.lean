/- The reference, over values that are handed in: its operators of numbers; the row of the values is not kept. -/
import Derived.Test.YtdpeliifdlhhkaaGreatDoorM38
namespace Go.Proofs.YtdpeliifdlhhkaaGreatDoor.Sx
open Go.RowKit Go.Sort Tryz
set_option maxRecDepth 100000
set_option maxHeartbeats 8000000
theorem Jp {i:Nat}{s:ByteArray}{C:World->Value->Prop}(hi:Cc[i]?=some (s.data.toList,2,C))(hs:i=7\/i=8\/i=9\/i=10\/i=11\/i=12\/i=13\/i=14\/i=15\/i=16)(n m:Nat)(P:Nat->Prop)(w:World)(a:Option Addr)(cap:Nat)(x y:AV n){Q0:Nat->Prop}(h:Bm Q0 w (Ref P w n) a 2 [x,y])(z:AV (m+1))
  (H:∀(u v:Value)(W:World),Ac w W->Ref P W n x u->Ref P W n y v->w.heap.size<W.heap.size->Calls prog 50 #[.string s,u,v] W (Aw (fun k=>P k/\k≠w.heap.size) W (m+1) z)) :
  Calls prog 22 #[.string s,.slice a 2 cap] w (Aw P w (m+1) z):=by
 obtain⟨b,a0,u,v,rfl,d,f0,f1,X,Y⟩:=Pg h;obtain⟨u0,u1,u2,u3,u4,rfl,K,L,M,N,O⟩:=f0;obtain⟨v0,v1,v2,v3,v4,rfl,Q,R,S,T,U⟩:=f1;have I:Hid (∀W,Calls prog 43 #[.string s] W (G9 W 2)):=fun W=>Ii s i _ C hi W;have HH:Hid (∀W,Ac w W->w.heap.size<W.heap.size->Calls prog 50 #[.string s,.agg #[u0,u1,u2,u3,u4],.agg #[v0,v1,v2,v3,v4]] W (Aw (fun k=>P k/\k≠w.heap.size) W (m+1) z)):=fun W hW hs=>H _ _ W hW (X.grew hW) (Y.grew hW) hs;clear h H X Y;have mo:=follows;obtain⟨c,D⟩:=Rj w;rcases hs with rfl|rfl|rfl|rfl|rfl|rfl|rfl|rfl|rfl|rfl
 all_goals
  simp only[Cc,List.getElem?_cons_zero,List.getElem?_cons_succ,Option.some.injEq,Prod.mk.injEq] at hi;obtain⟨V,-,-⟩:=hi;obtain rfl:=Gt V;clear V;go_enter func22,ntmps22
  go_wp2_with fail
  generalize w.alloc _=W0 at c D |-;refine(I.out W0).mono ?_;rintro e Z ⟨rfl,rfl⟩;obtain⟨d0,d1,d2,d3,d4⟩:=A9 c.out.below d K L M N O;obtain⟨k0,k1,k2,k3,k4⟩:=A9 c.out.below d Q R S T U;clear K L M N O Q R S T U I;go_wp2_with fail
  have zl:=Ad8 d c.out.below.size;have zz:=Aa D.out;obtain⟨y0,y1,y2,y3,y4⟩:=A9 (Ac.refl Z).drew.below zl d0 d1 d2 d3 d4;obtain⟨y5,y6,y7,y8,y9⟩:=A9 (Ac.refl Z).drew.below zl k0 k1 k2 k3 k4;go_region_with (go_at_call 50;refine(HH.out _ ?_ ?_).mono ?_;exact c.out.drew;exact zz;rintro e A ⟨t,rfl,E,F⟩;obtain⟨l,f,j,g,o,q,p,rfl,-,-,-,-⟩:=id F;have r:Hid _:=Ac1 E D.out;have B:Hid (Ref _ _ _ _ _):=F;have L2:Hid (Below w.heap.size w A):=(c.out.drew).below.trans (E.mono (c.out.drew).below.size);obtain⟨r0,r1,r2,r3,r4⟩:=Ah r.out;obtain⟨s0,s1,s2,s3,s4⟩:=Ax r.out;have zw:=Aa r.out;clear E F)
  all_goals
   have G:Hid (Aw P w (m+1) z (.returned (.agg #[.int .i64 z.kind,.int .i64 z.int,.string l,.slice f j g,.slice o q p])) (Ao A w.heap.size 0 (.int .i64 z.kind) (.int .i64 z.int) (.string l) (.slice f j g) (.slice o q p))):=Ka L2.out B.out;have J:Hid _:=Bc r.out (.int .i64 z.kind) (.int .i64 z.int) (.string l) (.slice f j g) (.slice o q p);change Exit.then _ _ _ _ (Ao A w.heap.size 0 (.int .i64 z.kind) (.int .i64 z.int) (.string l) (.slice f j g) (.slice o q p));generalize Ao A w.heap.size 0 (.int .i64 z.kind) (.int .i64 z.int) (.string l) (.slice f j g) (.slice o q p)=WZ at G J |-;go_wp2_with fail
   obtain⟨t0,t1,t2,t3,t4⟩:=Ah J.out;exact Ae2 (by simp[results,results22,go_sem,t0,t1,t2,t3,t4]) rfl G.out
end Go.Proofs.YtdpeliifdlhhkaaGreatDoor.Sx
