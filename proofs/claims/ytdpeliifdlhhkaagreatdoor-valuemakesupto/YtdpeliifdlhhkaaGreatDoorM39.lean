/- The reference, over values that are handed in: its operators of truth, and two of sequences; the row of the values is not kept. -/
import Derived.Test.YtdpeliifdlhhkaaGreatDoorM38
namespace Go.Proofs.YtdpeliifdlhhkaaGreatDoor.Sx
open Go.RowKit Go.Sort Tryz
set_option maxRecDepth 100000
set_option maxHeartbeats 8000000
theorem Ot {i:Nat}{s:ByteArray}{C:World->Value->Prop}{f:Nat}(hi:Cc[i]?=some (s.data.toList,2,C))(hs:i=1/\f=49\/i=2/\f=49\/i=3/\f=49\/i=4/\f=49\/i=5/\f=49\/i=6/\f=49\/i=38/\f=54\/i=39/\f=54)(n m:Nat)(P:Nat->Prop)(w:World)(a:Option Addr)(cap:Nat)(x y:AV n){Q0:Nat->Prop}(h:Bm Q0 w (Ref P w n) a 2 [x,y])(z:AV (m+1))
  (H:∀(u v:Value)(W:World),Ac w W->Ref P W n x u->Ref P W n y v->w.heap.size<W.heap.size->Calls prog f #[.string s,u,v] W (Aw (fun k=>P k/\k≠w.heap.size) W (m+1) z)) :
  Calls prog 22 #[.string s,.slice a 2 cap] w (Aw P w (m+1) z):=by
 obtain⟨b,a0,u,v,rfl,d,f0,f1,Y,Z⟩:=Pg h;obtain⟨u0,u1,u2,u3,u4,rfl,L,M,N,O,Q⟩:=f0;obtain⟨v0,v1,v2,v3,v4,rfl,R,S,T,U,V⟩:=f1;have J:Hid (∀W,Calls prog 43 #[.string s] W (G9 W 2)):=fun W=>Ii s i _ C hi W;have HH:Hid (∀W,Ac w W->w.heap.size<W.heap.size->Calls prog f #[.string s,.agg #[u0,u1,u2,u3,u4],.agg #[v0,v1,v2,v3,v4]] W (Aw (fun k=>P k/\k≠w.heap.size) W (m+1) z)):=fun W hW hs=>H _ _ W hW (Y.grew hW) (Z.grew hW) hs;clear h H Y Z;have mo:=follows;obtain⟨c,E⟩:=Rj w;rcases hs with⟨rfl,rfl⟩|⟨rfl,rfl⟩|⟨rfl,rfl⟩|⟨rfl,rfl⟩|⟨rfl,rfl⟩|⟨rfl,rfl⟩|⟨rfl,rfl⟩|⟨rfl,rfl⟩
 all_goals
  simp only[Cc,List.getElem?_cons_zero,List.getElem?_cons_succ,Option.some.injEq,Prod.mk.injEq] at hi;obtain⟨X,-,-⟩:=hi;obtain rfl:=Gt X;clear X;go_enter func22,ntmps22
  go_wp2_with fail
  generalize w.alloc _=W0 at c E |-;refine(J.out W0).mono ?_;rintro e w1 ⟨rfl,rfl⟩;obtain⟨d0,d1,d2,d3,d4⟩:=A9 c.out.below d L M N O Q;obtain⟨k0,k1,k2,k3,k4⟩:=A9 c.out.below d R S T U V;clear L M N O Q R S T U V J;go_wp2_with fail
  have zl:=Ad8 d c.out.below.size;have zz:=Aa E.out;obtain⟨y0,y1,y2,y3,y4⟩:=A9 (Ac.refl w1).drew.below zl d0 d1 d2 d3 d4;obtain⟨y5,y6,y7,y8,y9⟩:=A9 (Ac.refl w1).drew.below zl k0 k1 k2 k3 k4;go_region_with ((first|go_at_call 49|go_at_call 54);refine(HH.out _ ?_ ?_).mono ?_;exact c.out.drew;exact zz;rintro e B ⟨t,rfl,F,G⟩;obtain⟨o,g,l,j,p,r,q,rfl,-,-,-,-⟩:=id G;have A:Hid _:=Ac1 F E.out;have D:Hid (Ref _ _ _ _ _):=G;have L2:Hid (Below w.heap.size w B):=(c.out.drew).below.trans (F.mono (c.out.drew).below.size);obtain⟨r0,r1,r2,r3,r4⟩:=Ah A.out;obtain⟨s0,s1,s2,s3,s4⟩:=Ax A.out;have zw:=Aa A.out;clear F G)
  all_goals
   have I:Hid (Aw P w (m+1) z (.returned (.agg #[.int .i64 z.kind,.int .i64 z.int,.string o,.slice g l j,.slice p r q])) (Ao B w.heap.size 0 (.int .i64 z.kind) (.int .i64 z.int) (.string o) (.slice g l j) (.slice p r q))):=Ka L2.out D.out;have K:Hid _:=Bc A.out (.int .i64 z.kind) (.int .i64 z.int) (.string o) (.slice g l j) (.slice p r q);change Exit.then _ _ _ _ (Ao B w.heap.size 0 (.int .i64 z.kind) (.int .i64 z.int) (.string o) (.slice g l j) (.slice p r q));generalize Ao B w.heap.size 0 (.int .i64 z.kind) (.int .i64 z.int) (.string o) (.slice g l j) (.slice p r q)=WZ at I K |-;go_wp2_with fail
   obtain⟨t0,t1,t2,t3,t4⟩:=Ah K.out;exact Ae2 (by simp[results,results22,go_sem,t0,t1,t2,t3,t4]) rfl I.out
end Go.Proofs.YtdpeliifdlhhkaaGreatDoor.Sx
