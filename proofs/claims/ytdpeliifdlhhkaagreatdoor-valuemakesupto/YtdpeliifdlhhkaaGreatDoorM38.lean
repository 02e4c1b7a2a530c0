/- The reference, over values that are handed in: its operators of one value; the row of the values is not kept. -/
import Derived.Test.YtdpeliifdlhhkaaGreatDoorM27
namespace Go.Proofs.YtdpeliifdlhhkaaGreatDoor.Sx
open Go.RowKit Go.Sort Tryz
set_option maxRecDepth 100000
set_option maxHeartbeats 8000000
theorem Pg {P:Nat->Prop}{w:World}{n:Nat}{a:Option Addr}{x y:AV n}{Q0:Nat->Prop}(h:Bm Q0 w (Ref P w n) a 2 [x,y]):∃b off u v,a=some ⟨b,off,none⟩/\b<w.heap.size/\Qe w b off u/\Qe w b (off+5) v/\Ref P w n x u/\Ref P w n y v:=by
 obtain⟨k,_,j|⟨b,off,rfl,c,_,d⟩⟩:=h
 ·omega
 ·obtain⟨u,e,g⟩:=d 0 x rfl;obtain⟨v,f,i⟩:=d 1 y rfl;exact⟨b,off,u,v,rfl,c,by simpa using e,by simpa using f,g,i⟩
theorem pN {P:Nat->Prop}{w:World}{n:Nat}{a:Option Addr}{x:AV n}{Q0:Nat->Prop}(h:Bm Q0 w (Ref P w n) a 1 [x]):∃b off u,a=some ⟨b,off,none⟩/\b<w.heap.size/\Qe w b off u/\Ref P w n x u:=by
 obtain⟨i,_,g|⟨b,off,rfl,c,_,e⟩⟩:=h
 ·omega
 ·obtain⟨u,d,f⟩:=e 0 x rfl;exact⟨b,off,u,rfl,c,by simpa using d,f⟩
theorem Rj (w:World):Hid (Ac w (w.alloc (.cells #[.int .i64 0,.int .i64 0,.string ⟨#[]⟩,.slice none 0 0,.slice none 0 0] 30)))/\Hid ((w.alloc (.cells #[.int .i64 0,.int .i64 0,.string ⟨#[]⟩,.slice none 0 0,.slice none 0 0] 30)).heap[w.heap.size]?=some (.cells #[.int .i64 0,.int .i64 0,.string ⟨#[]⟩,.slice none 0 0,.slice none 0 0] 30 (0,0))):=⟨(Ac.refl w).alloc _,Af rfl⟩
theorem Cg {i:Nat}{s:ByteArray}{C:World->Value->Prop}(hi:Cc[i]?=some (s.data.toList,1,C))(hs:i=0\/i=17\/i=24\/i=25\/i=26\/i=32\/i=33\/i=35\/i=36\/i=37)(n m:Nat)(P:Nat->Prop)(w:World)(a:Option Addr)(cap:Nat)(x:AV n){Q0:Nat->Prop}(h:Bm Q0 w (Ref P w n) a 1 [x])(z:AV (m+1))
  (H:∀(u:Value)(W:World),Ac w W->Ref P W n x u->w.heap.size<W.heap.size->Calls prog 48 #[.string s,u] W (Aw (fun k=>P k/\k≠w.heap.size) W (m+1) z)) :
  Calls prog 22 #[.string s,.slice a 1 cap] w (Aw P w (m+1) z):=by
 obtain⟨b,T,u,rfl,d,S,O⟩:=pN h;obtain⟨u0,u1,u2,u3,u4,rfl,I,J,K,L,M⟩:=S;have F:Hid (∀W,Calls prog 43 #[.string s] W (G9 W 1)):=fun W=>Ii s i _ C hi W;have Q:Hid (∀W,Ac w W->w.heap.size<W.heap.size->Calls prog 48 #[.string s,.agg #[u0,u1,u2,u3,u4]] W (Aw (fun k=>P k/\k≠w.heap.size) W (m+1) z)):=fun W hW hs=>H _ W hW (O.grew hW) hs;clear h H O;have mo:=follows;obtain⟨c,A⟩:=Rj w;rcases hs with rfl|rfl|rfl|rfl|rfl|rfl|rfl|rfl|rfl|rfl
 all_goals
  simp only[Cc,List.getElem?_cons_zero,List.getElem?_cons_succ,Option.some.injEq,Prod.mk.injEq] at hi;obtain⟨N,-,-⟩:=hi;obtain rfl:=Gt N;clear N;go_enter func22,ntmps22
  go_wp2_with fail
  generalize w.alloc _=W0 at c A |-;refine(F.out W0).mono ?_;rintro e w1 ⟨rfl,rfl⟩;obtain⟨d0,d1,d2,d3,d4⟩:=A9 c.out.below d I J K L M;clear I J K L M F;go_wp2_with fail
  have zl:=Ad8 d c.out.below.size;have zz:=Aa A.out;refine(Q.out w1 c.out zz).mono ?_;rintro e v ⟨t,rfl,B,D⟩;obtain⟨l,f,j,g,o,q,p,rfl,-,-,-,-⟩:=id D;have r:Hid _:=Ac1 B A.out;have y:Hid (Ref _ _ _ _ _):=D;have R:Hid (Below w.heap.size w v):=(c.out).below.trans (B.mono (c.out).below.size);obtain⟨r0,r1,r2,r3,r4⟩:=Ah r.out;obtain⟨s0,s1,s2,s3,s4⟩:=Ax r.out;have zw:=Aa r.out;clear B D;have E:Hid (Aw P w (m+1) z (.returned (.agg #[.int .i64 z.kind,.int .i64 z.int,.string l,.slice f j g,.slice o q p])) (Ao v w.heap.size 0 (.int .i64 z.kind) (.int .i64 z.int) (.string l) (.slice f j g) (.slice o q p))):=Ka R.out y.out;have G:Hid _:=Bc r.out (.int .i64 z.kind) (.int .i64 z.int) (.string l) (.slice f j g) (.slice o q p);go_wp2_with fail
  change bodyPost _ _ _ _ _ (Ao v w.heap.size 0 (.int .i64 z.kind) (.int .i64 z.int) (.string l) (.slice f j g) (.slice o q p));generalize Ao v w.heap.size 0 (.int .i64 z.kind) (.int .i64 z.int) (.string l) (.slice f j g) (.slice o q p)=WZ at E G |-;obtain⟨U,V,X,Y,Z⟩:=Ah G.out;exact Ae2 (by simp[results,results22,go_sem,U,V,X,Y,Z]) rfl E.out
theorem Lb {i:Nat}{s:ByteArray}{C:World->Value->Prop}{f:Nat}(hi:Cc[i]?=some (s.data.toList,2,C))(hs:i=28/\f=52\/i=30/\f=53)(n m:Nat)(P:Nat->Prop)(w:World)(a:Option Addr)(cap:Nat)(x y:AV n){Q0:Nat->Prop}(h:Bm Q0 w (Ref P w n) a 2 [x,y])(z:AV (m+1))
  (H:∀(u v:Value)(W:World),Ac w W->Ref P W n x u->Ref P W n y v->w.heap.size<W.heap.size->Calls prog f #[u,v] W (Aw (fun k=>P k/\k≠w.heap.size) W (m+1) z)) :
  Calls prog 22 #[.string s,.slice a 2 cap] w (Aw P w (m+1) z):=by
 obtain⟨b,a0,u,v,rfl,d,f0,f1,Y,Z⟩:=Pg h;obtain⟨u0,u1,u2,u3,u4,rfl,L,M,N,O,Q⟩:=f0;obtain⟨v0,v1,v2,v3,v4,rfl,R,S,T,U,V⟩:=f1;have J:Hid (∀W,Calls prog 43 #[.string s] W (G9 W 2)):=fun W=>Ii s i _ C hi W;have HH:Hid (∀W,Ac w W->w.heap.size<W.heap.size->Calls prog f #[.agg #[u0,u1,u2,u3,u4],.agg #[v0,v1,v2,v3,v4]] W (Aw (fun k=>P k/\k≠w.heap.size) W (m+1) z)):=fun W hW hs=>H _ _ W hW (Y.grew hW) (Z.grew hW) hs;clear h H Y Z;have mo:=follows;obtain⟨c,E⟩:=Rj w;rcases hs with⟨rfl,rfl⟩|⟨rfl,rfl⟩
 all_goals
  simp only[Cc,List.getElem?_cons_zero,List.getElem?_cons_succ,Option.some.injEq,Prod.mk.injEq] at hi;obtain⟨X,-,-⟩:=hi;obtain rfl:=Gt X;clear X;go_enter func22,ntmps22
  go_wp2_with fail
  generalize w.alloc _=W0 at c E |-;refine(J.out W0).mono ?_;rintro e w1 ⟨rfl,rfl⟩;obtain⟨d0,d1,d2,d3,d4⟩:=A9 c.out.below d L M N O Q;obtain⟨k0,k1,k2,k3,k4⟩:=A9 c.out.below d R S T U V;clear L M N O Q R S T U V J;go_wp2_with fail
  have zl:=Ad8 d c.out.below.size;have zz:=Aa E.out;obtain⟨y0,y1,y2,y3,y4⟩:=A9 (Ac.refl w1).drew.below zl d0 d1 d2 d3 d4;obtain⟨y5,y6,y7,y8,y9⟩:=A9 (Ac.refl w1).drew.below zl k0 k1 k2 k3 k4;go_region_with ((first|go_at_call 52|go_at_call 53);refine(HH.out _ ?_ ?_).mono ?_;exact c.out.drew;exact zz;rintro e B ⟨t,rfl,F,G⟩;obtain⟨o,g,l,j,p,r,q,rfl,-,-,-,-⟩:=id G;have A:Hid _:=Ac1 F E.out;have D:Hid (Ref _ _ _ _ _):=G;have L2:Hid (Below w.heap.size w B):=(c.out.drew).below.trans (F.mono (c.out.drew).below.size);obtain⟨r0,r1,r2,r3,r4⟩:=Ah A.out;obtain⟨s0,s1,s2,s3,s4⟩:=Ax A.out;have zw:=Aa A.out;clear F G)
  all_goals
   have I:Hid (Aw P w (m+1) z (.returned (.agg #[.int .i64 z.kind,.int .i64 z.int,.string o,.slice g l j,.slice p r q])) (Ao B w.heap.size 0 (.int .i64 z.kind) (.int .i64 z.int) (.string o) (.slice g l j) (.slice p r q))):=Ka L2.out D.out;have K:Hid _:=Bc A.out (.int .i64 z.kind) (.int .i64 z.int) (.string o) (.slice g l j) (.slice p r q);change Exit.then _ _ _ _ (Ao B w.heap.size 0 (.int .i64 z.kind) (.int .i64 z.int) (.string o) (.slice g l j) (.slice p r q));generalize Ao B w.heap.size 0 (.int .i64 z.kind) (.int .i64 z.int) (.string o) (.slice g l j) (.slice p r q)=WZ at I K |-;go_wp2_with fail
   obtain⟨t0,t1,t2,t3,t4⟩:=Ah K.out;exact Ae2 (by simp[results,results22,go_sem,t0,t1,t2,t3,t4]) rfl I.out
end Go.Proofs.YtdpeliifdlhhkaaGreatDoor.Sx
