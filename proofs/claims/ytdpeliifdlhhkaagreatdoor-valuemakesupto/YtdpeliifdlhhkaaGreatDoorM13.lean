/- The reference: numbers. -/
import Derived.Test.YtdpeliifdlhhkaaGreatDoorM11
namespace Go.Proofs.YtdpeliifdlhhkaaGreatDoor.Sx
open Go.RowKit Go.Sort Tryz
set_option maxRecDepth 100000
set_option maxHeartbeats 8000000
/-- three new blocks of five cells -/
theorem Qf (w:World)(xs ys zs:Array Value)(t:TypeId):Hid (Ac w (((w.alloc (.cells xs t)).alloc (.cells ys t)).alloc (.cells zs t)))/\Hid ((((w.alloc (.cells xs t)).alloc (.cells ys t)).alloc (.cells zs t)).heap[w.heap.size]?=some (.cells xs t (0,0)))/\Hid ((((w.alloc (.cells xs t)).alloc (.cells ys t)).alloc (.cells zs t)).heap[w.heap.size+1]?=some (.cells ys t (0,0)))/\Hid ((((w.alloc (.cells xs t)).alloc (.cells ys t)).alloc (.cells zs t)).heap[w.heap.size+1+1]?=some (.cells zs t (0,0))) :=
 ⟨(((Ac.refl w).alloc _).alloc _).alloc _,Ac1 (((Ac.refl _).alloc _).alloc _).below (Af rfl),Ac1 ((Ac.refl _).alloc _).below (Af (by simp)),Af (by simp)⟩
theorem A9 {w W:World}{B b off:Nat}{u0 u1 u2 u3 u4:Option Value}(h:Below B w W)(hlt:b<B)(e0:w.cell? ⟨b,off,none⟩=u0)(e1:w.cell? ⟨b,off+1,none⟩=u1)(e2:w.cell? ⟨b,off+2,none⟩=u2)(e3:w.cell? ⟨b,off+3,none⟩=u3)(e4:w.cell? ⟨b,off+4,none⟩=u4) :
  W.cell? ⟨b,off,none⟩=u0/\W.cell? ⟨b,off+1,none⟩=u1/\W.cell? ⟨b,off+2,none⟩=u2/\W.cell? ⟨b,off+3,none⟩=u3/\W.cell? ⟨b,off+4,none⟩=u4 :=
 ⟨(h.cell hlt).trans e0,(h.cell hlt).trans e1,(h.cell hlt).trans e2,(h.cell hlt).trans e3,(h.cell hlt).trans e4⟩
theorem Mp {w:World}{b off:Nat}{u0 u1 u2 u3 u4:Value}(hlt:b<w.heap.size)(e0:w.cell? ⟨b,off,none⟩=some u0)(e1:w.cell? ⟨b,off+1,none⟩=some u1)(e2:w.cell? ⟨b,off+2,none⟩=some u2)(e3:w.cell? ⟨b,off+3,none⟩=some u3)(e4:w.cell? ⟨b,off+4,none⟩=some u4) :
  (∀n os,(grow (w.drewN n) os).cell? ⟨b,off,none⟩=some u0)/\(∀n os,(grow (w.drewN n) os).cell? ⟨b,off+1,none⟩=some u1)/\(∀n os,(grow (w.drewN n) os).cell? ⟨b,off+2,none⟩=some u2)/\(∀n os,(grow (w.drewN n) os).cell? ⟨b,off+3,none⟩=some u3)/\(∀n os,(grow (w.drewN n) os).cell? ⟨b,off+4,none⟩=some u4) :=
 ⟨cell_grown (a:=⟨b,off,none⟩) hlt e0,cell_grown (a:=⟨b,off+1,none⟩) hlt e1,cell_grown (a:=⟨b,off+2,none⟩) hlt e2,cell_grown (a:=⟨b,off+3,none⟩) hlt e3,cell_grown (a:=⟨b,off+4,none⟩) hlt e4⟩
theorem Wc (k:Nat):(((k:Nat):Int)==2)=decide (k=2):=by
 rw[Bool.eq_iff_iff];simp;omega
theorem Aa6 (i j:Int)(h:j=-1):wrap64 (i.tdiv j)=wrap64 (-i):=by subst h;simp
theorem Wd (i j:Int):wrap64 (i*wrap64 j)=wrap64 (i*j):=by
 unfold wrap64;have h:i*((j+9223372036854775808) % 18446744073709551616-9223372036854775808)=i*j+18446744073709551616*(-(i*((j+9223372036854775808) / 18446744073709551616))):=by
  have e:=Int.emod_def (j+9223372036854775808) 18446744073709551616;rw[e];have:i*(j+9223372036854775808-18446744073709551616*((j+9223372036854775808) / 18446744073709551616)-9223372036854775808)=i*j-18446744073709551616*(i*((j+9223372036854775808) / 18446744073709551616)):=by
   generalize (j+9223372036854775808) / 18446744073709551616=q;have b:j+9223372036854775808-18446744073709551616*q-9223372036854775808=j-18446744073709551616*q:=by omega
   rw[b,Int.mul_sub]
   congr 1
   rw[<- Int.mul_assoc,<- Int.mul_assoc,Int.mul_comm i]
  rw[this];omega
 rw[h];generalize i*j=a;generalize -(i*((j+9223372036854775808) / 18446744073709551616))=q;omega
theorem rQ (i j:Int):wrap64 (i-wrap64 j)=wrap64 (i-j):=by unfold wrap64;omega
theorem Qg (i j:Int)(hb:-9223372036854775808<=i/\i<=9223372036854775807):-9223372036854775808<=i.tmod j/\i.tmod j<=9223372036854775807:=by
 rcases Int.lt_or_le i 0 with h|h
 ·have a:=Int.neg_tmod (-i) j;rw[Int.neg_neg] at a;have b:=Int.tmod_nonneg j (show(0:Int)<=-i by omega);have c:(-i).tmod j<=-i:=by
   have:=Int.natAbs_tmod (-i) j;have:=Nat.mod_le (-i).natAbs j.natAbs;omega
  omega
 ·have b:=Int.tmod_nonneg j h;have c:i.tmod j<=i:=by
   have:=Int.natAbs_tmod i j;have:=Nat.mod_le i.natAbs j.natAbs;omega
  omega
theorem yA (i j:Int)(hb:-9223372036854775808<=i/\i<=9223372036854775807):i.tmod j=wrap64 (i-wrap64 (j*wrap64 (i.tdiv j))):=by
 rw[Wd,rQ];have a:i-j*i.tdiv j=i.tmod j:=by have:=Int.tmod_add_mul_tdiv i j;omega
 rw[a];have:=Qg i j hb;unfold wrap64;omega
theorem Aa7 (i j:Int)(h:j=-1)(hb:-9223372036854775808<=i/\i<=9223372036854775807):i.tmod j=wrap64 (i-wrap64 (j*wrap64 (-i))):=by
 rw[yA i j hb,Wd,Wd];subst h;simp
theorem aV (n:Nat)(P:Nat->Prop)(w:World)(x y:Ag (AV n))(u v:Value)(hx:Ref P w (n+1) x u)(hy:Ref P w (n+1) y v)(s0:ByteArray)(b:Bool)(hs:s0=⟨#[60]⟩/\decide (x.int<y.int)=b\/s0=⟨#[60,61]⟩/\decide (x.int<=y.int)=b\/s0=⟨#[62]⟩/\decide (x.int > y.int)=b\/s0=⟨#[62,61]⟩/\decide (x.int >= y.int)=b):Calls prog 50 #[.string s0,u,v] w fun e w'=>e=.returned (.agg #[.int .i64 1,.int .i64 (if decide (x.kind=2)&&decide (y.kind=2)&&b then 1 else 0),.string ⟨#[]⟩,.slice none 0 0,.slice none 0 0])/\Ac w w':=by
 obtain⟨s,M,O,N,R,T,S,rfl,-,-,-,-⟩:=id hx;obtain⟨Q,k,m,l,o,t,r,rfl,-,-,-,-⟩:=id hy;clear hx hy;have U:=follows;obtain⟨g,A,B,i⟩:=Qf w #[.int .i64 x.kind,.int .i64 x.int,.string s,.slice M O N,.slice R T S] #[.int .i64 y.kind,.int .i64 y.int,.string Q,.slice k m l,.slice o t r] #[.int .i64 0,.int .i64 0,.string ⟨#[]⟩,.slice none 0 0,.slice none 0 0] 30;clear A B;have F:=Wc x.kind;have G:=Wc y.kind;have a:Hid (∀(W:World)(c:Bool),c=(decide (x.kind=2)&&decide (y.kind=2)&&b)->Calls prog 88 #[.bool c] W fun e w'=>e=.returned (.agg #[.int .i64 1,.int .i64 (if decide (x.kind=2)&&decide (y.kind=2)&&b then 1 else 0),.string ⟨#[]⟩,.slice none 0 0,.slice none 0 0])/\Ac W w'):=fun W c e=>by rw[<- e];exact Ls c W
 generalize (if decide (x.kind=2)&&decide (y.kind=2)&&b then(1:Int) else 0)=D at a |-;generalize decide (x.kind=2)=p at a F;generalize decide (y.kind=2)=q at a G;rcases hs with⟨rfl,d⟩|⟨rfl,d⟩|⟨rfl,d⟩|⟨rfl,d⟩
 all_goals
  have C:Hid _:=d;clear d;cases p<;>cases q
  all_goals
   go_enter func50,ntmps50
   go_wp2_with fail
   generalize ((w.alloc _).alloc _).alloc _=W0 at g i |-;refine(a.out W0 _ (by first|rfl|simpa using C.out)).mono ?_;rintro e z ⟨rfl,j⟩;have f:Hid _:=Ac1 j.below i.out;have h:Hid (Ac w (Ao z (w.heap.size+1+1) 0 (.int .i64 1) (.int .i64 D) (.string ⟨#[]⟩) (.slice none 0 0) (.slice none 0 0))):=Lt (g.out.trans j) (by omega) 0 _ _ _ _ _;have E:Hid _:=Bc f.out (.int .i64 1) (.int .i64 D) (.string ⟨#[]⟩) (.slice none 0 0) (.slice none 0 0);clear j g i;have zw:=Aa f.out;obtain⟨V,X,Y,Z,r4⟩:=Ah f.out;obtain⟨s0,s1,s2,s3,s4⟩:=Ax f.out;go_wp2_with fail
   obtain⟨H,I,J,K,L⟩:=Ah E.out;change bodyPost _ _ _ _ _ (Ao z (w.heap.size+1+1) 0 (.int .i64 1) (.int .i64 D) (.string ⟨#[]⟩) (.slice none 0 0) (.slice none 0 0));exact Ae2 (v:=.agg #[.int .i64 1,.int .i64 D,.string ⟨#[]⟩,.slice none 0 0,.slice none 0 0]) (by simp[results,results50,go_sem,H,I,J,K,L]) rfl ⟨rfl,h.out⟩
theorem aW (n:Nat)(P:Nat->Prop)(w:World)(x y:Ag (AV n))(u v:Value)(hx:Ref P w (n+1) x u)(hy:Ref P w (n+1) y v)(s0:ByteArray)(D:Int)(hs:s0=⟨#[43]⟩/\wrap64 (x.int+y.int)=D\/s0=⟨#[45]⟩/\wrap64 (x.int-y.int)=D\/s0=⟨#[42]⟩/\wrap64 (x.int*y.int)=D):Calls prog 50 #[.string s0,u,v] w fun e w'=>e=.returned (if x.kind=2/\y.kind=2 then .agg #[.int .i64 2,.int .i64 D,.string ⟨#[]⟩,.slice none 0 0,.slice none 0 0] else Bk)/\Ac w w':=by
 obtain⟨s,O,S,Q,U,X,V,rfl,-,-,-,-⟩:=id hx;obtain⟨T,l,o,m,r,z,t,rfl,-,-,-,-⟩:=id hy;clear hx hy;have Y:=follows;obtain⟨b,C,E,h⟩:=Qf w #[.int .i64 x.kind,.int .i64 x.int,.string s,.slice O S Q,.slice U X V] #[.int .i64 y.kind,.int .i64 y.int,.string T,.slice l o m,.slice r z t] #[.int .i64 0,.int .i64 0,.string ⟨#[]⟩,.slice none 0 0,.slice none 0 0] 30;clear C E;have H:=Wc x.kind;have I:=Wc y.kind;have a:Hid (∀(W:World)(i:Int),i=D->Calls prog 86 #[.int .i64 i] W fun e w'=>e=.returned (.agg #[.int .i64 2,.int .i64 D,.string ⟨#[]⟩,.slice none 0 0,.slice none 0 0])/\Ac W w'):=fun W i e=>by rw[e];exact Gq D W
 obtain⟨R,j⟩:∃R,(if x.kind=2/\y.kind=2 then .agg #[.int .i64 2,.int .i64 D,.string ⟨#[]⟩,.slice none 0 0,.slice none 0 0] else Bk)=R:=⟨_,rfl⟩;rw[j];have A:(if (decide (x.kind=2)&&decide (y.kind=2))=true then .agg #[.int .i64 2,.int .i64 D,.string ⟨#[]⟩,.slice none 0 0,.slice none 0 0] else Bk)=R:=by simpa only[Bool.and_eq_true,decide_eq_true_eq] using j
 have c:Hid _:=A;clear j A;generalize decide (x.kind=2)=p at c H;generalize decide (y.kind=2)=q at c I;rcases hs with⟨rfl,f⟩|⟨rfl,f⟩|⟨rfl,f⟩
 all_goals
  have F:Hid _:=f;clear f;cases p<;>cases q
  all_goals
   go_enter func50,ntmps50
   go_wp2_with fail
   first
   | exact Ae2 (v:=Bk) (by simp[results,results50,go_sem,Bk]) rfl ⟨by rw[<- c.out];rfl,b.out⟩
   | skip
  generalize ((w.alloc _).alloc _).alloc _=W0 at b h |-;refine(a.out W0 _ F.out).mono ?_;rintro e B ⟨rfl,k⟩;have d:Hid _:=Ac1 k.below h.out;have g:Hid (Ac w (Ao B (w.heap.size+1+1) 0 (.int .i64 2) (.int .i64 D) (.string ⟨#[]⟩) (.slice none 0 0) (.slice none 0 0))):=Lt (b.out.trans k) (by omega) 0 _ _ _ _ _;have G:Hid _:=Bc d.out (.int .i64 2) (.int .i64 D) (.string ⟨#[]⟩) (.slice none 0 0) (.slice none 0 0);clear k b h;have zw:=Aa d.out;obtain⟨Z,r1,r2,r3,r4⟩:=Ah d.out;obtain⟨s0,s1,s2,s3,s4⟩:=Ax d.out;go_wp2_with fail
  obtain⟨J,K,L,M,N⟩:=Ah G.out;change bodyPost _ _ _ _ _ (Ao B (w.heap.size+1+1) 0 (.int .i64 2) (.int .i64 D) (.string ⟨#[]⟩) (.slice none 0 0) (.slice none 0 0));exact Ae2 (v:=.agg #[.int .i64 2,.int .i64 D,.string ⟨#[]⟩,.slice none 0 0,.slice none 0 0]) (by simp[results,results50,go_sem,J,K,L,M,N]) rfl ⟨by rw[<- c.out];rfl,g.out⟩
theorem Q6 (n:Nat)(P:Nat->Prop)(w:World)(x y:Ag (AV n))(u v:Value)(hx:Ref P w (n+1) x u)(hy:Ref P w (n+1) y v)(s0:ByteArray)(D:Int)(hs:s0=⟨#[47]⟩/\wrap64 (x.int.tdiv y.int)=D\/s0=⟨#[37]⟩/\x.int.tmod y.int=D/\-9223372036854775808<=x.int/\x.int<=9223372036854775807):Calls prog 50 #[.string s0,u,v] w fun e w'=>e=.returned (if x.kind=2/\y.kind=2/\y.int≠0 then .agg #[.int .i64 2,.int .i64 D,.string ⟨#[]⟩,.slice none 0 0,.slice none 0 0] else Bk)/\Ac w w':=by
 obtain⟨s,X,Z,Y,va,vl,vc,rfl,-,-,-,-⟩:=id hx;obtain⟨s',o,A,z,B,E,C,rfl,-,-,-,-⟩:=id hy;clear hx hy;have mo:=follows;obtain⟨d,I,J,j⟩:=Qf w #[.int .i64 x.kind,.int .i64 x.int,.string s,.slice X Z Y,.slice va vl vc] #[.int .i64 y.kind,.int .i64 y.int,.string s',.slice o A z,.slice B E C] #[.int .i64 0,.int .i64 0,.string ⟨#[]⟩,.slice none 0 0,.slice none 0 0] 30;clear I J;have L:=Wc x.kind;have M:=Wc y.kind;have b:Hid (∀(W:World)(i:Int),i=D->Calls prog 86 #[.int .i64 i] W fun e w'=>e=.returned (.agg #[.int .i64 2,.int .i64 D,.string ⟨#[]⟩,.slice none 0 0,.slice none 0 0])/\Ac W w'):=fun W i e=>by rw[e];exact Gq D W
 have N:(y.int==0)=decide (y.int=0):=by rw[Bool.eq_iff_iff];simp
 have O:(y.int==-1)=decide (y.int=-1):=by rw[Bool.eq_iff_iff];simp
 obtain⟨R,k⟩:∃R,(if x.kind=2/\y.kind=2/\y.int≠0 then .agg #[.int .i64 2,.int .i64 D,.string ⟨#[]⟩,.slice none 0 0,.slice none 0 0] else Bk)=R:=⟨_,rfl⟩;rw[k];have G:(if (decide (x.kind=2)&&decide (y.kind=2)&&!decide (y.int=0))=true then .agg #[.int .i64 2,.int .i64 D,.string ⟨#[]⟩,.slice none 0 0,.slice none 0 0] else Bk)=R:=by simpa only[Bool.and_eq_true,decide_eq_true_eq,Bool.not_eq_true',decide_eq_false_iff_not,and_assoc,ne_eq] using k
 have c:Hid _:=G;clear k G;have F:Hid (decide (y.int=0)=false->¬y.int=0):=of_decide_eq_false;have g:Hid (decide (y.int=-1)=true->y.int=-1):=of_decide_eq_true;generalize decide (x.kind=2)=p at c L;generalize decide (y.kind=2)=q at c M;generalize decide (y.int=0)=r at c F N;generalize decide (y.int=-1)=t at g O;rcases hs with⟨rfl,l⟩|⟨rfl,l⟩
 all_goals
  have a:Hid _:=l;clear l;cases p<;>cases q<;>cases r<;>cases t
  all_goals
   try have h3:=F.out rfl
   go_enter func50,ntmps50
   go_wp2_with fail
   first
   | exact Ae2 (v:=Bk) (by simp[results,results50,go_sem,Bk]) rfl ⟨by rw[<- c.out];rfl,d.out⟩
   | skip
  all_goals
   generalize ((w.alloc _).alloc _).alloc _=W0 at d j |-;refine(b.out W0 _ (by first|exact a.out|exact(Aa6 x.int y.int (g.out (by simp))).symm.trans a.out|exact(Aa7 x.int y.int (g.out (by simp)) a.out.2).symm.trans a.out.1|exact(yA x.int y.int a.out.2).symm.trans a.out.1)).mono ?_;rintro e H ⟨rfl,m⟩;have f:Hid _:=Ac1 m.below j.out;have h:Hid (Ac w (Ao H (w.heap.size+1+1) 0 (.int .i64 2) (.int .i64 D) (.string ⟨#[]⟩) (.slice none 0 0) (.slice none 0 0))):=Lt (d.out.trans m) (by omega) 0 _ _ _ _ _;have K:Hid _:=Bc f.out (.int .i64 2) (.int .i64 D) (.string ⟨#[]⟩) (.slice none 0 0) (.slice none 0 0);clear m d j;have zw:=Aa f.out;obtain⟨r0,r1,r2,r3,r4⟩:=Ah f.out;obtain⟨s0,s1,s2,s3,s4⟩:=Ax f.out;go_wp2_with fail
   obtain⟨Q,S,T,U,V⟩:=Ah K.out;change bodyPost _ _ _ _ _ (Ao H (w.heap.size+1+1) 0 (.int .i64 2) (.int .i64 D) (.string ⟨#[]⟩) (.slice none 0 0) (.slice none 0 0));exact Ae2 (v:=.agg #[.int .i64 2,.int .i64 D,.string ⟨#[]⟩,.slice none 0 0,.slice none 0 0]) (by simp[results,results50,go_sem,Q,S,T,U,V]) rfl ⟨by rw[<- c.out];rfl,h.out⟩
end Go.Proofs.YtdpeliifdlhhkaaGreatDoor.Sx
