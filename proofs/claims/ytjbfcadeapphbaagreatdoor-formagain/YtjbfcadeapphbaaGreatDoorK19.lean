/- The writer: operators: signs between two parts. -/
import Derived.Test.YtjbfcadeapphbaaGreatDoorK18
namespace Go.Proofs.YtjbfcadeapphbaaGreatDoor.Sx
set_option maxRecDepth 100000
set_option maxHeartbeats 1000000
open Go.RowKit Go.Sort
theorem Nd {n:Nat}(hW:WrE n)(B b be sort at' len cap:Nat)(l:List UInt8)(w:World)(op nm:ByteArray)(i:Int)(pa:Option Addr)(ka:PX)(he:Ao w be sort op nm i at' pa len cap)(hbe:be<B)(hr:Ca (·<B) w (A7 (·<B) w n) pa len [ka])(hB:Bld B b l w)(q:Nat)(ho:Bd op.data.toList=q)(hq:q≠14)
  (hlen:l.length+(op.data.toList++32::A9 ka q).length<=140737488355328) :
  Calls Tryz.prog 70 #[.pointer (some ⟨b,0,none⟩),.pointer (some ⟨be,0,none⟩)] w (Av B b l (op.data.toList++32::A9 ka q) w):=by
 have g:Hid (Ao w be sort op nm i at' pa len cap):=he;have D:Hid (WrE n):=hW;have J:Hid (Bld B b l w):=hB;have f:Hid (Ad B b l ([]:List UInt8) w w):=Ad.nil hB;have K:=follows;have v:Hid (l.length+(op.data.toList++32::A9 ka q).length<=140737488355328):=hlen;obtain⟨rfl,x,t,s,r,F,I,y,z⟩:=kD hr;subst s;have j:Hid (A7 (·<B) w n _ _):=z;have d:Hid (∀W,Kp B b w W->W.cell? ⟨x,t,none⟩=some (.pointer (some ⟨I,0,none⟩))):=fun W k=>(World.cell?_of_block (w:=w) (k.1.block x r)).trans y;clear y z;clear he hW hB hr hlen;have C:Hid (Calls Tryz.prog 65 #[.string op] w fun e w'=>e=.returned (.int .i64 (q:Int))/\w'=w):=by have:=Er op w;rw[ho] at this;exact this
 have G:((q:Int) != 14)=true:=by rw[bne_iff_ne];omega
 clear ho hq;go_enter Tryz.func70,Tryz.ntmps70
 have m:=Aa (g.out.kp f.out.kp hbe) 1;have o:=Aa (g.out.kp f.out.kp hbe) 5;have u:=d.out _ f.out.kp;go_wp2_with (go_at_call 65;refine C.out.mono ?_;rintro e L ⟨rfl,a⟩;cases a)
 clear m o u;refine(Ar B b _ w _ [op,⟨#[32]⟩] 2 (op.data.toList++[32]) rfl rfl (by decide) (by simp[Cs]) f.out.1 (by have p:=v.out;simp only[List.length_append,List.length_cons,List.length_nil] at p |-;omega)).mono ?_;rintro e A ⟨rfl,a⟩;have c:Hid (Ad B b l (([]:List UInt8)++(op.data.toList++[32])) w A):=f.out.put a rfl;clear a;have m:=Aa (g.out.kp c.out.kp hbe) 1;have o:=Aa (g.out.kp c.out.kp hbe) 5;have u:=d.out _ c.out.kp;go_wp2_with fail
 clear m o u;refine(Fv D.out B b _ A ka _ q (j.out.kp c.out.kp) c.out.1 (by have p:=v.out;simp only[List.length_append,List.length_cons,List.length_nil] at p |-;omega)).mono ?_;rintro e H ⟨rfl,a⟩;have E:Hid (Ad B b l ((([]:List UInt8)++(op.data.toList++[32]))++A9 ka q) w H):=c.out.put a rfl;clear a;go_wp2_with fail
 refine bodyPost_ret (results_none rfl _ _ _) rfl ?_;exact⟨rfl,by have h:=E.out;simpa using h⟩
theorem Tg {n:Nat}(hW:WrE n)(B b be sort at' len cap:Nat)(l:List UInt8)(w:World)(op nm:ByteArray)(i:Int)(pa:Option Addr)(kids:List PX)(he:Ao w be sort op nm i at' pa len cap)(hr:Ca (·<B) w (A7 (·<B) w n) pa len kids)(hB:Bld B b l w)(ho:Bd op.data.toList=14)
  (hlen:l.length+(Ed op.data.toList kids).tx.length<=140737488355328) :
  Calls Tryz.prog 70 #[.pointer (some ⟨b,0,none⟩),.pointer (some ⟨be,0,none⟩)] w (Av B b l (Ed op.data.toList kids).tx w):=by
 have k:Hid (Calls Tryz.prog 65 #[.string op] w fun e w'=>e=.returned (.int .i64 14)/\w'=w):=by have:=Er op w;rw[ho] at this;exact this
 have c:(op++⟨#[40]⟩:ByteArray).data.toList++(C0 kids++(⟨#[41]⟩:ByteArray).data.toList)=(Ed op.data.toList kids).tx:=by simp[Ed,ByteArray.data_append]
 have j:Hid (∀W,Ag w W->Calls Tryz.prog 32 #[.pointer (some ⟨b,0,none⟩),.string (op++⟨#[40]⟩),.slice pa len cap,.string ⟨#[41]⟩] W (Av B b l (Ed op.data.toList kids).tx W)):=fun W hg=>by
  have:=Kh hW B b l W (op++⟨#[40]⟩) ⟨#[41]⟩ pa len cap kids (hr.kp (Kp.grew (b:=b) hg hB.low)) (hB.grew hg) (by rw[c];exact hlen);rw[c] at this;exact this
 have h:Hid (Bld B b l w):=hB;have f:Hid (Ao w be sort op nm i at' pa len cap):=he;have o:=Ab he;have g:op.size<=140737488355328:=by simp[Ed] at hlen;omega
 have d:op.size<=9223372036854775806:=by omega
 have q:=Aa he 1;have r:=Aa he 5;have u:=follows;clear he hr hB hlen hW c ho;go_enter Tryz.func70,Tryz.ntmps70
 go_wp2_with (go_at_call 65;refine k.out.mono ?_;rintro e v ⟨rfl,a⟩;cases a)
 have s:=Aa (f.out.of (P:=fun _=>True) (Fr.grew (Ag.refl w).drew) trivial) 1;have t:=Aa (f.out.of (P:=fun _=>True) (Fr.grew (Ag.refl w).drew) trivial) 5;go_region_with (go_at_call 32;refine(j.out _ (Ag.refl w).drew).mono ?_;rintro e p ⟨rfl,a⟩;have m:Hid (Ad B b l (Ed op.data.toList kids).tx w p):=⟨a.1,(Kp.grew (Ag.refl w).drew h.out.low).trans a.2⟩;clear a)
 all_goals go_wp2_with fail
 all_goals go_end0
 all_goals exact⟨rfl,m.out⟩
end Go.Proofs.YtjbfcadeapphbaaGreatDoor.Sx
namespace Go.Proofs.YtjbfcadeapphbaaGreatDoor.Sx
set_option maxRecDepth 100000
set_option maxHeartbeats 1000000
open Go.RowKit Go.Sort
attribute [local go_sem] Kg
theorem Pl {n:Nat}(hW:WrE n)(B b be sort at' len cap:Nat)(l:List UInt8)(w:World)(op nm:ByteArray)(i:Int)(pa:Option Addr)(ka kb:PX)(he:Ao w be sort op nm i at' pa len cap)(hbe:be<B)(hr:Ca (·<B) w (A7 (·<B) w n) pa len [ka,kb])(hB:Bld B b l w)(hj:Ae op.data.toList≠0)
  (hlen:l.length+((I0 op.data.toList ka kb).tx).length<=140737488355328) :
  Calls Tryz.prog 35 #[.pointer (some ⟨b,0,none⟩),.pointer (some ⟨be,0,none⟩)] w (Av B b l ((I0 op.data.toList ka kb).tx) w):=by
 have p:Hid (Ao w be sort op nm i at' pa len cap):=he;have HW:Hid (WrE n):=hW;have HB:Hid (Bld B b l w):=hB;have F:Hid (Ad B b l ([]:List UInt8) w w):=Ad.nil hB;have mo:=follows;have Q:Hid (l.length+((I0 op.data.toList ka kb).tx).length<=140737488355328):=hlen;obtain⟨rfl,q,c,a0,N,O,x0,q0,r0,x1,q1,r1⟩:=dT hr;subst a0;have U:Hid (A7 (·<B) w n _ _):=r0;have f:Hid (∀W,Kp B b w W->W.cell? ⟨q,c,none⟩=some (.pointer (some ⟨x0,0,none⟩))):=fun W k=>(World.cell?_of_block (w:=w) (k.1.block q N)).trans q0;have V:Hid (A7 (·<B) w n _ _):=r1;have g:Hid (∀W,Kp B b w W->W.cell? ⟨q,c+1,none⟩=some (.pointer (some ⟨x1,0,none⟩))):=fun W k=>(World.cell?_of_block (w:=w) (k.1.block q N)).trans q1;clear q0 r0 q1 r1;clear he hW hB hr hlen;obtain⟨a,s⟩:∃a,Ae op.data.toList=a:=⟨_,rfl⟩;rw[s] at hj;have HJ:Hid (Calls Tryz.prog 67 #[.string op] w fun e w'=>e=.returned (.agg #[.int .i64 (a:Int),.int .i64 (Bh a:Int),.int .i64 (Bg a:Int)])/\Ag w w'):=by
  have:=Hd op w;rw[s] at this;unfold Jn at this;rw[if_neg hj] at this;exact this
 simp only[I0,s] at Q |-;have k0:((a:Int) != -1)=true:=by rw[bne_iff_ne];omega
 clear hj s;go_enter Tryz.func35,Tryz.ntmps35
 have Y:=Aa (p.out.kp F.out.kp hbe) 1;have c2:=Aa (p.out.kp F.out.kp hbe) 2;have K:=Aa (p.out.kp F.out.kp hbe) 5;have C:=f.out _ F.out.kp;have D:=g.out _ F.out.kp;go_wp2_with (go_at_call 67;refine HJ.out.mono ?_;rintro e A ⟨rfl,hg⟩;have S:Hid (Ag w A):=hg;clear hg)
 clear Y c2 K C D;have v:Hid (Ad B b l ([]:List UInt8) w (A.alloc (.cells #[.int .i64 (a:Int),.int .i64 (Bh a:Int),.int .i64 (Bg a:Int)] 130))):=F.out.grew (S.out.alloc _);have G:Hid ((A.alloc (.cells #[.int .i64 (a:Int),.int .i64 (Bh a:Int),.int .i64 (Bg a:Int)] 130)).heap[A.heap.size]?=some (.cells #[.int .i64 (a:Int),.int .i64 (Bh a:Int),.int .i64 (Bg a:Int)] 130 (0,0))):=Aj rfl;have Z:b<A.heap.size:=Nat.lt_of_lt_of_le HB.out.lt S.out.below.size;clear S HJ;generalize A.alloc (.cells #[.int .i64 (a:Int),.int .i64 (Bh a:Int),.int .i64 (Bg a:Int)] 130)=v0 at v G |-;obtain⟨d,M⟩:∃d,A.heap.size=d:=⟨_,rfl⟩;rw[M] at G Z |-;clear M;have z:d≠b:=by omega
 have K:=Aa (p.out.kp v.out.kp hbe) 5;have C:=f.out _ v.out.kp;have D:=g.out _ v.out.kp;have y:=Ab (p.out.kp v.out.kp hbe);have z1:=Aa G.out 1;have j:=Ab G.out;have m:q<v0.heap.size:=Nat.lt_of_lt_of_le O v.out.kp.1.size;have r:Hid (Ad B b l ([]:List UInt8) w v0.drew):=v.out.grew (Ag.refl _).drew;have H:Hid (v0.drew.heap[d]?=_):=((Fr.grew (P:=fun _=>True) (Ag.refl v0).drew).block d j trivial).trans G.out;go_wp2_with fail
 go_region_held3 (fun w'=>w'.cell? ⟨be,5,none⟩=some (.slice (some ⟨q,c,none⟩) 2 cap)/\w'.cell? ⟨q,c,none⟩=some (.pointer (some ⟨x0,0,none⟩))/\w'.cell? ⟨d,1,none⟩=some (.int .i64 (Bh a:Int))) (first|(refine⟨?_,?_,?_⟩<;>assumption)|go_keep)
   ((go_at_call 66;refine(Fv HW.out B b _ v0.drew ka _ (Bh a) (U.out.kp r.out.kp) r.out.1 (by have L:=Q.out;simp only[List.length_append,List.length_cons,List.length_nil] at L |-;omega)).mono ?_;rintro e R ⟨rfl,o⟩;have x:Hid (Ad B b l (([]:List UInt8)++A9 ka (Bh a)) w R):=r.out.put o rfl;have J:Hid (R.heap[d]?=_):=o.kp.kept (by decide) H.out z;have j5:=Aa (p.out.kp x.out.kp hbe) 5;have jy:=f.out _ x.out.kp;have jg:=Aa J.out 1;clear o))
 clear y z1 j m r H j5 jy jg K C D;have Y:=Aa (p.out.kp x.out.kp hbe) 1;have C:=f.out _ x.out.kp;have D:=g.out _ x.out.kp;go_wp2_with fail
 clear Y C D;refine(Ar B b _ R _ [⟨#[32]⟩,op,⟨#[32]⟩] 3 ([32]++op.data.toList++[32]) rfl rfl (by decide) (by simp[Cs]) x.out.1 (by have L:=Q.out;simp only[List.length_append,List.length_cons,List.length_nil] at L |-;omega)).mono ?_;rintro e t ⟨rfl,o⟩;have I:Hid (Ad _ _ _ _ R t):=o;have E:Hid (Ad B b l ((([]:List UInt8)++A9 ka (Bh a))++([32]++op.data.toList++[32])) w t):=x.out.put o rfl;clear o;have u:Hid (t.heap[d]?=_):=Kp.kept (Ad.kp I.out) (by decide) J.out z;have K:=Aa (p.out.kp E.out.kp hbe) 5;have C:=f.out _ E.out.kp;have D:=g.out _ E.out.kp;have y:=Ab (p.out.kp E.out.kp hbe);have z2:=Aa u.out 2;have j:=Ab u.out;have m:q<t.heap.size:=Nat.lt_of_lt_of_le O E.out.kp.1.size;have r:Hid (Ad B b l ((([]:List UInt8)++A9 ka (Bh a))++([32]++op.data.toList++[32])) w t.drew):=E.out.grew (Ag.refl _).drew;have H:Hid (t.drew.heap[d]?=_):=((Fr.grew (P:=fun _=>True) (Ag.refl t).drew).block d j trivial).trans u.out;go_wp2_with fail
 go_region_held3 (fun w'=>w'.cell? ⟨be,5,none⟩=some (.slice (some ⟨q,c,none⟩) 2 cap)/\w'.cell? ⟨q,c+1,none⟩=some (.pointer (some ⟨x1,0,none⟩))/\w'.cell? ⟨d,2,none⟩=some (.int .i64 (Bg a:Int))) (first|(refine⟨?_,?_,?_⟩<;>assumption)|go_keep)
   ((go_at_call 66;refine(Fv HW.out B b _ t.drew kb _ (Bg a) (V.out.kp r.out.kp) r.out.1 (by have L:=Q.out;simp only[List.length_append,List.length_cons,List.length_nil] at L |-;omega)).mono ?_;rintro e v3 ⟨rfl,o⟩;have X:Hid (Ad B b l (((([]:List UInt8)++A9 ka (Bh a))++([32]++op.data.toList++[32]))++A9 kb (Bg a)) w v3):=r.out.put o rfl;have T:Hid (v3.heap[d]?=_):=o.kp.kept (by decide) H.out z;have j5:=Aa (p.out.kp X.out.kp hbe) 5;have jy:=g.out _ X.out.kp;have jg:=Aa T.out 2;clear o))
 clear y z2 j m r H j5 jy jg K C D;go_wp2_with fail
 refine bodyPost_ret (results_none rfl _ _ _) rfl ?_;exact⟨rfl,by have h:=X.out;simpa using h⟩
end Go.Proofs.YtjbfcadeapphbaaGreatDoor.Sx
