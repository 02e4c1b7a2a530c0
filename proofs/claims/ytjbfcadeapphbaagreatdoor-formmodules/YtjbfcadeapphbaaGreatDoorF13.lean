/- form.Expr. -/
import Derived.Test.YtjbfcadeapphbaaGreatDoorF12
import Derived.Test.YtjbfcadeapphbaaGreatDoorShelf
import Derived.Test.YtjbfcadeapphbaaGreatDoorF04
import Derived.Test.YtjbfcadeapphbaaGreatDoorF11
namespace Go.Proofs.YtjbfcadeapphbaaGreatDoor.Sx
set_option maxRecDepth 100000
set_option maxHeartbeats 1000000
open Go.RowKit Go.Sort
attribute [local go_sem] Lb
theorem Qr {n:Nat}(hW:WrE n)(B b be sort at' len cap:Nat)(l:List UInt8)(w:World)(op nm:ByteArray)(i:Int)(pa:Option Addr)(ka kb:PX)(he:Ar w be sort op nm i at' pa len cap)(hbe:be<B)(hr:Bw (·<B) w (Bt (·<B) w n) pa len [ka,kb])(hB:Bld B b l w)(hj:Ak op.data.toList≠0)
  (hlen:l.length+((B8 op.data.toList ka kb).tx).length<=140737488355328) :
  Calls Tryz.prog 35 #[.pointer (some ⟨b,0,none⟩),.pointer (some ⟨be,0,none⟩)] w (Ay B b l ((B8 op.data.toList ka kb).tx) w):=by
 have p:Hid (Ar w be sort op nm i at' pa len cap):=he;have HW:Hid (WrE n):=hW;have HB:Hid (Bld B b l w):=hB;have F:Hid (Ae B b l ([]:List UInt8) w w):=Ae.nil hB;have mo:=follows;have Q:Hid (l.length+((B8 op.data.toList ka kb).tx).length<=140737488355328):=hlen;obtain⟨rfl,q,c,a0,N,O,x0,q0,r0,x1,q1,r1⟩:=gW hr;subst a0;have U:Hid (Bt (·<B) w n _ _):=r0;have f:Hid (∀W,Kp B b w W->W.cell? ⟨q,c,none⟩=some (.pointer (some ⟨x0,0,none⟩))):=fun W k=>(World.cell?_of_block (w:=w) (k.1.block q N)).trans q0;have V:Hid (Bt (·<B) w n _ _):=r1;have g:Hid (∀W,Kp B b w W->W.cell? ⟨q,c+1,none⟩=some (.pointer (some ⟨x1,0,none⟩))):=fun W k=>(World.cell?_of_block (w:=w) (k.1.block q N)).trans q1;clear q0 r0 q1 r1;clear he hW hB hr hlen;obtain⟨a,s⟩:∃a,Ak op.data.toList=a:=⟨_,rfl⟩;rw[s] at hj;have HJ:Hid (Calls Tryz.prog 67 #[.string op] w fun e w'=>e=.returned (.agg #[.int .i64 (a:Int),.int .i64 (Cv a:Int),.int .i64 (Ca a:Int)])/\Ad w w'):=by
  have:=H7 op w;rw[s] at this;unfold Kf at this;rw[if_neg hj] at this;exact this
 simp only[B8,s] at Q |-;have k0:((a:Int) != -1)=true:=by rw[bne_iff_ne];omega
 clear hj s;go_enter Tryz.func35,Tryz.ntmps35
 have Y:=Aa (p.out.kp F.out.kp hbe) 1;have c2:=Aa (p.out.kp F.out.kp hbe) 2;have K:=Aa (p.out.kp F.out.kp hbe) 5;have C:=f.out _ F.out.kp;have D:=g.out _ F.out.kp;go_wp2_with (go_at_call 67;refine HJ.out.mono ?_;rintro e A ⟨rfl,hg⟩;have S:Hid (Ad w A):=hg;clear hg)
 clear Y c2 K C D;have v:Hid (Ae B b l ([]:List UInt8) w (A.alloc (.cells #[.int .i64 (a:Int),.int .i64 (Cv a:Int),.int .i64 (Ca a:Int)] 130))):=F.out.grew (S.out.alloc _);have G:Hid ((A.alloc (.cells #[.int .i64 (a:Int),.int .i64 (Cv a:Int),.int .i64 (Ca a:Int)] 130)).heap[A.heap.size]?=some (.cells #[.int .i64 (a:Int),.int .i64 (Cv a:Int),.int .i64 (Ca a:Int)] 130 (0,0))):=Af rfl;have Z:b<A.heap.size:=Nat.lt_of_lt_of_le HB.out.lt S.out.below.size;clear S HJ;generalize A.alloc (.cells #[.int .i64 (a:Int),.int .i64 (Cv a:Int),.int .i64 (Ca a:Int)] 130)=v0 at v G |-;obtain⟨d,M⟩:∃d,A.heap.size=d:=⟨_,rfl⟩;rw[M] at G Z |-;clear M;have z:d≠b:=by omega
 have K:=Aa (p.out.kp v.out.kp hbe) 5;have C:=f.out _ v.out.kp;have D:=g.out _ v.out.kp;have y:=Ac (p.out.kp v.out.kp hbe);have z1:=Aa G.out 1;have j:=Ac G.out;have m:q<v0.heap.size:=Nat.lt_of_lt_of_le O v.out.kp.1.size;have r:Hid (Ae B b l ([]:List UInt8) w v0.drew):=v.out.grew (Ad.refl _).drew;have H:Hid (v0.drew.heap[d]?=_):=((Fr.grew (P:=fun _=>True) (Ad.refl v0).drew).block d j trivial).trans G.out;go_wp2_with fail
 go_region_held3 (fun w'=>w'.cell? ⟨be,5,none⟩=some (.slice (some ⟨q,c,none⟩) 2 cap)/\w'.cell? ⟨q,c,none⟩=some (.pointer (some ⟨x0,0,none⟩))/\w'.cell? ⟨d,1,none⟩=some (.int .i64 (Cv a:Int))) (first|(refine⟨?_,?_,?_⟩<;>assumption)|go_keep)
   ((go_at_call 66;refine(Gb HW.out B b _ v0.drew ka _ (Cv a) (U.out.kp r.out.kp) r.out.1 (by have L:=Q.out;simp only[List.length_append,List.length_cons,List.length_nil] at L |-;omega)).mono ?_;rintro e R ⟨rfl,o⟩;have x:Hid (Ae B b l (([]:List UInt8)++Al ka (Cv a)) w R):=r.out.put o rfl;have J:Hid (R.heap[d]?=_):=o.kp.kept (by decide) H.out z;have j5:=Aa (p.out.kp x.out.kp hbe) 5;have jy:=f.out _ x.out.kp;have jg:=Aa J.out 1;clear o))
 clear y z1 j m r H j5 jy jg K C D;have Y:=Aa (p.out.kp x.out.kp hbe) 1;have C:=f.out _ x.out.kp;have D:=g.out _ x.out.kp;go_wp2_with fail
 clear Y C D;refine(Aw B b _ R _ [⟨#[32]⟩,op,⟨#[32]⟩] 3 ([32]++op.data.toList++[32]) rfl rfl (by decide) (by simp[De]) x.out.1 (by have L:=Q.out;simp only[List.length_append,List.length_cons,List.length_nil] at L |-;omega)).mono ?_;rintro e t ⟨rfl,o⟩;have I:Hid (Ae _ _ _ _ R t):=o;have E:Hid (Ae B b l ((([]:List UInt8)++Al ka (Cv a))++([32]++op.data.toList++[32])) w t):=x.out.put o rfl;clear o;have u:Hid (t.heap[d]?=_):=Kp.kept (Ae.kp I.out) (by decide) J.out z;have K:=Aa (p.out.kp E.out.kp hbe) 5;have C:=f.out _ E.out.kp;have D:=g.out _ E.out.kp;have y:=Ac (p.out.kp E.out.kp hbe);have z2:=Aa u.out 2;have j:=Ac u.out;have m:q<t.heap.size:=Nat.lt_of_lt_of_le O E.out.kp.1.size;have r:Hid (Ae B b l ((([]:List UInt8)++Al ka (Cv a))++([32]++op.data.toList++[32])) w t.drew):=E.out.grew (Ad.refl _).drew;have H:Hid (t.drew.heap[d]?=_):=((Fr.grew (P:=fun _=>True) (Ad.refl t).drew).block d j trivial).trans u.out;go_wp2_with fail
 go_region_held3 (fun w'=>w'.cell? ⟨be,5,none⟩=some (.slice (some ⟨q,c,none⟩) 2 cap)/\w'.cell? ⟨q,c+1,none⟩=some (.pointer (some ⟨x1,0,none⟩))/\w'.cell? ⟨d,2,none⟩=some (.int .i64 (Ca a:Int))) (first|(refine⟨?_,?_,?_⟩<;>assumption)|go_keep)
   ((go_at_call 66;refine(Gb HW.out B b _ t.drew kb _ (Ca a) (V.out.kp r.out.kp) r.out.1 (by have L:=Q.out;simp only[List.length_append,List.length_cons,List.length_nil] at L |-;omega)).mono ?_;rintro e v3 ⟨rfl,o⟩;have X:Hid (Ae B b l (((([]:List UInt8)++Al ka (Cv a))++([32]++op.data.toList++[32]))++Al kb (Ca a)) w v3):=r.out.put o rfl;have T:Hid (v3.heap[d]?=_):=o.kp.kept (by decide) H.out z;have j5:=Aa (p.out.kp X.out.kp hbe) 5;have jy:=g.out _ X.out.kp;have jg:=Aa T.out 2;clear o))
 clear y z2 j m r H j5 jy jg K C D;go_wp2_with fail
 refine bodyPost_ret (results_none rfl _ _ _) rfl ?_;exact⟨rfl,by have h:=X.out;simpa using h⟩
end Go.Proofs.YtjbfcadeapphbaaGreatDoor.Sx
namespace Go.Proofs.YtjbfcadeapphbaaGreatDoor.Sx
set_option maxRecDepth 100000
set_option maxHeartbeats 1000000
open Go.RowKit Go.Sort
attribute [local go_sem] Lb
def Ux (x:PX):List UInt8:=[45]++Al x 12
theorem Nv {op:ByteArray}{l:List UInt8}(h:op.data.toList=l):op=⟨l.toArray⟩:=ByteArray.ext (by rw[<- h])
theorem Fu (op:ByteArray)(w:World)(h:Ak op.data.toList=0):Calls Tryz.prog 67 #[.string op] w fun e w'=>e=.returned (.agg #[.int .i64 (-1),.int .i64 0,.int .i64 0])/\Ad w w':=by
 have:=H7 op w;unfold Kf at this;rw[if_pos h] at this;exact this
theorem Sa {n:Nat}(hW:WrE n)(B b be sort at' len cap:Nat)(l:List UInt8)(w:World)(op nm:ByteArray)(i:Int)(pa:Option Addr)(kids:List PX)(he:Ar w be sort op nm i at' pa len cap)(hr:Bw (·<B) w (Bt (·<B) w n) pa len kids)(hB:Bld B b l w)(hop:op.data.toList=[115,101,116])
  (hlen:l.length+((Jo kids).tx).length<=140737488355328) :
  Calls Tryz.prog 35 #[.pointer (some ⟨b,0,none⟩),.pointer (some ⟨be,0,none⟩)] w (Ay B b l ((Jo kids).tx) w):=by
 obtain rfl:op=⟨#[115,101,116]⟩:=Nv hop;have a:Hid (Ar w be sort _ nm i at' pa len cap):=he;have p:Hid (WrE n):=hW;have r:Hid (Ae B b l ([]:List UInt8) w w):=Ae.nil hB;have m:Hid (l.length+((Jo kids).tx).length<=140737488355328):=hlen;have o:Hid (Bw (·<B) w (Bt (·<B) w n) pa len kids):=hr;have k:Hid (Calls _ _ _ _ _):=Fu ⟨#[115,101,116]⟩ w rfl;have z:=follows;clear he hW hB hr hlen hop;go_enter Tryz.func35,Tryz.ntmps35
 have u:=Aa a.out 1;have v:=Aa a.out 5;have f:Hid (∀w2:World,Ad w w2->Ae B b l ([]:List UInt8) w (w2.alloc (.cells #[.int .i64 (-1),.int .i64 0,.int .i64 0] 130))):=fun w2 hg=>r.out.grew (hg.alloc _);have s:=Ac a.out;go_wp2_with (go_at_call 67;refine k.out.mono ?_;rintro e w2 ⟨rfl,hg⟩;have c:Hid (Ae B b l ([]:List UInt8) w (w2.alloc (.cells #[.int .i64 (-1),.int .i64 0,.int .i64 0] 130))):=f.out w2 hg;have x:=Aa (a.out.of (P:=fun _=>True) (Fr.grew hg) trivial) 1;have y:=Aa (a.out.of (P:=fun _=>True) (Fr.grew hg) trivial) 5;have h:=Ac (a.out.of (P:=fun _=>True) (Fr.grew hg) trivial);clear hg)
 have g:(⟨#[123]⟩:ByteArray).data.toList++(Cx kids++(⟨#[125]⟩:ByteArray).data.toList)=(Jo kids).tx:=rfl;have d:=Lc p.out B b (l++[]) _ ⟨#[123]⟩ ⟨#[125]⟩ pa len cap kids (o.out.kp c.out.kp) c.out.1 (by rw[g,List.append_nil];exact m.out);rw[g] at d;refine d.mono ?_;rintro e t ⟨rfl,j⟩;have q:Hid (Ae B b l (Jo kids).tx w t):=c.out.put j rfl;clear j d g c;go_wp2_with fail
 go_end0
 exact⟨rfl,q.out⟩
theorem Sb {n:Nat}(hW:WrE n)(B b be sort at' len cap:Nat)(l:List UInt8)(w:World)(op nm:ByteArray)(i:Int)(pa:Option Addr)(kids:List PX)(he:Ar w be sort op nm i at' pa len cap)(hr:Bw (·<B) w (Bt (·<B) w n) pa len kids)(hB:Bld B b l w)(hop:op.data.toList=[115,101,113])
  (hlen:l.length+((Iz kids).tx).length<=140737488355328) :
  Calls Tryz.prog 35 #[.pointer (some ⟨b,0,none⟩),.pointer (some ⟨be,0,none⟩)] w (Ay B b l ((Iz kids).tx) w):=by
 obtain rfl:op=⟨#[115,101,113]⟩:=Nv hop;have a:Hid (Ar w be sort _ nm i at' pa len cap):=he;have p:Hid (WrE n):=hW;have r:Hid (Ae B b l ([]:List UInt8) w w):=Ae.nil hB;have m:Hid (l.length+((Iz kids).tx).length<=140737488355328):=hlen;have o:Hid (Bw (·<B) w (Bt (·<B) w n) pa len kids):=hr;have k:Hid (Calls _ _ _ _ _):=Fu ⟨#[115,101,113]⟩ w rfl;have z:=follows;clear he hW hB hr hlen hop;go_enter Tryz.func35,Tryz.ntmps35
 have u:=Aa a.out 1;have v:=Aa a.out 5;have f:Hid (∀w2:World,Ad w w2->Ae B b l ([]:List UInt8) w (w2.alloc (.cells #[.int .i64 (-1),.int .i64 0,.int .i64 0] 130))):=fun w2 hg=>r.out.grew (hg.alloc _);have s:=Ac a.out;go_wp2_with (go_at_call 67;refine k.out.mono ?_;rintro e w2 ⟨rfl,hg⟩;have c:Hid (Ae B b l ([]:List UInt8) w (w2.alloc (.cells #[.int .i64 (-1),.int .i64 0,.int .i64 0] 130))):=f.out w2 hg;have x:=Aa (a.out.of (P:=fun _=>True) (Fr.grew hg) trivial) 1;have y:=Aa (a.out.of (P:=fun _=>True) (Fr.grew hg) trivial) 5;have h:=Ac (a.out.of (P:=fun _=>True) (Fr.grew hg) trivial);clear hg)
 have g:(⟨#[60,60]⟩:ByteArray).data.toList++(Cx kids++(⟨#[62,62]⟩:ByteArray).data.toList)=(Iz kids).tx:=rfl;have d:=Lc p.out B b (l++[]) _ ⟨#[60,60]⟩ ⟨#[62,62]⟩ pa len cap kids (o.out.kp c.out.kp) c.out.1 (by rw[g,List.append_nil];exact m.out);rw[g] at d;refine d.mono ?_;rintro e t ⟨rfl,j⟩;have q:Hid (Ae B b l (Iz kids).tx w t):=c.out.put j rfl;clear j d g c;go_wp2_with fail
 go_end0
 exact⟨rfl,q.out⟩
theorem Sc {n:Nat}(hW:WrE n)(B b be sort at' len cap:Nat)(l:List UInt8)(w:World)(op nm:ByteArray)(i:Int)(pa:Option Addr)(kids:List PX)(he:Ar w be sort op nm i at' pa len cap)(hr:Bw (·<B) w (Bt (·<B) w n) pa len kids)(hB:Bld B b l w)(hop:op.data.toList=[102,117,110])
  (hlen:l.length+((Jh kids).tx).length<=140737488355328) :
  Calls Tryz.prog 35 #[.pointer (some ⟨b,0,none⟩),.pointer (some ⟨be,0,none⟩)] w (Ay B b l ((Jh kids).tx) w):=by
 obtain rfl:op=⟨#[102,117,110]⟩:=Nv hop;have a:Hid (Ar w be sort _ nm i at' pa len cap):=he;have m:Hid (WrE n):=hW;have p:Hid (Ae B b l ([]:List UInt8) w w):=Ae.nil hB;have j:Hid (l.length+((Jh kids).tx).length<=140737488355328):=hlen;have k:Hid (Bw (·<B) w (Bt (·<B) w n) pa len kids):=hr;have h:Hid (Calls _ _ _ _ _):=Fu ⟨#[102,117,110]⟩ w rfl;have x:=follows;clear he hW hB hr hlen hop;go_enter Tryz.func35,Tryz.ntmps35
 have s:=Aa a.out 1;have t:=Aa a.out 5;have d:Hid (∀w2:World,Ad w w2->Ae B b l ([]:List UInt8) w (w2.alloc (.cells #[.int .i64 (-1),.int .i64 0,.int .i64 0] 130))):=fun w2 hg=>p.out.grew (hg.alloc _);have q:=Ac a.out;go_wp2_with (go_at_call 67;refine h.out.mono ?_;rintro e w2 ⟨rfl,hg⟩;have c:Hid (Ae B b l ([]:List UInt8) w (w2.alloc (.cells #[.int .i64 (-1),.int .i64 0,.int .i64 0] 130))):=d.out w2 hg;have u:=Aa (a.out.of (P:=fun _=>True) (Fr.grew hg) trivial) 1;have v:=Aa (a.out.of (P:=fun _=>True) (Fr.grew hg) trivial) 5;have f:=Ac (a.out.of (P:=fun _=>True) (Fr.grew hg) trivial);clear hg)
 refine(Rz m.out B b (l++[]) _ pa len cap kids (k.out.kp c.out.kp) c.out.1 (by rw[List.append_nil];exact j.out)).mono ?_;rintro e r ⟨rfl,g⟩;have o:Hid (Ae B b l (Jh kids).tx w r):=c.out.put g rfl;clear g c;go_wp2_with fail
 go_end0
 exact⟨rfl,o.out⟩
theorem Sd {n:Nat}(hW:WrE n)(B b be sort at' len cap:Nat)(l:List UInt8)(w:World)(op nm:ByteArray)(i:Int)(pa:Option Addr)(ka kb kc:PX)(he:Ar w be sort op nm i at' pa len cap)(hbe:be<B)(hr:Bw (·<B) w (Bt (·<B) w n) pa len [ka,kb,kc])(hB:Bld B b l w)(hop:op.data.toList=[112,117,116])
  (hlen:l.length+((Gp ka kb kc).tx).length<=140737488355328) :
  Calls Tryz.prog 35 #[.pointer (some ⟨b,0,none⟩),.pointer (some ⟨be,0,none⟩)] w (Ay B b l ((Gp ka kb kc).tx) w):=by
 obtain rfl:op=⟨#[112,117,116]⟩:=Nv hop;have g:Hid (Ar w be sort _ nm i at' pa len cap):=he;have HJ:Hid (Calls _ _ _ _ _):=Fu ⟨#[112,117,116]⟩ w rfl;have I:Hid (WrE n):=hW;have H:Hid (Bld B b l w):=hB;have G:Hid (Ae B b l ([]:List UInt8) w w):=Ae.nil hB;have mo:=follows;have u:Hid (l.length+((Gp ka kb kc).tx).length<=140737488355328):=hlen;obtain⟨rfl,C,A,S,z,T,x0,Y,r0,x1,Z,r1,x2,q2,r2⟩:=mX hr;subst S;have J:Hid (Bt (·<B) w n _ _):=r0;have a:Hid (∀W,Kp B b w W->W.cell? ⟨C,A,none⟩=some (.pointer (some ⟨x0,0,none⟩))):=fun W k=>(World.cell?_of_block (w:=w) (k.1.block C z)).trans Y;have K:Hid (Bt (·<B) w n _ _):=r1;have c:Hid (∀W,Kp B b w W->W.cell? ⟨C,A+1,none⟩=some (.pointer (some ⟨x1,0,none⟩))):=fun W k=>(World.cell?_of_block (w:=w) (k.1.block C z)).trans Z;have L:Hid (Bt (·<B) w n _ _):=r2;have d:Hid (∀W,Kp B b w W->W.cell? ⟨C,A+2,none⟩=some (.pointer (some ⟨x2,0,none⟩))):=fun W k=>(World.cell?_of_block (w:=w) (k.1.block C z)).trans q2;clear Y r0 Z r1 q2 r2;clear he hW hB hr hlen hop;simp only[Gp] at u |-;go_enter Tryz.func35,Tryz.ntmps35
 have j:=Aa g.out 1;have m:=Aa g.out 5;have p:=a.out _ G.out.kp;have q:=c.out _ G.out.kp;have r:=d.out _ G.out.kp;have M:Hid (∀w2:World,Ad w w2->Ae B b l ([]:List UInt8) w (w2.alloc (.cells #[.int .i64 (-1),.int .i64 0,.int .i64 0] 130))):=fun w2 hg=>G.out.grew (hg.alloc _);have R:=Ac g.out;go_wp2_with (go_at_call 67;refine HJ.out.mono ?_;rintro e w2 ⟨rfl,hg⟩;have D:Hid (Ae B b l ([]:List UInt8) w (w2.alloc (.cells #[.int .i64 (-1),.int .i64 0,.int .i64 0] 130))):=M.out w2 hg;have g1:=Aa (g.out.of (P:=fun _=>True) (Fr.grew hg) trivial) 1;have g5:=Aa (g.out.of (P:=fun _=>True) (Fr.grew hg) trivial) 5;have E:=Ac (g.out.of (P:=fun _=>True) (Fr.grew hg) trivial);have N:=a.out _ (Kp.grew hg H.out.low);have U:=a.out _ D.out.kp;have O:=c.out _ (Kp.grew hg H.out.low);have V:=c.out _ D.out.kp;have Q:=d.out _ (Kp.grew hg H.out.low);have X:=d.out _ D.out.kp;have F:C<w2.heap.size:=Nat.lt_of_lt_of_le T hg.below.size;clear hg)
 clear j m p q r R g1 g5 E F N U O V Q X;refine(Gb I.out B b _ _ ka _ 13 (J.out.kp D.out.kp) D.out.1 (by have o:=u.out;simp only[List.length_append,List.length_cons,List.length_nil] at o |-;omega)).mono ?_;rintro e v1 ⟨rfl,f⟩;have v:Hid (Ae B b l (([]:List UInt8)++Al ka 13) w v1):=D.out.put f rfl;clear f;have j:=Aa (g.out.kp v.out.kp hbe) 1;have m:=Aa (g.out.kp v.out.kp hbe) 5;have p:=a.out _ v.out.kp;have q:=c.out _ v.out.kp;have r:=d.out _ v.out.kp;go_wp2_with fail
 clear j m p q r;refine(Aw B b _ v1 _ [⟨#[91]⟩] 1 [91] rfl rfl (by decide) (by simp[De]) v.out.1 (by have o:=u.out;simp only[List.length_append,List.length_cons,List.length_nil] at o |-;omega)).mono ?_;rintro e v2 ⟨rfl,f⟩;have s:Hid (Ae B b l ((([]:List UInt8)++Al ka 13)++[91]) w v2):=v.out.put f rfl;clear f;have j:=Aa (g.out.kp s.out.kp hbe) 1;have m:=Aa (g.out.kp s.out.kp hbe) 5;have p:=a.out _ s.out.kp;have q:=c.out _ s.out.kp;have r:=d.out _ s.out.kp;go_wp2_with fail
 clear j m p q r;refine(I.out B b _ v2 kb _ (K.out.kp s.out.kp) s.out.1 (by have o:=u.out;simp only[List.length_append,List.length_cons,List.length_nil] at o |-;omega)).mono ?_;rintro e v3 ⟨rfl,f⟩;have x:Hid (Ae B b l (((([]:List UInt8)++Al ka 13)++[91])++kb.tx) w v3):=s.out.put f rfl;clear f;have j:=Aa (g.out.kp x.out.kp hbe) 1;have m:=Aa (g.out.kp x.out.kp hbe) 5;have p:=a.out _ x.out.kp;have q:=c.out _ x.out.kp;have r:=d.out _ x.out.kp;go_wp2_with fail
 clear j m p q r;refine(Aw B b _ v3 _ [⟨#[32,58,61,32]⟩] 1 [32,58,61,32] rfl rfl (by decide) (by simp[De]) x.out.1 (by have o:=u.out;simp only[List.length_append,List.length_cons,List.length_nil] at o |-;omega)).mono ?_;rintro e v4 ⟨rfl,f⟩;have t:Hid (Ae B b l ((((([]:List UInt8)++Al ka 13)++[91])++kb.tx)++[32,58,61,32]) w v4):=x.out.put f rfl;clear f;have j:=Aa (g.out.kp t.out.kp hbe) 1;have m:=Aa (g.out.kp t.out.kp hbe) 5;have p:=a.out _ t.out.kp;have q:=c.out _ t.out.kp;have r:=d.out _ t.out.kp;go_wp2_with fail
 clear j m p q r;refine(I.out B b _ v4 kc _ (L.out.kp t.out.kp) t.out.1 (by have o:=u.out;simp only[List.length_append,List.length_cons,List.length_nil] at o |-;omega)).mono ?_;rintro e v5 ⟨rfl,f⟩;have y:Hid (Ae B b l (((((([]:List UInt8)++Al ka 13)++[91])++kb.tx)++[32,58,61,32])++kc.tx) w v5):=t.out.put f rfl;clear f;have j:=Aa (g.out.kp y.out.kp hbe) 1;have m:=Aa (g.out.kp y.out.kp hbe) 5;have p:=a.out _ y.out.kp;have q:=c.out _ y.out.kp;have r:=d.out _ y.out.kp;go_wp2_with fail
 clear j m p q r;refine(Aw B b _ v5 _ [⟨#[93]⟩] 1 [93] rfl rfl (by decide) (by simp[De]) y.out.1 (by have o:=u.out;simp only[List.length_append,List.length_cons,List.length_nil] at o |-;omega)).mono ?_;rintro e v6 ⟨rfl,f⟩;have V6:Hid (Ae B b l ((((((([]:List UInt8)++Al ka 13)++[91])++kb.tx)++[32,58,61,32])++kc.tx)++[93]) w v6):=y.out.put f rfl;clear f;go_wp2_with fail
 go_end0
 exact⟨rfl,by have h:=V6.out;simpa using h⟩
theorem Se {n:Nat}(hW:WrE n)(B b be sort at' len cap:Nat)(l:List UInt8)(w:World)(op nm:ByteArray)(i:Int)(pa:Option Addr)(ka:PX)(he:Ar w be sort op nm i at' pa len cap)(hbe:be<B)(hr:Bw (·<B) w (Bt (·<B) w n) pa len [ka])(hB:Bld B b l w)(hop:op.data.toList=[110,101,103])
  (hlen:l.length+(Ux ka).length<=140737488355328) :
  Calls Tryz.prog 35 #[.pointer (some ⟨b,0,none⟩),.pointer (some ⟨be,0,none⟩)] w (Ay B b l (Ux ka) w):=by
 obtain rfl:op=⟨#[110,101,103]⟩:=Nv hop;have c:Hid (Ar w be sort _ nm i at' pa len cap):=he;have L:Hid (Calls _ _ _ _ _):=Fu ⟨#[110,101,103]⟩ w rfl;have M:Hid (WrE n):=hW;have K:Hid (Bld B b l w):=hB;have G:Hid (Ae B b l ([]:List UInt8) w w):=Ae.nil hB;have T:=follows;have p:Hid (l.length+(Ux ka).length<=140737488355328):=hlen;obtain⟨rfl,E,D,z,y,A,S,H,I⟩:=mW hr;subst z;have q:Hid (Bt (·<B) w n _ _):=I;have a:Hid (∀W,Kp B b w W->W.cell? ⟨E,D,none⟩=some (.pointer (some ⟨S,0,none⟩))):=fun W k=>(World.cell?_of_block (w:=w) (k.1.block E y)).trans H;clear H I;clear he hW hB hr hlen hop;simp only[Ux] at p |-;go_enter Tryz.func35,Tryz.ntmps35
 have s:=Aa c.out 1;have t:=Aa c.out 5;have F:=a.out _ G.out.kp;have r:Hid (∀w2:World,Ad w w2->Ae B b l ([]:List UInt8) w (w2.alloc (.cells #[.int .i64 (-1),.int .i64 0,.int .i64 0] 130))):=fun w2 hg=>G.out.grew (hg.alloc _);have x:=Ac c.out;go_wp2_with (go_at_call 67;refine L.out.mono ?_;rintro e w2 ⟨rfl,hg⟩;have o:Hid (Ae B b l ([]:List UInt8) w (w2.alloc (.cells #[.int .i64 (-1),.int .i64 0,.int .i64 0] 130))):=r.out w2 hg;have O:=Aa (c.out.of (P:=fun _=>True) (Fr.grew hg) trivial) 1;have Q:=Aa (c.out.of (P:=fun _=>True) (Fr.grew hg) trivial) 5;have f:=Ac (c.out.of (P:=fun _=>True) (Fr.grew hg) trivial);have u:=a.out _ (Kp.grew hg K.out.low);have C:=a.out _ o.out.kp;have g:E<w2.heap.size:=Nat.lt_of_lt_of_le A hg.below.size;clear hg)
 clear s t F x O Q f g u C;have j:(w2.alloc (.cells #[.int .i64 (-1),.int .i64 0,.int .i64 0] 130)).heap.size=w2.heap.size+1:=by simp
 rw[<- j];clear j;generalize w2.alloc (.cells #[.int .i64 (-1),.int .i64 0,.int .i64 0] 130)=v0 at o |-;refine(Aw B b _ v0 _ [⟨#[45]⟩] 1 [45] rfl rfl (by decide) (by simp[De]) o.out.1 (by have v:=p.out;simp only[List.length_append,List.length_cons,List.length_nil] at v |-;omega)).mono ?_;rintro e J ⟨rfl,m⟩;have d:Hid (Ae B b l (([]:List UInt8)++[45]) w J):=o.out.put m rfl;clear m;have s:=Aa (c.out.kp d.out.kp hbe) 1;have t:=Aa (c.out.kp d.out.kp hbe) 5;have F:=a.out _ d.out.kp;go_wp2_with fail
 clear s t F;refine(Gb M.out B b _ J ka _ 12 (q.out.kp d.out.kp) d.out.1 (by have v:=p.out;simp only[List.length_append,List.length_cons,List.length_nil] at v |-;omega)).mono ?_;rintro e R ⟨rfl,m⟩;have N:Hid (Ae B b l ((([]:List UInt8)++[45])++Al ka 12) w R):=d.out.put m rfl;clear m;go_wp2_with fail
 go_end0
 exact⟨rfl,by have h:=N.out;simpa using h⟩
theorem Uy {n:Nat}(hW:WrE n)(B b be sort at' len cap:Nat)(l:List UInt8)(w:World)(op nm:ByteArray)(i:Int)(pa:Option Addr)(ka kb:PX)(he:Ar w be sort op nm i at' pa len cap)(hbe:be<B)(hr:Bw (·<B) w (Bt (·<B) w n) pa len [ka,kb])(hB:Bld B b l w)(hop:op.data.toList=[97,116])
  (hlen:l.length+((dAt ka kb).tx).length<=140737488355328) :
  Calls Tryz.prog 35 #[.pointer (some ⟨b,0,none⟩),.pointer (some ⟨be,0,none⟩)] w (Ay B b l ((dAt ka kb).tx) w):=by
 obtain rfl:op=⟨#[97,116]⟩:=Nv hop;have f:Hid (Ar w be sort _ nm i at' pa len cap):=he;have S:Hid (Calls _ _ _ _ _):=Fu ⟨#[97,116]⟩ w rfl;have U:Hid (WrE n):=hW;have G:Hid (Bld B b l w):=hB;have v:Hid (Ae B b l ([]:List UInt8) w w):=Ae.nil hB;have mo:=follows;have T:Hid (l.length+((dAt ka kb).tx).length<=140737488355328):=hlen;obtain⟨rfl,h,d,A,m,o,E,L,N,F,M,O⟩:=gW hr;subst A;have s:Hid (Bt (·<B) w n _ _):=N;have a:Hid (∀W,Kp B b w W->W.cell? ⟨h,d,none⟩=some (.pointer (some ⟨E,0,none⟩))):=fun W k=>(World.cell?_of_block (w:=w) (k.1.block h m)).trans L;have t:Hid (Bt (·<B) w n _ _):=O;have c:Hid (∀W,Kp B b w W->W.cell? ⟨h,d+1,none⟩=some (.pointer (some ⟨F,0,none⟩))):=fun W k=>(World.cell?_of_block (w:=w) (k.1.block h m)).trans M;clear L N M O;clear he hW hB hr hlen hop;go_enter Tryz.func35,Tryz.ntmps35
 have V:=Aa f.out 1;have H:=Aa f.out 5;have Q:=a.out _ v.out.kp;have R:=c.out _ v.out.kp;have u:Hid (∀w2:World,Ad w w2->Ae B b l ([]:List UInt8) w (w2.alloc (.cells #[.int .i64 (-1),.int .i64 0,.int .i64 0] 130))):=fun w2 hg=>v.out.grew (hg.alloc _);have z:=Ac f.out;go_wp2_with (go_at_call 67;refine S.out.mono ?_;rintro e w2 ⟨rfl,hg⟩;have g:Hid (Ae B b l ([]:List UInt8) w (w2.alloc (.cells #[.int .i64 (-1),.int .i64 0,.int .i64 0] 130))):=u.out w2 hg;have X:=Aa (f.out.of (P:=fun _=>True) (Fr.grew hg) trivial) 1;have Y:=Aa (f.out.of (P:=fun _=>True) (Fr.grew hg) trivial) 5;have j:=Ac (f.out.of (P:=fun _=>True) (Fr.grew hg) trivial);have x:=a.out _ (Kp.grew hg G.out.low);have C:=a.out _ g.out.kp;have y:=c.out _ (Kp.grew hg G.out.low);have D:=c.out _ g.out.kp;have p:h<w2.heap.size:=Nat.lt_of_lt_of_le o hg.below.size;clear hg)
 clear V H Q R z X Y j p x C y D;generalize w2.alloc (.cells #[.int .i64 (-1),.int .i64 0,.int .i64 0] 130)=v0 at g |-;have H:=Aa (f.out.kp g.out.kp hbe) 5;have Q:=a.out _ g.out.kp;have R:=c.out _ g.out.kp;have I:=Ac (f.out.kp g.out.kp hbe);have J:h<v0.heap.size:=Nat.lt_of_lt_of_le o g.out.kp.1.size;have r:Hid (Ae B b l ([]:List UInt8) w v0.drew):=g.out.grew (Ad.refl _).drew;go_region_held3 (fun w'=>w'.cell? ⟨be,5,none⟩=some (.slice (some ⟨h,d,none⟩) 2 cap)/\w'.cell? ⟨h,d,none⟩=some (.pointer (some ⟨E,0,none⟩))/\w'.cell? ⟨h,d+1,none⟩=some (.pointer (some ⟨F,0,none⟩))) (first|(refine⟨?_,?_,?_⟩<;>assumption)|go_keep)
   ((go_at_call 69;refine(Zw U.out B b E F (l++[]) v0.drew ka kb (s.out.kp r.out.kp) (t.out.kp r.out.kp) r.out.1 (by rw[List.append_nil];exact T.out)).mono ?_;rintro e v1 ⟨rfl,K⟩;have q:Hid (Ae B b l (dAt ka kb).tx w v1):=r.out.put K rfl;have j5:=Aa (f.out.kp q.out.kp hbe) 5;have Z:=a.out _ q.out.kp;have a0:=c.out _ q.out.kp;clear K))
 go_wp2_with fail
 go_end0
 exact⟨rfl,q.out⟩
end Go.Proofs.YtjbfcadeapphbaaGreatDoor.Sx
namespace Go.Proofs.YtjbfcadeapphbaaGreatDoor.Sx
set_option maxRecDepth 100000
set_option maxHeartbeats 1000000
open Go.RowKit Go.Sort
attribute [local go_sem] Lb
def six:List (List UInt8):=[gK,gL,Ki,oAt,Zg,Zh]
theorem Iq (B b be sort at' len cap:Nat)(l T:List UInt8)(w:World)(op nm:ByteArray)(i:Int)(pa:Option Addr)(he:Ar w be sort op nm i at' pa len cap)(hB:Bld B b l w)(h0:Ak op.data.toList=0)(h6:op.data.toList ∉ six)
  (hC:∀W,Kp B b w W->Bld B b (l++[]) W->Calls Tryz.prog 70 #[.pointer (some ⟨b,0,none⟩),.pointer (some ⟨be,0,none⟩)] W (Ay B b (l++[]) T W)) :
  Calls Tryz.prog 35 #[.pointer (some ⟨b,0,none⟩),.pointer (some ⟨be,0,none⟩)] w (Ay B b l T w):=by
 have f:Hid (Ar w be sort op nm i at' pa len cap):=he;have t:Hid (Ae B b l ([]:List UInt8) w w):=Ae.nil hB;have q:Hid (∀W,Kp B b w W->Bld B b (l++[]) W->_):=hC;have r:Hid (Calls _ _ _ _ _):=Fu op w h0;have a:op.toList=op.data.toList:=ByteArray.toList_eq op;simp only[six,List.mem_cons,List.not_mem_nil,or_false,not_or] at h6;obtain⟨j,k,m,n,o,p⟩:=h6;have A:(op.toList==[115,101,116])=false:=by rw[a];simpa [gK] using j
 have C:(op.toList==[115,101,113])=false:=by rw[a];simpa [gL] using k
 have D:(op.toList==[102,117,110])=false:=by rw[a];simpa [Ki] using m
 have E:(op.toList==[97,116])=false:=by rw[a];simpa [oAt] using n
 have F:(op.toList==[112,117,116])=false:=by rw[a];simpa [Zg] using o
 have G:(op.toList==[110,101,103])=false:=by rw[a];simpa [Zh] using p
 have u:=Ac he;have y:=Aa he 1;have H:=follows;clear he hB h0 j k m n o p a hC;go_enter Tryz.func35,Tryz.ntmps35
 go_wp2_with (go_at_call 67;refine r.out.mono ?_;rintro e x ⟨rfl,d⟩;have c:Hid (Ae B b l ([]:List UInt8) w (x.alloc (.cells #[.int .i64 (-1),.int .i64 0,.int .i64 0] 130))):=t.out.grew (d.alloc _);have z:=Aa (f.out.of (P:=fun _=>True) (Fr.grew d) trivial) 1;have g:=Ac (f.out.of (P:=fun _=>True) (Fr.grew d) trivial);clear d)
 refine(q.out _ c.out.kp c.out.1).mono ?_;rintro e v ⟨rfl,h⟩;have s:Hid (Ae B b l T w v):=c.out.put h rfl;clear h c;go_wp2_with fail
 go_end0
 exact⟨rfl,s.out⟩
theorem L8 {op:List UInt8}(h:op∈En\/op∈Dq\/op∈Cs):Ak op=0/\op ∉ six:=by
 simp only[En,Dq,Cs,List.mem_cons,List.not_mem_nil,or_false] at h;rcases h with(rfl|rfl|rfl)|(rfl|rfl|rfl)|(rfl|rfl|rfl|rfl|rfl|rfl|rfl)<;>exact⟨by decide,by decide⟩
theorem Xc {op:List UInt8}{a:PX}{r:Nat}(h:op∈En\/op∈Dq):(Co r op a).tx=op++32::Al a r:=by
 have:op≠Lg:=by
  simp only[En,Dq,List.mem_cons,List.not_mem_nil,or_false] at h;rcases h with(rfl|rfl|rfl)|(rfl|rfl|rfl)<;>decide
 unfold Co;rw[if_neg this]
theorem Sf {n:Nat}(hW:WrE n)(B b be sort at' len cap:Nat)(l:List UInt8)(w:World)(op nm:ByteArray)(i:Int)(pa:Option Addr)(kids:List PX)(x:PX)(he:Ar w be sort op nm i at' pa len cap)(hbe:be<B)(hr:Bw (·<B) w (Bt (·<B) w n) pa len kids)(hB:Bld B b l w)(hm:Mv op.data.toList kids x)
  (hlen:l.length+x.tx.length<=140737488355328) :
  Calls Tryz.prog 35 #[.pointer (some ⟨b,0,none⟩),.pointer (some ⟨be,0,none⟩)] w (Ay B b l x.tx w):=by
 rcases hm with⟨m,o,p,rfl,rfl⟩|⟨c,rfl⟩|⟨c,rfl⟩|⟨c,rfl⟩|⟨c,f,k,rfl,rfl⟩|⟨c,f,k,v,rfl,rfl⟩|⟨c,a,rfl,rfl⟩|⟨c,a,rfl,rfl⟩|⟨c,a,rfl,rfl⟩|⟨c,rfl⟩
 ·have j:Ak op.data.toList≠0:=by
   simp only[E0,List.map_cons,List.map_nil,List.mem_cons,List.not_mem_nil,or_false] at m;rcases m with h|h|h|h|h|h|h|h|h|h|h|h|h|h|h|h|h|h|h|h|h|h|h|h|h<;>rw[h]<;>decide
  exact Qr hW B b be sort at' len cap l w op nm i pa o p he hbe hr hB j hlen
 ·exact Sa hW B b be sort at' len cap l w op nm i pa kids he hr hB c hlen
 ·exact Sb hW B b be sort at' len cap l w op nm i pa kids he hr hB c hlen
 ·exact Sc hW B b be sort at' len cap l w op nm i pa kids he hr hB c hlen
 ·exact Uy hW B b be sort at' len cap l w op nm i pa f k he hbe hr hB c hlen
 ·exact Sd hW B b be sort at' len cap l w op nm i pa f k v he hbe hr hB c hlen
 ·exact Se hW B b be sort at' len cap l w op nm i pa a he hbe hr hB c hlen
 ·obtain⟨d,e⟩:=L8 (.inl c);have g:C6 op.data.toList=6:=by
   simp only[En,List.mem_cons,List.not_mem_nil,or_false] at c;rcases c with h|h|h<;>rw[h]<;>rfl
  rw[Xc (.inl c)] at hlen |-;exact Iq B b be sort at' len cap l _ w op nm i pa he hB d e fun W k hb=>Oq hW B b be sort at' len cap (l++[]) W op nm i pa a (he.kp k hbe) hbe (hr.kp k) hb 6 g (by decide) (by rw[List.append_nil];exact hlen)
 ·obtain⟨d,e⟩:=L8 (.inr (.inl c));have g:C6 op.data.toList=12:=by
   simp only[Dq,List.mem_cons,List.not_mem_nil,or_false] at c;rcases c with h|h|h<;>rw[h]<;>rfl
  rw[Xc (.inr c)] at hlen |-;exact Iq B b be sort at' len cap l _ w op nm i pa he hB d e fun W k hb=>Oq hW B b be sort at' len cap (l++[]) W op nm i pa a (he.kp k hbe) hbe (hr.kp k) hb 12 g (by decide) (by rw[List.append_nil];exact hlen)
 ·obtain⟨d,e⟩:=L8 (.inr (.inr c));have g:C6 op.data.toList=14:=by
   simp only[Cs,List.mem_cons,List.not_mem_nil,or_false] at c;rcases c with h|h|h|h|h|h|h<;>rw[h]<;>rfl
  exact Iq B b be sort at' len cap l _ w op nm i pa he hB d e fun W k hb=>Uw hW B b be sort at' len cap (l++[]) W op nm i pa kids (he.kp k hbe) (hr.kp k) hb g (by rw[List.append_nil];exact hlen)
end Go.Proofs.YtjbfcadeapphbaaGreatDoor.Sx
namespace Go.Proofs.YtjbfcadeapphbaaGreatDoor.Sx
set_option maxRecDepth 100000
set_option maxHeartbeats 1000000
open Go.RowKit Go.Sort
def kB (l:List UInt8):List UInt8:=[34]++l++[34]
theorem dW (B b be at' len cap:Nat)(l:List UInt8)(w:World)(op nm:ByteArray)(i:Int)(pa:Option Addr)(he:Ar w be 1 op nm i at' pa len cap)(hB:Bld B b l w)
  (hlen:l.length+(kB nm.data.toList).length<=140737488355328) :
  Calls Tryz.prog 15 #[.pointer (some ⟨b,0,none⟩),.pointer (some ⟨be,0,none⟩)] w (Ay B b l (kB nm.data.toList) w):=by
 have c:Hid (Ae B b l ([]:List UInt8) w w):=Ae.nil hB;have a:Hid (l.length+(kB nm.data.toList).length<=140737488355328):=hlen;have g:=Aa he 0;have j:=Aa he 1;have k:=Aa he 2;have o:=follows;clear he hB hlen;simp only[kB] at a |-;go_enter Tryz.func15,Tryz.ntmps15
 go_wp2_with fail
 clear g j k;refine(Aw B b _ w _ [⟨#[34]⟩,nm,⟨#[34]⟩] 3 ([34]++nm.data.toList++[34]) rfl rfl (by decide) (by simp[De]) c.out.1 (by have m:=a.out;simp only[List.length_append,List.length_cons,List.length_nil] at m |-;omega)).mono ?_;rintro e n ⟨rfl,d⟩;have f:Hid (Ae B b l (([]:List UInt8)++([34]++nm.data.toList++[34])) w n):=c.out.put d rfl;clear d;go_wp2_with fail
 go_end0
 exact⟨rfl,by have h:=f.out;simpa using h⟩
theorem Xd (B b be at' len cap:Nat)(l:List UInt8)(w:World)(op nm:ByteArray)(i:Int)(pa:Option Addr)(he:Ar w be 2 op nm i at' pa len cap)(hB:Bld B b l w)
  (hlen:l.length+(op.data.toList).length<=140737488355328) :
  Calls Tryz.prog 15 #[.pointer (some ⟨b,0,none⟩),.pointer (some ⟨be,0,none⟩)] w (Ay B b l (op.data.toList) w):=by
 have a:Hid (Ae B b l ([]:List UInt8) w w):=Ae.nil hB;have d:Hid (l.length+(op.data.toList).length<=140737488355328):=hlen;have g:=Aa he 0;have j:=Aa he 1;have k:=Aa he 2;have o:=follows;clear he hB hlen;go_enter Tryz.func15,Tryz.ntmps15
 go_wp2_with fail
 clear g j k;refine(Aw B b _ w _ [op] 1 op.data.toList rfl rfl (by decide) (by simp[De]) a.out.1 (by have m:=d.out;simp only[List.length_append,List.length_nil] at m |-;omega)).mono ?_;rintro e n ⟨rfl,c⟩;have f:Hid (Ae B b l (([]:List UInt8)++op.data.toList) w n):=a.out.put c rfl;clear c;go_wp2_with fail
 go_end0
 exact⟨rfl,by have h:=f.out;simpa using h⟩
theorem Zx (B b be at' len cap:Nat)(l:List UInt8)(w:World)(op nm:ByteArray)(i:Int)(pa:Option Addr)(he:Ar w be 3 op nm i at' pa len cap)(hB:Bld B b l w)
  (hlen:l.length+(nm.data.toList).length<=140737488355328) :
  Calls Tryz.prog 15 #[.pointer (some ⟨b,0,none⟩),.pointer (some ⟨be,0,none⟩)] w (Ay B b l (nm.data.toList) w):=by
 have a:Hid (Ae B b l ([]:List UInt8) w w):=Ae.nil hB;have d:Hid (l.length+(nm.data.toList).length<=140737488355328):=hlen;have g:=Aa he 0;have j:=Aa he 1;have k:=Aa he 2;have o:=follows;clear he hB hlen;go_enter Tryz.func15,Tryz.ntmps15
 go_wp2_with fail
 clear g j k;refine(Aw B b _ w _ [nm] 1 nm.data.toList rfl rfl (by decide) (by simp[De]) a.out.1 (by have m:=d.out;simp only[List.length_append,List.length_nil] at m |-;omega)).mono ?_;rintro e n ⟨rfl,c⟩;have f:Hid (Ae B b l (([]:List UInt8)++nm.data.toList) w n):=a.out.put c rfl;clear c;go_wp2_with fail
 go_end0
 exact⟨rfl,by have h:=f.out;simpa using h⟩
theorem Uz (B b be at' len cap:Nat)(l:List UInt8)(w:World)(op nm:ByteArray)(i:Int)(pa:Option Addr)(he:Ar w be 4 op nm i at' pa len cap)(hB:Bld B b l w)
  (hlen:l.length+(nm.data.toList++[39]).length<=140737488355328) :
  Calls Tryz.prog 15 #[.pointer (some ⟨b,0,none⟩),.pointer (some ⟨be,0,none⟩)] w (Ay B b l (nm.data.toList++[39]) w):=by
 have a:Hid (Ae B b l ([]:List UInt8) w w):=Ae.nil hB;have d:Hid (l.length+(nm.data.toList++[39]).length<=140737488355328):=hlen;have g:=Aa he 0;have j:=Aa he 1;have k:=Aa he 2;have o:=follows;clear he hB hlen;go_enter Tryz.func15,Tryz.ntmps15
 go_wp2_with fail
 clear g j k;refine(Aw B b _ w _ [nm,⟨#[39]⟩] 2 (nm.data.toList++[39]) rfl rfl (by decide) (by simp[De]) a.out.1 (by have m:=d.out;simp only[List.length_append,List.length_cons,List.length_nil] at m |-;omega)).mono ?_;rintro e n ⟨rfl,c⟩;have f:Hid (Ae B b l (([]:List UInt8)++(nm.data.toList++[39])) w n):=a.out.put c rfl;clear c;go_wp2_with fail
 go_end0
 exact⟨rfl,by have h:=f.out;simpa using h⟩
theorem Pb (B b be at' len cap:Nat)(l:List UInt8)(w:World)(op nm:ByteArray)(i:Int)(pa:Option Addr)(he:Ar w be 6 op nm i at' pa len cap)(hB:Bld B b l w)
  (hlen:l.length+([117,110,99,104,97,110,103,101,100,32]++nm.data.toList).length<=140737488355328) :
  Calls Tryz.prog 15 #[.pointer (some ⟨b,0,none⟩),.pointer (some ⟨be,0,none⟩)] w (Ay B b l ([117,110,99,104,97,110,103,101,100,32]++nm.data.toList) w):=by
 have a:Hid (Ae B b l ([]:List UInt8) w w):=Ae.nil hB;have d:Hid (l.length+([117,110,99,104,97,110,103,101,100,32]++nm.data.toList).length<=140737488355328):=hlen;have g:=Aa he 0;have j:=Aa he 1;have k:=Aa he 2;have o:=follows;clear he hB hlen;go_enter Tryz.func15,Tryz.ntmps15
 go_wp2_with fail
 clear g j k;refine(Aw B b _ w _ [⟨#[117,110,99,104,97,110,103,101,100,32]⟩,nm] 2 ([117,110,99,104,97,110,103,101,100,32]++nm.data.toList) rfl rfl (by decide) (by simp[De]) a.out.1 (by have m:=d.out;simp only[List.length_append,List.length_cons,List.length_nil] at m |-;omega)).mono ?_;rintro e n ⟨rfl,c⟩;have f:Hid (Ae B b l (([]:List UInt8)++([117,110,99,104,97,110,103,101,100,32]++nm.data.toList)) w n):=a.out.put c rfl;clear c;go_wp2_with fail
 go_end0
 exact⟨rfl,by have h:=f.out;simpa using h⟩
theorem Sg (B b be at' len cap:Nat)(l:List UInt8)(w:World)(op nm:ByteArray)(i:Int)(pa:Option Addr)(he:Ar w be 7 op nm i at' pa len cap)(hB:Bld B b l w)
  (hlen:l.length+([101,110,97,98,108,101,100,32]++nm.data.toList).length<=140737488355328) :
  Calls Tryz.prog 15 #[.pointer (some ⟨b,0,none⟩),.pointer (some ⟨be,0,none⟩)] w (Ay B b l ([101,110,97,98,108,101,100,32]++nm.data.toList) w):=by
 have a:Hid (Ae B b l ([]:List UInt8) w w):=Ae.nil hB;have d:Hid (l.length+([101,110,97,98,108,101,100,32]++nm.data.toList).length<=140737488355328):=hlen;have g:=Aa he 0;have j:=Aa he 1;have k:=Aa he 2;have o:=follows;clear he hB hlen;go_enter Tryz.func15,Tryz.ntmps15
 go_wp2_with fail
 clear g j k;refine(Aw B b _ w _ [⟨#[101,110,97,98,108,101,100,32]⟩,nm] 2 ([101,110,97,98,108,101,100,32]++nm.data.toList) rfl rfl (by decide) (by simp[De]) a.out.1 (by have m:=d.out;simp only[List.length_append,List.length_cons,List.length_nil] at m |-;omega)).mono ?_;rintro e n ⟨rfl,c⟩;have f:Hid (Ae B b l (([]:List UInt8)++([101,110,97,98,108,101,100,32]++nm.data.toList)) w n):=a.out.put c rfl;clear c;go_wp2_with fail
 go_end0
 exact⟨rfl,by have h:=f.out;simpa using h⟩
theorem dX {n:Nat}(hW:WrE n)(B b be sort at' len cap:Nat)(l:List UInt8)(w:World)(op nm:ByteArray)(i:Int)(pa:Option Addr)(ka kb:PX)(he:Ar w be sort op nm i at' pa len cap)(hbe:be<B)(hr:Bw (·<B) w (Bt (·<B) w n) pa len [ka,kb])(hB:Bld B b l w)(hs:sort=9)
  (hlen:l.length+((Kh nm.data.toList ka kb).tx).length<=140737488355328) :
  Calls Tryz.prog 15 #[.pointer (some ⟨b,0,none⟩),.pointer (some ⟨be,0,none⟩)] w (Ay B b l ((Kh nm.data.toList ka kb).tx) w):=by
 have a:Hid (Ar w be sort op nm i at' pa len cap):=he;have E:Hid (WrE n):=hW;have R:Hid (Bld B b l w):=hB;have o:Hid (Ae B b l ([]:List UInt8) w w):=Ae.nil hB;have S:=follows;have v:Hid (l.length+((Kh nm.data.toList ka kb).tx).length<=140737488355328):=hlen;obtain⟨rfl,z,y,D,x,N,P,F,H,Q,G,I⟩:=gW hr;subst D;have A:Hid (Bt (·<B) w n _ _):=H;have d:Hid (∀W,Kp B b w W->W.cell? ⟨z,y,none⟩=some (.pointer (some ⟨P,0,none⟩))):=fun W k=>(World.cell?_of_block (w:=w) (k.1.block z x)).trans F;have C:Hid (Bt (·<B) w n _ _):=I;have f:Hid (∀W,Kp B b w W->W.cell? ⟨z,y+1,none⟩=some (.pointer (some ⟨Q,0,none⟩))):=fun W k=>(World.cell?_of_block (w:=w) (k.1.block z x)).trans G;clear F H G I;clear he hW hB hr hlen;simp only[Kh] at v |-;subst hs;go_enter Tryz.func15,Tryz.ntmps15
 have p:=Aa (a.out.kp o.out.kp hbe) 0;have q:=Aa (a.out.kp o.out.kp hbe) 2;have r:=Aa (a.out.kp o.out.kp hbe) 5;have t:=d.out _ o.out.kp;have u:=f.out _ o.out.kp;go_wp2_with fail
 clear p q r t u;refine(Aw B b _ w _ [⟨#[108,101,116,32]⟩,nm,⟨#[32,61,32]⟩] 3 ([108,101,116,32]++nm.data.toList++[32,61,32]) rfl rfl (by decide) (by simp[De]) o.out.1 (by have s:=v.out;simp only[List.length_append,List.length_cons,List.length_nil] at s |-;omega)).mono ?_;rintro e J ⟨rfl,c⟩;have g:Hid (Ae B b l (([]:List UInt8)++([108,101,116,32]++nm.data.toList++[32,61,32])) w J):=o.out.put c rfl;clear c;have p:=Aa (a.out.kp g.out.kp hbe) 0;have q:=Aa (a.out.kp g.out.kp hbe) 2;have r:=Aa (a.out.kp g.out.kp hbe) 5;have t:=d.out _ g.out.kp;have u:=f.out _ g.out.kp;go_wp2_with fail
 clear p q r t u;refine(E.out B b _ J ka _ (A.out.kp g.out.kp) g.out.1 (by have s:=v.out;simp only[List.length_append,List.length_cons,List.length_nil] at s |-;omega)).mono ?_;rintro e K ⟨rfl,c⟩;have m:Hid (Ae B b l ((([]:List UInt8)++([108,101,116,32]++nm.data.toList++[32,61,32]))++ka.tx) w K):=g.out.put c rfl;clear c;have p:=Aa (a.out.kp m.out.kp hbe) 0;have q:=Aa (a.out.kp m.out.kp hbe) 2;have r:=Aa (a.out.kp m.out.kp hbe) 5;have t:=d.out _ m.out.kp;have u:=f.out _ m.out.kp;go_wp2_with fail
 clear p q r t u;refine(Aw B b _ K _ [⟨#[32,58,32]⟩] 1 [32,58,32] rfl rfl (by decide) (by simp[De]) m.out.1 (by have s:=v.out;simp only[List.length_append,List.length_cons,List.length_nil] at s |-;omega)).mono ?_;rintro e L ⟨rfl,c⟩;have j:Hid (Ae B b l (((([]:List UInt8)++([108,101,116,32]++nm.data.toList++[32,61,32]))++ka.tx)++[32,58,32]) w L):=m.out.put c rfl;clear c;have p:=Aa (a.out.kp j.out.kp hbe) 0;have q:=Aa (a.out.kp j.out.kp hbe) 2;have r:=Aa (a.out.kp j.out.kp hbe) 5;have t:=d.out _ j.out.kp;have u:=f.out _ j.out.kp;go_wp2_with fail
 clear p q r t u;refine(E.out B b _ L kb _ (C.out.kp j.out.kp) j.out.1 (by have s:=v.out;simp only[List.length_append,List.length_cons,List.length_nil] at s |-;omega)).mono ?_;rintro e O ⟨rfl,c⟩;have M:Hid (Ae B b l ((((([]:List UInt8)++([108,101,116,32]++nm.data.toList++[32,61,32]))++ka.tx)++[32,58,32])++kb.tx) w O):=j.out.put c rfl;clear c;go_wp2_with fail
 go_end0
 exact⟨rfl,by have h:=M.out;simpa using h⟩
theorem L9 (B b be sort at' len cap f:Nat)(l T:List UInt8)(w:World)(op nm:ByteArray)(i:Int)(pa:Option Addr)(he:Ar w be sort op nm i at' pa len cap)
  (hs:sort=8/\f=33\/sort=10/\f=34\/sort=11/\f=35\/sort=12/\f=35)
  (hC:Calls Tryz.prog f #[.pointer (some ⟨b,0,none⟩),.pointer (some ⟨be,0,none⟩)] w (Ay B b l T w)) :
  Calls Tryz.prog 15 #[.pointer (some ⟨b,0,none⟩),.pointer (some ⟨be,0,none⟩)] w (Ay B b l T w):=by
 have a:Hid (Calls _ _ _ _ _):=hC;have h:=Aa he 0;have j:=follows;clear he hC;rcases hs with⟨rfl,rfl⟩|⟨rfl,rfl⟩|⟨rfl,rfl⟩|⟨rfl,rfl⟩
 all_goals
  go_enter Tryz.func15,Tryz.ntmps15
  go_wp2_with fail
  refine a.out.mono ?_;rintro e g ⟨rfl,c⟩;have d:Hid (Ae B b l T w g):=c;clear c a;go_wp2_with fail
  go_end0
  exact⟨rfl,d.out⟩
theorem dY (B b be at' len cap:Nat)(l:List UInt8)(w:World)(op nm:ByteArray)(i:Int)(pa:Option Addr)(he:Ar w be 0 op nm i at' pa len cap)(hi:-9223372036854775808<=i/\i<=9223372036854775807)(hB:Bld B b l w)
  (hlen:l.length+(Lib.itoa i).length<=140737488355328) :
  Calls Tryz.prog 15 #[.pointer (some ⟨b,0,none⟩),.pointer (some ⟨be,0,none⟩)] w (Ay B b l (Lib.itoa i) w):=by
 have k:Hid (Ae B b l ([]:List UInt8) w w):=Ae.nil hB;have c:Hid (Calls _ 31 #[_,_] w _):=Tryz.strconv_FormatInt_10 i hi.1 hi.2 w hB.tab;have n:=Aa he 0;have o:=Aa he 3;have q:=follows;generalize Lib.itoa i=t at c hlen |-;have h:Hid (l.length+t.length<=140737488355328):=hlen;clear he hB hi hlen;go_enter Tryz.func15,Tryz.ntmps15
 go_wp2_with (go_at_call 31;refine c.out.mono ?_;rintro e g ⟨rfl,d⟩;have a:Hid (Ae B b l ([]:List UInt8) w g):=k.out.grew d;clear d)
 refine(Aw B b _ g _ [⟨t.toArray⟩] 1 t rfl rfl (by decide) (by simp[De]) a.out.1 (by have p:=h.out;rw[List.append_nil];omega)).mono ?_;rintro e m ⟨rfl,f⟩;have j:Hid (Ae B b l t w m):=a.out.put f rfl;clear f a;go_wp2_with fail
 go_end0
 exact⟨rfl,j.out⟩
theorem Zy {n:Nat}(hW:WrE n)(B b be at' len cap:Nat)(l:List UInt8)(w:World)(op nm:ByteArray)(i:Int)(pa:Option Addr)(kids:List PX)(he:Ar w be 5 op nm i at' pa len cap)(hr:Bw (·<B) w (Bt (·<B) w n) pa len kids)(hB:Bld B b l w)
  (hlen:l.length+(Ef nm.data.toList kids).tx.length<=140737488355328) :
  Calls Tryz.prog 15 #[.pointer (some ⟨b,0,none⟩),.pointer (some ⟨be,0,none⟩)] w (Ay B b l (Ef nm.data.toList kids).tx w):=by
 have a:(nm++⟨#[40]⟩:ByteArray).data.toList++(Cx kids++(⟨#[41]⟩:ByteArray).data.toList)=(Ef nm.data.toList kids).tx:=by simp[Ef,ByteArray.data_append]
 have j:Hid (∀W,Ad w W->Calls Tryz.prog 32 #[.pointer (some ⟨b,0,none⟩),.string (nm++⟨#[40]⟩),.slice pa len cap,.string ⟨#[41]⟩] W (Ay B b l (Ef nm.data.toList kids).tx W)):=fun W hg=>by
  have:=Lc hW B b l W (nm++⟨#[40]⟩) ⟨#[41]⟩ pa len cap kids (hr.kp (Kp.grew (b:=b) hg hB.low)) (hB.grew hg) (by rw[a];exact hlen);rw[a] at this;exact this
 have h:Hid (Bld B b l w):=hB;have f:Hid (Ar w be 5 op nm i at' pa len cap):=he;have m:=Ac he;have g:nm.size<=140737488355328:=by simp[Ef] at hlen;omega
 have c:nm.size<=9223372036854775806:=by omega
 have p:=Aa he 0;have q:=Aa he 2;have r:=Aa he 5;have s:=Aa (f.out.of (P:=fun _=>True) (Fr.grew (Ad.refl w).drew) trivial) 2;have t:=Aa (f.out.of (P:=fun _=>True) (Fr.grew (Ad.refl w).drew) trivial) 5;have u:=follows;clear he hr hB hlen hW a;go_enter Tryz.func15,Tryz.ntmps15
 go_wp2_with fail
 go_region_with (go_at_call 32;refine(j.out _ (Ad.refl w).drew).mono ?_;rintro e o ⟨rfl,d⟩;have k:Hid (Ae B b l (Ef nm.data.toList kids).tx w o):=⟨d.1,(Kp.grew (Ad.refl w).drew h.out.low).trans d.2⟩;clear d)
 all_goals go_wp2_with fail
 all_goals go_end0
 all_goals exact⟨rfl,k.out⟩
theorem wrE:∀n,WrE n
 | 0=>fun _ _ _ _ _ _ h=>absurd h id
 | n+1=>fun B b l w x v h hB hlen=>by
  obtain⟨be,sort,op,nm,i,a,pa,len,cap,kids,rfl,h2,h3,h4,h5⟩:=h;have hW:=wrE n;rcases h5 with⟨rfl,hi1,hi2,rfl⟩|⟨rfl,rfl⟩|⟨rfl,rfl⟩|⟨rfl,rfl⟩|⟨rfl,rfl⟩|⟨rfl,rfl⟩|⟨rfl,rfl⟩|⟨rfl,rfl⟩|⟨rfl,ka,kb,kc,rfl,rfl⟩|⟨rfl,ka,kb,rfl,rfl⟩|⟨rfl,ho,ka,kb,rfl,rfl⟩|⟨hs,hop⟩
  ·exact dY B b be a len cap l w op nm i pa h3 ⟨hi1,hi2⟩ hB hlen
  ·exact dW B b be a len cap l w op nm i pa h3 hB hlen
  ·exact Xd B b be a len cap l w op nm i pa h3 hB hlen
  ·exact Zx B b be a len cap l w op nm i pa h3 hB hlen
  ·exact Uz B b be a len cap l w op nm i pa h3 hB hlen
  ·exact Zy hW B b be a len cap l w op nm i pa kids h3 h4 hB hlen
  ·exact Pb B b be a len cap l w op nm i pa h3 hB hlen
  ·exact Sg B b be a len cap l w op nm i pa h3 hB hlen
  ·exact L9 B b be 8 a len cap _ l _ w op nm i pa h3 (.inl ⟨rfl,rfl⟩) (Xb hW B b be 8 a len cap l w op nm i pa ka kb kc h3 h2 h4 hB hlen)
  ·exact dX hW B b be 9 a len cap l w op nm i pa ka kb h3 h2 h4 hB rfl hlen
  ·exact L9 B b be 10 a len cap _ l _ w op nm i pa h3 (.inr (.inl ⟨rfl,rfl⟩)) (dV hW B b be 10 a len cap l w op nm i pa ka kb h3 h2 h4 hB ho hlen)
  ·exact L9 B b be sort a len cap _ l _ w op nm i pa h3 (.inr (.inr (hs.imp (fun q=>⟨q,rfl⟩) (fun q=>⟨q,rfl⟩)))) (Sf hW B b be sort a len cap l w op nm i pa kids x h3 h2 h4 hB hop hlen)
theorem Xe (B b:Nat)(l:List UInt8)(w:World)(h:Lib.IsBuilder 45 5 B b (Lib.byteCells l) w)(h0:0<l.length) :
  Calls Tryz.prog 16 #[.pointer (some ⟨b,0,none⟩)] w fun e w'=>e=.returned (.string ⟨l.toArray⟩)/\Below B w w':=by
 obtain⟨p,y,v,d,c,t⟩:∃p,Lib.BuilderAt 45 5 B b p (Lib.byteCells l) w:=by
  rcases h with h|h
  ·exact⟨_,h⟩
  ·exact⟨_,h⟩
 rw[Lib.byteCells_length] at c;have a:=c;rcases c.2 with⟨-,E⟩|⟨g,f,i,rfl,m,u,s,n,r,-⟩
 ·omega
 have k:w.drew.heap[b]?=some (.cells #[p,.slice (some ⟨g,0,none⟩) l.length f] 45 (0,0)):=d;have o:w.drew.heap[g]?=some (.cells i 5 (0,0)):=u;have C:=Aa d 1;have D:=Aa k 1;have z:(Builtin.unsafeSliceData_ #[41] 85 #[.slice (some ⟨g,0,none⟩) l.length f]).run Tryz.prog w.drew=.ok (.pointer (some ⟨g,0,none⟩)) w.drew :=
  Lib.run_unsafeSliceData_row _ _ _ _ _ _ (by omega)
 have A:(Builtin.unsafeString_ #[85,3] 9 #[.pointer (some ⟨g,0,none⟩),.int .i64 l.length]).run Tryz.prog w.drew=.ok (.string ⟨l.toArray⟩) (w.drew.freeze ⟨g,0,none⟩ l.length) :=
  Lib.run_unsafeString_row w.drew 85 3 9 5 Tryz.underlying85 (by kernel_rfl) g i.size (by simp[World.shape?,o]) l (by intro e;rw[e] at h0;simp at h0) (by omega) (by unfold maxLen at n;omega)
   fun j x hx=>a.cells (g:=g) rfl j (.int .u8 x.toNat) (by simp[Lib.byteCells,hx])
 have F:=follows;have q:Hid (B<=g):=m;clear d k u o c a s n r m t y h;go_enter Tryz.func16,Tryz.ntmps16
 go_wp2_with fail
 go_region_o
 all_goals go_wp2_with fail
 all_goals go_ret
 all_goals exact⟨rfl,Lib.below_freeze (Below.drew (Below.refl B w)) (p:=⟨g,0,none⟩) q.out _⟩
theorem Fr.low {w w':World}{B:Nat}(h:Below B w w')(hb:w.heap.size<=B):Fr (fun _=>True) w w':=⟨h.os,h.tape,h.output,h.size,fun k hk _=>h.block k (by omega)⟩
end Go.Proofs.YtjbfcadeapphbaaGreatDoor.Sx
