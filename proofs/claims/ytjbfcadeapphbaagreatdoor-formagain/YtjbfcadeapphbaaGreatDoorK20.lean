/- The writer: operators, all. -/
import Derived.Test.YtjbfcadeapphbaaGreatDoorK19
namespace Go.Proofs.YtjbfcadeapphbaaGreatDoor.Sx
set_option maxRecDepth 100000
set_option maxHeartbeats 1000000
open Go.RowKit Go.Sort
attribute [local go_sem] Kg
def Th (x:PX):List UInt8:=[45]++A9 x 12
theorem Mh {op:ByteArray}{l:List UInt8}(h:op.data.toList=l):op=⟨l.toArray⟩:=ByteArray.ext (by rw[<- h])
theorem Fl (op:ByteArray)(w:World)(h:Ae op.data.toList=0):Calls Tryz.prog 67 #[.string op] w fun e w'=>e=.returned (.agg #[.int .i64 (-1),.int .i64 0,.int .i64 0])/\Ag w w':=by
 have:=Hd op w;unfold Jn at this;rw[if_pos h] at this;exact this
theorem Qw {n:Nat}(hW:WrE n)(B b be sort at' len cap:Nat)(l:List UInt8)(w:World)(op nm:ByteArray)(i:Int)(pa:Option Addr)(kids:List PX)(he:Ao w be sort op nm i at' pa len cap)(hr:Ca (·<B) w (A7 (·<B) w n) pa len kids)(hB:Bld B b l w)(hop:op.data.toList=[115,101,116])
  (hlen:l.length+((Kt kids).tx).length<=140737488355328) :
  Calls Tryz.prog 35 #[.pointer (some ⟨b,0,none⟩),.pointer (some ⟨be,0,none⟩)] w (Av B b l ((Kt kids).tx) w):=by
 obtain rfl:op=⟨#[115,101,116]⟩:=Mh hop;have a:Hid (Ao w be sort _ nm i at' pa len cap):=he;have p:Hid (WrE n):=hW;have r:Hid (Ad B b l ([]:List UInt8) w w):=Ad.nil hB;have m:Hid (l.length+((Kt kids).tx).length<=140737488355328):=hlen;have o:Hid (Ca (·<B) w (A7 (·<B) w n) pa len kids):=hr;have k:Hid (Calls _ _ _ _ _):=Fl ⟨#[115,101,116]⟩ w rfl;have z:=follows;clear he hW hB hr hlen hop;go_enter Tryz.func35,Tryz.ntmps35
 have u:=Aa a.out 1;have v:=Aa a.out 5;have f:Hid (∀w2:World,Ag w w2->Ad B b l ([]:List UInt8) w (w2.alloc (.cells #[.int .i64 (-1),.int .i64 0,.int .i64 0] 130))):=fun w2 hg=>r.out.grew (hg.alloc _);have s:=Ab a.out;go_wp2_with (go_at_call 67;refine k.out.mono ?_;rintro e w2 ⟨rfl,hg⟩;have c:Hid (Ad B b l ([]:List UInt8) w (w2.alloc (.cells #[.int .i64 (-1),.int .i64 0,.int .i64 0] 130))):=f.out w2 hg;have x:=Aa (a.out.of (P:=fun _=>True) (Fr.grew hg) trivial) 1;have y:=Aa (a.out.of (P:=fun _=>True) (Fr.grew hg) trivial) 5;have h:=Ab (a.out.of (P:=fun _=>True) (Fr.grew hg) trivial);clear hg)
 have g:(⟨#[123]⟩:ByteArray).data.toList++(C0 kids++(⟨#[125]⟩:ByteArray).data.toList)=(Kt kids).tx:=rfl;have d:=Kh p.out B b (l++[]) _ ⟨#[123]⟩ ⟨#[125]⟩ pa len cap kids (o.out.kp c.out.kp) c.out.1 (by rw[g,List.append_nil];exact m.out);rw[g] at d;refine d.mono ?_;rintro e t ⟨rfl,j⟩;have q:Hid (Ad B b l (Kt kids).tx w t):=c.out.put j rfl;clear j d g c;go_wp2_with fail
 go_end0
 exact⟨rfl,q.out⟩
theorem Qx {n:Nat}(hW:WrE n)(B b be sort at' len cap:Nat)(l:List UInt8)(w:World)(op nm:ByteArray)(i:Int)(pa:Option Addr)(kids:List PX)(he:Ao w be sort op nm i at' pa len cap)(hr:Ca (·<B) w (A7 (·<B) w n) pa len kids)(hB:Bld B b l w)(hop:op.data.toList=[115,101,113])
  (hlen:l.length+((Jq kids).tx).length<=140737488355328) :
  Calls Tryz.prog 35 #[.pointer (some ⟨b,0,none⟩),.pointer (some ⟨be,0,none⟩)] w (Av B b l ((Jq kids).tx) w):=by
 obtain rfl:op=⟨#[115,101,113]⟩:=Mh hop;have a:Hid (Ao w be sort _ nm i at' pa len cap):=he;have p:Hid (WrE n):=hW;have r:Hid (Ad B b l ([]:List UInt8) w w):=Ad.nil hB;have m:Hid (l.length+((Jq kids).tx).length<=140737488355328):=hlen;have o:Hid (Ca (·<B) w (A7 (·<B) w n) pa len kids):=hr;have k:Hid (Calls _ _ _ _ _):=Fl ⟨#[115,101,113]⟩ w rfl;have z:=follows;clear he hW hB hr hlen hop;go_enter Tryz.func35,Tryz.ntmps35
 have u:=Aa a.out 1;have v:=Aa a.out 5;have f:Hid (∀w2:World,Ag w w2->Ad B b l ([]:List UInt8) w (w2.alloc (.cells #[.int .i64 (-1),.int .i64 0,.int .i64 0] 130))):=fun w2 hg=>r.out.grew (hg.alloc _);have s:=Ab a.out;go_wp2_with (go_at_call 67;refine k.out.mono ?_;rintro e w2 ⟨rfl,hg⟩;have c:Hid (Ad B b l ([]:List UInt8) w (w2.alloc (.cells #[.int .i64 (-1),.int .i64 0,.int .i64 0] 130))):=f.out w2 hg;have x:=Aa (a.out.of (P:=fun _=>True) (Fr.grew hg) trivial) 1;have y:=Aa (a.out.of (P:=fun _=>True) (Fr.grew hg) trivial) 5;have h:=Ab (a.out.of (P:=fun _=>True) (Fr.grew hg) trivial);clear hg)
 have g:(⟨#[60,60]⟩:ByteArray).data.toList++(C0 kids++(⟨#[62,62]⟩:ByteArray).data.toList)=(Jq kids).tx:=rfl;have d:=Kh p.out B b (l++[]) _ ⟨#[60,60]⟩ ⟨#[62,62]⟩ pa len cap kids (o.out.kp c.out.kp) c.out.1 (by rw[g,List.append_nil];exact m.out);rw[g] at d;refine d.mono ?_;rintro e t ⟨rfl,j⟩;have q:Hid (Ad B b l (Jq kids).tx w t):=c.out.put j rfl;clear j d g c;go_wp2_with fail
 go_end0
 exact⟨rfl,q.out⟩
theorem Qy {n:Nat}(hW:WrE n)(B b be sort at' len cap:Nat)(l:List UInt8)(w:World)(op nm:ByteArray)(i:Int)(pa:Option Addr)(kids:List PX)(he:Ao w be sort op nm i at' pa len cap)(hr:Ca (·<B) w (A7 (·<B) w n) pa len kids)(hB:Bld B b l w)(hop:op.data.toList=[102,117,110])
  (hlen:l.length+((Kl kids).tx).length<=140737488355328) :
  Calls Tryz.prog 35 #[.pointer (some ⟨b,0,none⟩),.pointer (some ⟨be,0,none⟩)] w (Av B b l ((Kl kids).tx) w):=by
 obtain rfl:op=⟨#[102,117,110]⟩:=Mh hop;have a:Hid (Ao w be sort _ nm i at' pa len cap):=he;have m:Hid (WrE n):=hW;have p:Hid (Ad B b l ([]:List UInt8) w w):=Ad.nil hB;have j:Hid (l.length+((Kl kids).tx).length<=140737488355328):=hlen;have k:Hid (Ca (·<B) w (A7 (·<B) w n) pa len kids):=hr;have h:Hid (Calls _ _ _ _ _):=Fl ⟨#[102,117,110]⟩ w rfl;have x:=follows;clear he hW hB hr hlen hop;go_enter Tryz.func35,Tryz.ntmps35
 have s:=Aa a.out 1;have t:=Aa a.out 5;have d:Hid (∀w2:World,Ag w w2->Ad B b l ([]:List UInt8) w (w2.alloc (.cells #[.int .i64 (-1),.int .i64 0,.int .i64 0] 130))):=fun w2 hg=>p.out.grew (hg.alloc _);have q:=Ab a.out;go_wp2_with (go_at_call 67;refine h.out.mono ?_;rintro e w2 ⟨rfl,hg⟩;have c:Hid (Ad B b l ([]:List UInt8) w (w2.alloc (.cells #[.int .i64 (-1),.int .i64 0,.int .i64 0] 130))):=d.out w2 hg;have u:=Aa (a.out.of (P:=fun _=>True) (Fr.grew hg) trivial) 1;have v:=Aa (a.out.of (P:=fun _=>True) (Fr.grew hg) trivial) 5;have f:=Ab (a.out.of (P:=fun _=>True) (Fr.grew hg) trivial);clear hg)
 refine(Qv m.out B b (l++[]) _ pa len cap kids (k.out.kp c.out.kp) c.out.1 (by rw[List.append_nil];exact j.out)).mono ?_;rintro e r ⟨rfl,g⟩;have o:Hid (Ad B b l (Kl kids).tx w r):=c.out.put g rfl;clear g c;go_wp2_with fail
 go_end0
 exact⟨rfl,o.out⟩
theorem Qz {n:Nat}(hW:WrE n)(B b be sort at' len cap:Nat)(l:List UInt8)(w:World)(op nm:ByteArray)(i:Int)(pa:Option Addr)(ka kb kc:PX)(he:Ao w be sort op nm i at' pa len cap)(hbe:be<B)(hr:Ca (·<B) w (A7 (·<B) w n) pa len [ka,kb,kc])(hB:Bld B b l w)(hop:op.data.toList=[112,117,116])
  (hlen:l.length+((Ht ka kb kc).tx).length<=140737488355328) :
  Calls Tryz.prog 35 #[.pointer (some ⟨b,0,none⟩),.pointer (some ⟨be,0,none⟩)] w (Av B b l ((Ht ka kb kc).tx) w):=by
 obtain rfl:op=⟨#[112,117,116]⟩:=Mh hop;have g:Hid (Ao w be sort _ nm i at' pa len cap):=he;have HJ:Hid (Calls _ _ _ _ _):=Fl ⟨#[112,117,116]⟩ w rfl;have I:Hid (WrE n):=hW;have H:Hid (Bld B b l w):=hB;have G:Hid (Ad B b l ([]:List UInt8) w w):=Ad.nil hB;have mo:=follows;have u:Hid (l.length+((Ht ka kb kc).tx).length<=140737488355328):=hlen;obtain⟨rfl,C,A,S,z,T,x0,Y,r0,x1,Z,r1,x2,q2,r2⟩:=kE hr;subst S;have J:Hid (A7 (·<B) w n _ _):=r0;have a:Hid (∀W,Kp B b w W->W.cell? ⟨C,A,none⟩=some (.pointer (some ⟨x0,0,none⟩))):=fun W k=>(World.cell?_of_block (w:=w) (k.1.block C z)).trans Y;have K:Hid (A7 (·<B) w n _ _):=r1;have c:Hid (∀W,Kp B b w W->W.cell? ⟨C,A+1,none⟩=some (.pointer (some ⟨x1,0,none⟩))):=fun W k=>(World.cell?_of_block (w:=w) (k.1.block C z)).trans Z;have L:Hid (A7 (·<B) w n _ _):=r2;have d:Hid (∀W,Kp B b w W->W.cell? ⟨C,A+2,none⟩=some (.pointer (some ⟨x2,0,none⟩))):=fun W k=>(World.cell?_of_block (w:=w) (k.1.block C z)).trans q2;clear Y r0 Z r1 q2 r2;clear he hW hB hr hlen hop;simp only[Ht] at u |-;go_enter Tryz.func35,Tryz.ntmps35
 have j:=Aa g.out 1;have m:=Aa g.out 5;have p:=a.out _ G.out.kp;have q:=c.out _ G.out.kp;have r:=d.out _ G.out.kp;have M:Hid (∀w2:World,Ag w w2->Ad B b l ([]:List UInt8) w (w2.alloc (.cells #[.int .i64 (-1),.int .i64 0,.int .i64 0] 130))):=fun w2 hg=>G.out.grew (hg.alloc _);have R:=Ab g.out;go_wp2_with (go_at_call 67;refine HJ.out.mono ?_;rintro e w2 ⟨rfl,hg⟩;have D:Hid (Ad B b l ([]:List UInt8) w (w2.alloc (.cells #[.int .i64 (-1),.int .i64 0,.int .i64 0] 130))):=M.out w2 hg;have g1:=Aa (g.out.of (P:=fun _=>True) (Fr.grew hg) trivial) 1;have g5:=Aa (g.out.of (P:=fun _=>True) (Fr.grew hg) trivial) 5;have E:=Ab (g.out.of (P:=fun _=>True) (Fr.grew hg) trivial);have N:=a.out _ (Kp.grew hg H.out.low);have U:=a.out _ D.out.kp;have O:=c.out _ (Kp.grew hg H.out.low);have V:=c.out _ D.out.kp;have Q:=d.out _ (Kp.grew hg H.out.low);have X:=d.out _ D.out.kp;have F:C<w2.heap.size:=Nat.lt_of_lt_of_le T hg.below.size;clear hg)
 clear j m p q r R g1 g5 E F N U O V Q X;refine(Fv I.out B b _ _ ka _ 13 (J.out.kp D.out.kp) D.out.1 (by have o:=u.out;simp only[List.length_append,List.length_cons,List.length_nil] at o |-;omega)).mono ?_;rintro e v1 ⟨rfl,f⟩;have v:Hid (Ad B b l (([]:List UInt8)++A9 ka 13) w v1):=D.out.put f rfl;clear f;have j:=Aa (g.out.kp v.out.kp hbe) 1;have m:=Aa (g.out.kp v.out.kp hbe) 5;have p:=a.out _ v.out.kp;have q:=c.out _ v.out.kp;have r:=d.out _ v.out.kp;go_wp2_with fail
 clear j m p q r;refine(Ar B b _ v1 _ [⟨#[91]⟩] 1 [91] rfl rfl (by decide) (by simp[Cs]) v.out.1 (by have o:=u.out;simp only[List.length_append,List.length_cons,List.length_nil] at o |-;omega)).mono ?_;rintro e v2 ⟨rfl,f⟩;have s:Hid (Ad B b l ((([]:List UInt8)++A9 ka 13)++[91]) w v2):=v.out.put f rfl;clear f;have j:=Aa (g.out.kp s.out.kp hbe) 1;have m:=Aa (g.out.kp s.out.kp hbe) 5;have p:=a.out _ s.out.kp;have q:=c.out _ s.out.kp;have r:=d.out _ s.out.kp;go_wp2_with fail
 clear j m p q r;refine(I.out B b _ v2 kb _ (K.out.kp s.out.kp) s.out.1 (by have o:=u.out;simp only[List.length_append,List.length_cons,List.length_nil] at o |-;omega)).mono ?_;rintro e v3 ⟨rfl,f⟩;have x:Hid (Ad B b l (((([]:List UInt8)++A9 ka 13)++[91])++kb.tx) w v3):=s.out.put f rfl;clear f;have j:=Aa (g.out.kp x.out.kp hbe) 1;have m:=Aa (g.out.kp x.out.kp hbe) 5;have p:=a.out _ x.out.kp;have q:=c.out _ x.out.kp;have r:=d.out _ x.out.kp;go_wp2_with fail
 clear j m p q r;refine(Ar B b _ v3 _ [⟨#[32,58,61,32]⟩] 1 [32,58,61,32] rfl rfl (by decide) (by simp[Cs]) x.out.1 (by have o:=u.out;simp only[List.length_append,List.length_cons,List.length_nil] at o |-;omega)).mono ?_;rintro e v4 ⟨rfl,f⟩;have t:Hid (Ad B b l ((((([]:List UInt8)++A9 ka 13)++[91])++kb.tx)++[32,58,61,32]) w v4):=x.out.put f rfl;clear f;have j:=Aa (g.out.kp t.out.kp hbe) 1;have m:=Aa (g.out.kp t.out.kp hbe) 5;have p:=a.out _ t.out.kp;have q:=c.out _ t.out.kp;have r:=d.out _ t.out.kp;go_wp2_with fail
 clear j m p q r;refine(I.out B b _ v4 kc _ (L.out.kp t.out.kp) t.out.1 (by have o:=u.out;simp only[List.length_append,List.length_cons,List.length_nil] at o |-;omega)).mono ?_;rintro e v5 ⟨rfl,f⟩;have y:Hid (Ad B b l (((((([]:List UInt8)++A9 ka 13)++[91])++kb.tx)++[32,58,61,32])++kc.tx) w v5):=t.out.put f rfl;clear f;have j:=Aa (g.out.kp y.out.kp hbe) 1;have m:=Aa (g.out.kp y.out.kp hbe) 5;have p:=a.out _ y.out.kp;have q:=c.out _ y.out.kp;have r:=d.out _ y.out.kp;go_wp2_with fail
 clear j m p q r;refine(Ar B b _ v5 _ [⟨#[93]⟩] 1 [93] rfl rfl (by decide) (by simp[Cs]) y.out.1 (by have o:=u.out;simp only[List.length_append,List.length_cons,List.length_nil] at o |-;omega)).mono ?_;rintro e v6 ⟨rfl,f⟩;have V6:Hid (Ad B b l ((((((([]:List UInt8)++A9 ka 13)++[91])++kb.tx)++[32,58,61,32])++kc.tx)++[93]) w v6):=y.out.put f rfl;clear f;go_wp2_with fail
 go_end0
 exact⟨rfl,by have h:=V6.out;simpa using h⟩
theorem Q2 {n:Nat}(hW:WrE n)(B b be sort at' len cap:Nat)(l:List UInt8)(w:World)(op nm:ByteArray)(i:Int)(pa:Option Addr)(ka:PX)(he:Ao w be sort op nm i at' pa len cap)(hbe:be<B)(hr:Ca (·<B) w (A7 (·<B) w n) pa len [ka])(hB:Bld B b l w)(hop:op.data.toList=[110,101,103])
  (hlen:l.length+(Th ka).length<=140737488355328) :
  Calls Tryz.prog 35 #[.pointer (some ⟨b,0,none⟩),.pointer (some ⟨be,0,none⟩)] w (Av B b l (Th ka) w):=by
 obtain rfl:op=⟨#[110,101,103]⟩:=Mh hop;have c:Hid (Ao w be sort _ nm i at' pa len cap):=he;have L:Hid (Calls _ _ _ _ _):=Fl ⟨#[110,101,103]⟩ w rfl;have M:Hid (WrE n):=hW;have K:Hid (Bld B b l w):=hB;have G:Hid (Ad B b l ([]:List UInt8) w w):=Ad.nil hB;have T:=follows;have p:Hid (l.length+(Th ka).length<=140737488355328):=hlen;obtain⟨rfl,E,D,z,y,A,S,H,I⟩:=kD hr;subst z;have q:Hid (A7 (·<B) w n _ _):=I;have a:Hid (∀W,Kp B b w W->W.cell? ⟨E,D,none⟩=some (.pointer (some ⟨S,0,none⟩))):=fun W k=>(World.cell?_of_block (w:=w) (k.1.block E y)).trans H;clear H I;clear he hW hB hr hlen hop;simp only[Th] at p |-;go_enter Tryz.func35,Tryz.ntmps35
 have s:=Aa c.out 1;have t:=Aa c.out 5;have F:=a.out _ G.out.kp;have r:Hid (∀w2:World,Ag w w2->Ad B b l ([]:List UInt8) w (w2.alloc (.cells #[.int .i64 (-1),.int .i64 0,.int .i64 0] 130))):=fun w2 hg=>G.out.grew (hg.alloc _);have x:=Ab c.out;go_wp2_with (go_at_call 67;refine L.out.mono ?_;rintro e w2 ⟨rfl,hg⟩;have o:Hid (Ad B b l ([]:List UInt8) w (w2.alloc (.cells #[.int .i64 (-1),.int .i64 0,.int .i64 0] 130))):=r.out w2 hg;have O:=Aa (c.out.of (P:=fun _=>True) (Fr.grew hg) trivial) 1;have Q:=Aa (c.out.of (P:=fun _=>True) (Fr.grew hg) trivial) 5;have f:=Ab (c.out.of (P:=fun _=>True) (Fr.grew hg) trivial);have u:=a.out _ (Kp.grew hg K.out.low);have C:=a.out _ o.out.kp;have g:E<w2.heap.size:=Nat.lt_of_lt_of_le A hg.below.size;clear hg)
 clear s t F x O Q f g u C;have j:(w2.alloc (.cells #[.int .i64 (-1),.int .i64 0,.int .i64 0] 130)).heap.size=w2.heap.size+1:=by simp
 rw[<- j];clear j;generalize w2.alloc (.cells #[.int .i64 (-1),.int .i64 0,.int .i64 0] 130)=v0 at o |-;refine(Ar B b _ v0 _ [⟨#[45]⟩] 1 [45] rfl rfl (by decide) (by simp[Cs]) o.out.1 (by have v:=p.out;simp only[List.length_append,List.length_cons,List.length_nil] at v |-;omega)).mono ?_;rintro e J ⟨rfl,m⟩;have d:Hid (Ad B b l (([]:List UInt8)++[45]) w J):=o.out.put m rfl;clear m;have s:=Aa (c.out.kp d.out.kp hbe) 1;have t:=Aa (c.out.kp d.out.kp hbe) 5;have F:=a.out _ d.out.kp;go_wp2_with fail
 clear s t F;refine(Fv M.out B b _ J ka _ 12 (q.out.kp d.out.kp) d.out.1 (by have v:=p.out;simp only[List.length_append,List.length_cons,List.length_nil] at v |-;omega)).mono ?_;rintro e R ⟨rfl,m⟩;have N:Hid (Ad B b l ((([]:List UInt8)++[45])++A9 ka 12) w R):=d.out.put m rfl;clear m;go_wp2_with fail
 go_end0
 exact⟨rfl,by have h:=N.out;simpa using h⟩
theorem Ti {n:Nat}(hW:WrE n)(B b be sort at' len cap:Nat)(l:List UInt8)(w:World)(op nm:ByteArray)(i:Int)(pa:Option Addr)(ka kb:PX)(he:Ao w be sort op nm i at' pa len cap)(hbe:be<B)(hr:Ca (·<B) w (A7 (·<B) w n) pa len [ka,kb])(hB:Bld B b l w)(hop:op.data.toList=[97,116])
  (hlen:l.length+((dAt ka kb).tx).length<=140737488355328) :
  Calls Tryz.prog 35 #[.pointer (some ⟨b,0,none⟩),.pointer (some ⟨be,0,none⟩)] w (Av B b l ((dAt ka kb).tx) w):=by
 obtain rfl:op=⟨#[97,116]⟩:=Mh hop;have f:Hid (Ao w be sort _ nm i at' pa len cap):=he;have S:Hid (Calls _ _ _ _ _):=Fl ⟨#[97,116]⟩ w rfl;have U:Hid (WrE n):=hW;have G:Hid (Bld B b l w):=hB;have v:Hid (Ad B b l ([]:List UInt8) w w):=Ad.nil hB;have mo:=follows;have T:Hid (l.length+((dAt ka kb).tx).length<=140737488355328):=hlen;obtain⟨rfl,h,d,A,m,o,E,L,N,F,M,O⟩:=dT hr;subst A;have s:Hid (A7 (·<B) w n _ _):=N;have a:Hid (∀W,Kp B b w W->W.cell? ⟨h,d,none⟩=some (.pointer (some ⟨E,0,none⟩))):=fun W k=>(World.cell?_of_block (w:=w) (k.1.block h m)).trans L;have t:Hid (A7 (·<B) w n _ _):=O;have c:Hid (∀W,Kp B b w W->W.cell? ⟨h,d+1,none⟩=some (.pointer (some ⟨F,0,none⟩))):=fun W k=>(World.cell?_of_block (w:=w) (k.1.block h m)).trans M;clear L N M O;clear he hW hB hr hlen hop;go_enter Tryz.func35,Tryz.ntmps35
 have V:=Aa f.out 1;have H:=Aa f.out 5;have Q:=a.out _ v.out.kp;have R:=c.out _ v.out.kp;have u:Hid (∀w2:World,Ag w w2->Ad B b l ([]:List UInt8) w (w2.alloc (.cells #[.int .i64 (-1),.int .i64 0,.int .i64 0] 130))):=fun w2 hg=>v.out.grew (hg.alloc _);have z:=Ab f.out;go_wp2_with (go_at_call 67;refine S.out.mono ?_;rintro e w2 ⟨rfl,hg⟩;have g:Hid (Ad B b l ([]:List UInt8) w (w2.alloc (.cells #[.int .i64 (-1),.int .i64 0,.int .i64 0] 130))):=u.out w2 hg;have X:=Aa (f.out.of (P:=fun _=>True) (Fr.grew hg) trivial) 1;have Y:=Aa (f.out.of (P:=fun _=>True) (Fr.grew hg) trivial) 5;have j:=Ab (f.out.of (P:=fun _=>True) (Fr.grew hg) trivial);have x:=a.out _ (Kp.grew hg G.out.low);have C:=a.out _ g.out.kp;have y:=c.out _ (Kp.grew hg G.out.low);have D:=c.out _ g.out.kp;have p:h<w2.heap.size:=Nat.lt_of_lt_of_le o hg.below.size;clear hg)
 clear V H Q R z X Y j p x C y D;generalize w2.alloc (.cells #[.int .i64 (-1),.int .i64 0,.int .i64 0] 130)=v0 at g |-;have H:=Aa (f.out.kp g.out.kp hbe) 5;have Q:=a.out _ g.out.kp;have R:=c.out _ g.out.kp;have I:=Ab (f.out.kp g.out.kp hbe);have J:h<v0.heap.size:=Nat.lt_of_lt_of_le o g.out.kp.1.size;have r:Hid (Ad B b l ([]:List UInt8) w v0.drew):=g.out.grew (Ag.refl _).drew;go_region_held3 (fun w'=>w'.cell? ⟨be,5,none⟩=some (.slice (some ⟨h,d,none⟩) 2 cap)/\w'.cell? ⟨h,d,none⟩=some (.pointer (some ⟨E,0,none⟩))/\w'.cell? ⟨h,d+1,none⟩=some (.pointer (some ⟨F,0,none⟩))) (first|(refine⟨?_,?_,?_⟩<;>assumption)|go_keep)
   ((go_at_call 69;refine(Xt U.out B b E F (l++[]) v0.drew ka kb (s.out.kp r.out.kp) (t.out.kp r.out.kp) r.out.1 (by rw[List.append_nil];exact T.out)).mono ?_;rintro e v1 ⟨rfl,K⟩;have q:Hid (Ad B b l (dAt ka kb).tx w v1):=r.out.put K rfl;have j5:=Aa (f.out.kp q.out.kp hbe) 5;have Z:=a.out _ q.out.kp;have a0:=c.out _ q.out.kp;clear K))
 go_wp2_with fail
 go_end0
 exact⟨rfl,q.out⟩
end Go.Proofs.YtjbfcadeapphbaaGreatDoor.Sx
namespace Go.Proofs.YtjbfcadeapphbaaGreatDoor.Sx
set_option maxRecDepth 100000
set_option maxHeartbeats 1000000
open Go.RowKit Go.Sort
attribute [local go_sem] Kg
def six:List (List UInt8):=[dG,dH,Uu,oAt,Xb,Xc]
theorem H3 (B b be sort at' len cap:Nat)(l T:List UInt8)(w:World)(op nm:ByteArray)(i:Int)(pa:Option Addr)(he:Ao w be sort op nm i at' pa len cap)(hB:Bld B b l w)(h0:Ae op.data.toList=0)(h6:op.data.toList ∉ six)
  (hC:∀W,Kp B b w W->Bld B b (l++[]) W->Calls Tryz.prog 70 #[.pointer (some ⟨b,0,none⟩),.pointer (some ⟨be,0,none⟩)] W (Av B b (l++[]) T W)) :
  Calls Tryz.prog 35 #[.pointer (some ⟨b,0,none⟩),.pointer (some ⟨be,0,none⟩)] w (Av B b l T w):=by
 have f:Hid (Ao w be sort op nm i at' pa len cap):=he;have t:Hid (Ad B b l ([]:List UInt8) w w):=Ad.nil hB;have q:Hid (∀W,Kp B b w W->Bld B b (l++[]) W->_):=hC;have r:Hid (Calls _ _ _ _ _):=Fl op w h0;have a:op.toList=op.data.toList:=ByteArray.toList_eq op;simp only[six,List.mem_cons,List.not_mem_nil,or_false,not_or] at h6;obtain⟨j,k,m,n,o,p⟩:=h6;have A:(op.toList==[115,101,116])=false:=by rw[a];simpa [dG] using j
 have C:(op.toList==[115,101,113])=false:=by rw[a];simpa [dH] using k
 have D:(op.toList==[102,117,110])=false:=by rw[a];simpa [Uu] using m
 have E:(op.toList==[97,116])=false:=by rw[a];simpa [oAt] using n
 have F:(op.toList==[112,117,116])=false:=by rw[a];simpa [Xb] using o
 have G:(op.toList==[110,101,103])=false:=by rw[a];simpa [Xc] using p
 have u:=Ab he;have y:=Aa he 1;have H:=follows;clear he hB h0 j k m n o p a hC;go_enter Tryz.func35,Tryz.ntmps35
 go_wp2_with (go_at_call 67;refine r.out.mono ?_;rintro e x ⟨rfl,d⟩;have c:Hid (Ad B b l ([]:List UInt8) w (x.alloc (.cells #[.int .i64 (-1),.int .i64 0,.int .i64 0] 130))):=t.out.grew (d.alloc _);have z:=Aa (f.out.of (P:=fun _=>True) (Fr.grew d) trivial) 1;have g:=Ab (f.out.of (P:=fun _=>True) (Fr.grew d) trivial);clear d)
 refine(q.out _ c.out.kp c.out.1).mono ?_;rintro e v ⟨rfl,h⟩;have s:Hid (Ad B b l T w v):=c.out.put h rfl;clear h c;go_wp2_with fail
 go_end0
 exact⟨rfl,s.out⟩
theorem K0 {op:List UInt8}(h:op∈Hf\/op∈Gr\/op∈Cz):Ae op=0/\op ∉ six:=by
 simp only[Hf,Gr,Cz,List.mem_cons,List.not_mem_nil,or_false] at h;rcases h with(rfl|rfl|rfl)|(rfl|rfl|rfl)|(rfl|rfl|rfl|rfl|rfl|rfl|rfl)<;>exact⟨by decide,by decide⟩
theorem Vc {op:List UInt8}{a:PX}{r:Nat}(h:op∈Hf\/op∈Gr):(Em r op a).tx=op++32::A9 a r:=by
 have:op≠Ks:=by
  simp only[Hf,Gr,List.mem_cons,List.not_mem_nil,or_false] at h;rcases h with(rfl|rfl|rfl)|(rfl|rfl|rfl)<;>decide
 unfold Em;rw[if_neg this]
theorem Q3 {n:Nat}(hW:WrE n)(B b be sort at' len cap:Nat)(l:List UInt8)(w:World)(op nm:ByteArray)(i:Int)(pa:Option Addr)(kids:List PX)(x:PX)(he:Ao w be sort op nm i at' pa len cap)(hbe:be<B)(hr:Ca (·<B) w (A7 (·<B) w n) pa len kids)(hB:Bld B b l w)(hm:Lk op.data.toList kids x)
  (hlen:l.length+x.tx.length<=140737488355328) :
  Calls Tryz.prog 35 #[.pointer (some ⟨b,0,none⟩),.pointer (some ⟨be,0,none⟩)] w (Av B b l x.tx w):=by
 rcases hm with⟨m,o,p,rfl,rfl⟩|⟨c,rfl⟩|⟨c,rfl⟩|⟨c,rfl⟩|⟨c,f,k,rfl,rfl⟩|⟨c,f,k,v,rfl,rfl⟩|⟨c,a,rfl,rfl⟩|⟨c,a,rfl,rfl⟩|⟨c,a,rfl,rfl⟩|⟨c,rfl⟩
 ·have j:Ae op.data.toList≠0:=by
   simp only[Eu,List.map_cons,List.map_nil,List.mem_cons,List.not_mem_nil,or_false] at m;rcases m with h|h|h|h|h|h|h|h|h|h|h|h|h|h|h|h|h|h|h|h|h|h|h|h|h<;>rw[h]<;>decide
  exact Pl hW B b be sort at' len cap l w op nm i pa o p he hbe hr hB j hlen
 ·exact Qw hW B b be sort at' len cap l w op nm i pa kids he hr hB c hlen
 ·exact Qx hW B b be sort at' len cap l w op nm i pa kids he hr hB c hlen
 ·exact Qy hW B b be sort at' len cap l w op nm i pa kids he hr hB c hlen
 ·exact Ti hW B b be sort at' len cap l w op nm i pa f k he hbe hr hB c hlen
 ·exact Qz hW B b be sort at' len cap l w op nm i pa f k v he hbe hr hB c hlen
 ·exact Q2 hW B b be sort at' len cap l w op nm i pa a he hbe hr hB c hlen
 ·obtain⟨d,e⟩:=K0 (.inl c);have g:Bd op.data.toList=6:=by
   simp only[Hf,List.mem_cons,List.not_mem_nil,or_false] at c;rcases c with h|h|h<;>rw[h]<;>rfl
  rw[Vc (.inl c)] at hlen |-;exact H3 B b be sort at' len cap l _ w op nm i pa he hB d e fun W k hb=>Nd hW B b be sort at' len cap (l++[]) W op nm i pa a (he.kp k hbe) hbe (hr.kp k) hb 6 g (by decide) (by rw[List.append_nil];exact hlen)
 ·obtain⟨d,e⟩:=K0 (.inr (.inl c));have g:Bd op.data.toList=12:=by
   simp only[Gr,List.mem_cons,List.not_mem_nil,or_false] at c;rcases c with h|h|h<;>rw[h]<;>rfl
  rw[Vc (.inr c)] at hlen |-;exact H3 B b be sort at' len cap l _ w op nm i pa he hB d e fun W k hb=>Nd hW B b be sort at' len cap (l++[]) W op nm i pa a (he.kp k hbe) hbe (hr.kp k) hb 12 g (by decide) (by rw[List.append_nil];exact hlen)
 ·obtain⟨d,e⟩:=K0 (.inr (.inr c));have g:Bd op.data.toList=14:=by
   simp only[Cz,List.mem_cons,List.not_mem_nil,or_false] at c;rcases c with h|h|h|h|h|h|h<;>rw[h]<;>rfl
  exact H3 B b be sort at' len cap l _ w op nm i pa he hB d e fun W k hb=>Tg hW B b be sort at' len cap (l++[]) W op nm i pa kids (he.kp k hbe) (hr.kp k) hb g (by rw[List.append_nil];exact hlen)
end Go.Proofs.YtjbfcadeapphbaaGreatDoor.Sx
