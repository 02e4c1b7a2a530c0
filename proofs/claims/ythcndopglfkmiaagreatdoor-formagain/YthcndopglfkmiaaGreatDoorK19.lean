/- The writer: names. -/
import Derived.Test.YthcndopglfkmiaaGreatDoorK18
import Derived.Deep.RegionHeld3
namespace Go.Proofs.YthcndopglfkmiaaGreatDoor.Sx
set_option maxRecDepth 100000
set_option maxHeartbeats 1000000
open Go.RowKit Go.Sort
def H3 (sep:Nat->List UInt8)(kids:List PX)(k:Nat):List UInt8:=Bp sep 0 ((kids.take k).map PX.tx)
theorem Je (sep:Nat->List UInt8)(a:List UInt8):∀(l:List (List UInt8))(i:Nat),Bp sep i (l++[a])=Bp sep i l++(sep (i+l.length)++a)
 | [],i=>by simp[Bp]
 | c::l,i=>by
  have:=Je sep a l (i+1);simp only[List.cons_append,Bp,List.length_cons] at this |-;rw[this,show i+1+l.length=i+(l.length+1) from by omega];simp
theorem Rm (sep:Nat->List UInt8)(kids:List PX)(k:Nat)(x:PX)(h:kids[k]?=some x):H3 sep kids (k+1)=H3 sep kids k++(sep k++x.tx):=by
 have a:=(List.getElem?_eq_some_iff.1 h).1;unfold H3;rw[List.take_add_one,h,Option.toList_some,List.map_append,List.map_cons,List.map_nil,Je];simp only[List.length_map,List.length_take,Nat.zero_add];rw[show min k kids.length=k from by omega]
theorem U4 (sep:Nat->List UInt8)(kids:List PX)(k:Nat)(h:kids.length<=k):H3 sep kids k=Bp sep 0 (kids.map PX.tx):=by
 unfold H3;rw[List.take_of_length_le h]
theorem Kz (sep:Nat->List UInt8):∀(l m:List (List UInt8))(i:Nat),(Bp sep i l).length<=(Bp sep i (l++m)).length
 | [],m,i=>by simp[Bp]
 | c::l,m,i=>by
  have:=Kz sep l m (i+1);simp only[List.cons_append,Bp,List.length_append] at this |-;omega
theorem Zc (sep:Nat->List UInt8)(kids:List PX)(k:Nat):(H3 sep kids k).length<=(Bp sep 0 (kids.map PX.tx)).length:=by
 have:=Kz sep ((kids.take k).map PX.tx) ((kids.drop k).map PX.tx) 0;rw[<- List.map_append,List.take_append_drop] at this;exact this
theorem Zd {P:Nat->Prop}{w:World}{R:PX->Value->Prop}{a:Option Addr}{len:Nat}{es:List PX}(h:Cb P w R a len es){k:Nat}(hk:k<len):∃b off x v,a=some ⟨b,off,none⟩/\b<w.heap.size/\es[k]?=some x/\w.cell? ⟨b,off+k,none⟩=some v/\R x v:=by
 obtain⟨l,-,d⟩:=h;obtain⟨b,off,e,g,-,f⟩:=d.resolve_left (by omega);obtain⟨x,c⟩:∃x,es[k]?=some x:=⟨_,List.getElem?_eq_getElem (by omega)⟩;obtain⟨v,j,i⟩:=f k x c;exact⟨b,off,x,v,e,g,c,j,i⟩
theorem A7.ptr {P:Nat->Prop}{w:World}{n:Nat}{x:PX}{v:Value}(h:A7 P w n x v):∃b,v=.pointer (some ⟨b,0,none⟩):=by
 obtain⟨b,a,-⟩:=Af.ptr ⟨n,h⟩;exact⟨b,a⟩
theorem Kh {n:Nat}(hW:WrE n)(B b:Nat)(l:List UInt8)(w:World)(op cl:ByteArray)(pa:Option Addr)(len cap:Nat)(kids:List PX)(hr:Cb (·<B) w (A7 (·<B) w n) pa len kids)(hB:Bld B b l w)
  (hlen:l.length+(op.data.toList++(C0 kids++cl.data.toList)).length<=140737488355328) :
  Calls Tryz.prog 44 #[.pointer (some ⟨b,0,none⟩),.string op,.slice pa len cap,.string cl] w (Au B b l (op.data.toList++(C0 kids++cl.data.toList)) w):=by
 have G:Hid (Cb (·<B) w (A7 (·<B) w n) pa len kids):=hr;have E:Hid (Bld B b l w):=hB;have z:Hid (WrE n):=hW;have F:Hid (len=kids.length):=hr.1;have K:len<=4294967296:=hr.2.1;have r:op.data.toList.length=op.size:=by simp
 have s:cl.data.toList.length=cl.size:=by simp
 simp only[List.length_append] at hlen;have u:Hid (l.length+(op.data.toList.length+((C0 kids).length+cl.data.toList.length))<=140737488355328):=hlen;clear hr hB hW hlen r s;go_enter Tryz.func44,Tryz.ntmps44
 go_wp2_with fail
 refine(Aq B b l w _ [op] 1 op.data.toList rfl rfl (by decide) (by simp[Cs]) E.out (by have:=u.out;omega)).mono ?_;rintro e O ⟨rfl,a⟩;have c:Hid (Ad B b l (op.data.toList++H3 Cm kids 0) w O):=by
  show Ad _ _ _ _ _ _;rw[show H3 Cm kids 0=[] from rfl,List.append_nil];exact a
 clear a;go_wp2_with fail
 go_loopw [16] (fun i wr=>∃k:Nat,k<=len/\i=.int .i64 k/\Hid (Ad B b l (op.data.toList++H3 Cm kids k) w wr)) (fun i _=>len-(intOf i).toNat)
 case atStart=>exact⟨0,Nat.zero_le _,rfl,c⟩
 case round =>
  clear c;obtain⟨k,R,rfl,c⟩:=hrel;by_cases y:k<len
  ·obtain⟨S,N,x,v,rfl,L,D,M,h⟩:=Zd (G.out.kp c.out.kp) y;obtain⟨Q,rfl⟩:=h.ptr;have t:Hid (A7 (·<B) wr n x _):=h;have j:=Rm Cm kids k x D;have q:=Zc Cm kids (k+1);have p:(C0 kids).length=(Bp Cm 0 (kids.map PX.tx)).length:=rfl;rw[j,List.length_append,List.length_append,<- p] at q;have f:Hid (H3 Cm kids (k+1)=_):=j;have J:=u.out;have d:Hid ((l++(op.data.toList++H3 Cm kids k)).length+((Cm k).length+x.tx.length)<=140737488355328):=by
    show _<=_;simp only[List.length_append];omega
   clear D h j q p J;by_cases A:k=0
   ·subst A;rw[Nat.add_zero] at M;go_wp2_with fail
    refine(z.out B b _ wr x _ t.out c.out.1 (by have:=d.out;omega)).mono ?_;rintro e m ⟨rfl,a⟩;have g:Hid (Ad B b l (op.data.toList++H3 Cm kids (0+1)) w m):=c.out.put a (by rw[f.out];simp[Cm]);clear a c t f d;go_wp2_with fail
    go_roundw
    case rel=>exact⟨0+1,by omega,by go_num,g⟩
    case measure=>simp[intOf];omega
   ·have I:(0:Int)<(k:Int):=by omega
    have C:Cm k=[44,32]:=by unfold Cm;rw[if_neg A]
    rw[C] at d f;clear C;go_wp2_with fail
    refine(Aq B b _ wr _ [⟨#[44,32]⟩] 1 [44,32] rfl rfl (by decide) rfl c.out.1 (by have:=d.out;simp only[List.length_cons,List.length_nil] at this |-;omega)).mono ?_;rintro e m ⟨rfl,a⟩;have g:Hid (Ad B b l ((op.data.toList++H3 Cm kids k)++[44,32]) w m):=c.out.put a rfl;have o:Hid (A7 (·<B) m n x _):=t.out.kp a.kp;clear a c t;go_wp2_with fail
    refine(z.out B b _ m x _ o.out g.out.1 (by have:=d.out;simp only[List.length_append,List.length_cons,List.length_nil] at this |-;omega)).mono ?_;rintro e P ⟨rfl,a⟩;have H:Hid (Ad B b l (op.data.toList++H3 Cm kids (k+1)) w P):=g.out.put a (by rw[f.out];simp);clear a g o f d;go_wp2_with fail
    go_roundw
    case rel=>exact⟨k+1,by omega,by go_num,H⟩
    case measure=>simp[intOf];omega
  ·obtain rfl:k=len:=by omega
   rw[U4 Cm kids k (by have:=F.out;omega)] at c;go_wp2_with fail
   refine(Aq B b _ wr _ [cl] 1 cl.data.toList rfl rfl (by decide) (by simp[Cs]) c.out.1 (by have:=u.out;simp only[List.length_append,C0] at this |-;omega)).mono ?_;rintro e m ⟨rfl,a⟩;have g:Hid (Ad B b l (op.data.toList++(C0 kids++cl.data.toList)) w m):=c.out.put a (by simp[C0]);clear a c;go_wp2_with fail
   go_end0
   exact⟨rfl,g.out⟩
theorem Qs {n:Nat}(hW:WrE n)(B b:Nat)(l:List UInt8)(w:World)(pa:Option Addr)(len cap:Nat)(kids:List PX)(hr:Cb (·<B) w (A7 (·<B) w n) pa len kids)(hB:Bld B b l w)
  (hlen:l.length+(91::(Bp C5 0 (kids.map PX.tx)++[93])).length<=140737488355328) :
  Calls Tryz.prog 79 #[.pointer (some ⟨b,0,none⟩),.slice pa len cap] w (Au B b l (91::(Bp C5 0 (kids.map PX.tx)++[93])) w):=by
 have H:Hid (Cb (·<B) w (A7 (·<B) w n) pa len kids):=hr;have F:Hid (Bld B b l w):=hB;have u:Hid (WrE n):=hW;have G:Hid (len=kids.length):=hr.1;have K:len<=4294967296:=hr.2.1;simp only[List.length_append,List.length_cons,List.length_nil] at hlen;have t:Hid (l.length+((Bp C5 0 (kids.map PX.tx)).length+2)<=140737488355328):=by show _<=_;omega
 clear hr hB hW hlen;go_enter Tryz.func79,Tryz.ntmps79
 go_wp2_with fail
 refine(Aq B b l w _ [⟨#[91]⟩] 1 [91] rfl rfl (by decide) rfl F.out (by have:=t.out;simp;omega)).mono ?_;rintro e O ⟨rfl,a⟩;have f:Hid (Ad B b l (91::H3 C5 kids 0) w O):=a;clear a;go_wp2_with fail
 go_loopw [11] (fun i wr=>∃k:Nat,k<=len/\i=.int .i64 k/\Hid (Ad B b l (91::H3 C5 kids k) w wr)) (fun i _=>len-(intOf i).toNat)
 case atStart=>exact⟨0,Nat.zero_le _,rfl,f⟩
 case round =>
  clear f;obtain⟨k,Q,rfl,f⟩:=hrel;by_cases A:k<len
  ·obtain⟨R,N,x,v,rfl,L,E,M,m⟩:=Zd (H.out.kp f.out.kp) A;obtain⟨P,rfl⟩:=m.ptr;have p:Hid (A7 (·<B) wr n x _):=m;have o:=Rm C5 kids k x E;have s:=Zc C5 kids (k+1);rw[o,List.length_append,List.length_append] at s;have d:Hid (H3 C5 kids (k+1)=_):=o;have J:=t.out;have c:Hid ((l++(91::H3 C5 kids k)).length+((C5 k).length+x.tx.length)<=140737488355328):=by
    show _<=_;simp only[List.length_append,List.length_cons];omega
   clear E m o s J;by_cases q:k % 2=1
   ·have r:C5 k=[58,32]:=by unfold C5;rw[if_pos q]
    rw[r] at c d;have D:(k:Int).tmod 2=1:=by rw[Int.tmod_eq_emod_of_nonneg (by omega)];omega
    clear r q;go_wp2_with fail
    refine(Aq B b _ wr _ [⟨#[58,32]⟩] 1 [58,32] rfl rfl (by decide) rfl f.out.1 (by have:=c.out;simp only[List.length_cons,List.length_nil] at this |-;omega)).mono ?_;rintro e j ⟨rfl,a⟩;have h:Hid (Ad B b l ((91::H3 C5 kids k)++[58,32]) w j):=f.out.put a rfl;have g:Hid (A7 (·<B) j n x _):=p.out.kp a.kp;clear a f p;go_wp2_with fail
    refine(u.out B b _ j x _ g.out h.out.1 (by have:=c.out;simp only[List.length_append,List.length_cons,List.length_nil] at this |-;omega)).mono ?_;rintro e C ⟨rfl,a⟩;have y:Hid (Ad B b l (91::H3 C5 kids (k+1)) w C):=h.out.put a (by rw[d.out];simp);clear a h g d c;go_wp2_with fail
    go_roundw
    case rel=>exact⟨k+1,by omega,by go_num,y⟩
    case measure=>simp[intOf];omega
   have D:(k:Int).tmod 2=0:=by rw[Int.tmod_eq_emod_of_nonneg (by omega)];omega
   by_cases z:k=0
   ·subst z;rw[Nat.add_zero] at M;clear D q;go_wp2_with fail
    refine(u.out B b _ wr x _ p.out f.out.1 (by have:=c.out;omega)).mono ?_;rintro e j ⟨rfl,a⟩;have h:Hid (Ad B b l (91::H3 C5 kids (0+1)) w j):=f.out.put a (by rw[d.out];simp[C5]);clear a f p d c;go_wp2_with fail
    go_roundw
    case rel=>exact⟨0+1,by omega,by go_num,h⟩
    case measure=>simp[intOf];omega
   ·have I:(0:Int)<(k:Int):=by omega
    have r:C5 k=[44,32]:=by unfold C5;rw[if_neg q,if_neg z]
    rw[r] at c d;clear r q z;go_wp2_with fail
    refine(Aq B b _ wr _ [⟨#[44,32]⟩] 1 [44,32] rfl rfl (by decide) rfl f.out.1 (by have:=c.out;simp only[List.length_cons,List.length_nil] at this |-;omega)).mono ?_;rintro e j ⟨rfl,a⟩;have h:Hid (Ad B b l ((91::H3 C5 kids k)++[44,32]) w j):=f.out.put a rfl;have g:Hid (A7 (·<B) j n x _):=p.out.kp a.kp;clear a f p;go_wp2_with fail
    refine(u.out B b _ j x _ g.out h.out.1 (by have:=c.out;simp only[List.length_append,List.length_cons,List.length_nil] at this |-;omega)).mono ?_;rintro e C ⟨rfl,a⟩;have y:Hid (Ad B b l (91::H3 C5 kids (k+1)) w C):=h.out.put a (by rw[d.out];simp);clear a h g d c;go_wp2_with fail
    go_roundw
    case rel=>exact⟨k+1,by omega,by go_num,y⟩
    case measure=>simp[intOf];omega
  ·obtain rfl:k=len:=by omega
   rw[U4 C5 kids k (by have:=G.out;omega)] at f;go_wp2_with fail
   refine(Aq B b _ wr _ [⟨#[93]⟩] 1 [93] rfl rfl (by decide) rfl f.out.1 (by have:=t.out;simp only[List.length_append,List.length_cons,List.length_nil] at this |-;omega)).mono ?_;rintro e j ⟨rfl,a⟩;have h:Hid (Ad B b l (91::(Bp C5 0 (kids.map PX.tx)++[93])) w j):=f.out.put a (by simp);clear a f;go_wp2_with fail
   go_end0
   exact⟨rfl,h.out⟩
theorem jW {B n:Nat}{w:World}{pa:Option Addr}{len:Nat}{a:PX}(h:Cb (·<B) w (A7 (·<B) w n) pa len [a]) :
  len=1/\∃pb off,pa=some ⟨pb,off,none⟩/\pb<B/\pb<w.heap.size/\∃x0,w.cell? ⟨pb,off,none⟩=some (.pointer (some ⟨x0,0,none⟩))/\A7 (·<B) w n a (.pointer (some ⟨x0,0,none⟩)):=by
 obtain⟨b,-,f⟩:=h;simp at b;obtain⟨pb,off,e,j,i,g⟩:=f.resolve_left (by omega);obtain⟨k,d,c⟩:=g 0 a rfl;obtain⟨x0,rfl⟩:=c.ptr;exact⟨b,pb,off,e,i,j,x0,d,c⟩
theorem dP {B n:Nat}{w:World}{pa:Option Addr}{len:Nat}{a b:PX}(h:Cb (·<B) w (A7 (·<B) w n) pa len [a,b]) :
  len=2/\∃pb off,pa=some ⟨pb,off,none⟩/\pb<B/\pb<w.heap.size/\∃x0,w.cell? ⟨pb,off,none⟩=some (.pointer (some ⟨x0,0,none⟩))/\A7 (·<B) w n a (.pointer (some ⟨x0,0,none⟩)) /\
   ∃x1,w.cell? ⟨pb,off+1,none⟩=some (.pointer (some ⟨x1,0,none⟩))/\A7 (·<B) w n b (.pointer (some ⟨x1,0,none⟩)):=by
 obtain⟨c,-,k⟩:=h;simp at c;obtain⟨pb,off,e,m,l,d⟩:=k.resolve_left (by omega);obtain⟨o,i,f⟩:=d 0 a rfl;obtain⟨x0,rfl⟩:=f.ptr;obtain⟨p,j,g⟩:=d 1 b rfl;obtain⟨x1,rfl⟩:=g.ptr;exact⟨c,pb,off,e,l,m,x0,i,f,x1,j,g⟩
theorem jX {B n:Nat}{w:World}{pa:Option Addr}{len:Nat}{a b c:PX}(h:Cb (·<B) w (A7 (·<B) w n) pa len [a,b,c]) :
  len=3/\∃pb off,pa=some ⟨pb,off,none⟩/\pb<B/\pb<w.heap.size/\∃x0,w.cell? ⟨pb,off,none⟩=some (.pointer (some ⟨x0,0,none⟩))/\A7 (·<B) w n a (.pointer (some ⟨x0,0,none⟩)) /\
   ∃x1,w.cell? ⟨pb,off+1,none⟩=some (.pointer (some ⟨x1,0,none⟩))/\A7 (·<B) w n b (.pointer (some ⟨x1,0,none⟩)) /\
   ∃x2,w.cell? ⟨pb,off+2,none⟩=some (.pointer (some ⟨x2,0,none⟩))/\A7 (·<B) w n c (.pointer (some ⟨x2,0,none⟩)):=by
 obtain⟨f,-,o⟩:=h;simp at f;obtain⟨pb,off,e,q,p,d⟩:=o.resolve_left (by omega);obtain⟨r,k,g⟩:=d 0 a rfl;obtain⟨x0,rfl⟩:=g.ptr;obtain⟨s,l,i⟩:=d 1 b rfl;obtain⟨x1,rfl⟩:=i.ptr;obtain⟨t,m,j⟩:=d 2 c rfl;obtain⟨x2,rfl⟩:=j.ptr;exact⟨f,pb,off,e,p,q,x0,k,g,x1,l,i,x2,m,j⟩
theorem U6 {n:Nat}(hW:WrE n)(B b be sort at' len cap:Nat)(l:List UInt8)(w:World)(op nm:ByteArray)(i:Int)(pa:Option Addr)(ka kb kc:PX)(he:Ao w be sort op nm i at' pa len cap)(hbe:be<B)(hr:Cb (·<B) w (A7 (·<B) w n) pa len [ka,kb,kc])(hB:Bld B b l w)
  (hlen:l.length+((dIf ka kb kc).tx).length<=140737488355328) :
  Calls Tryz.prog 45 #[.pointer (some ⟨b,0,none⟩),.pointer (some ⟨be,0,none⟩)] w (Au B b l ((dIf ka kb kc).tx) w):=by
 have x:Hid (Ao w be sort op nm i at' pa len cap):=he;have D:Hid (WrE n):=hW;have HB:Hid (Bld B b l w):=hB;have A:Hid (Ad B b l ([]:List UInt8) w w):=Ad.nil hB;have q:Hid (l.length+((dIf ka kb kc).tx).length<=140737488355328):=hlen;obtain⟨rfl,C,v,H,u,U,X,I,L,Y,J,M,Z,K,N⟩:=jX hr;subst H;have E:Hid (A7 (·<B) w n _ _):=L;have c:Hid (∀W,Kp B b w W->W.cell? ⟨C,v,none⟩=some (.pointer (some ⟨X,0,none⟩))):=fun W k=>(World.cell?_of_block (w:=w) (k.1.block C u)).trans I;have F:Hid (A7 (·<B) w n _ _):=M;have d:Hid (∀W,Kp B b w W->W.cell? ⟨C,v+1,none⟩=some (.pointer (some ⟨Y,0,none⟩))):=fun W k=>(World.cell?_of_block (w:=w) (k.1.block C u)).trans J;have G:Hid (A7 (·<B) w n _ _):=N;have f:Hid (∀W,Kp B b w W->W.cell? ⟨C,v+2,none⟩=some (.pointer (some ⟨Z,0,none⟩))):=fun W k=>(World.cell?_of_block (w:=w) (k.1.block C u)).trans K;clear I L J M K N;clear he hW hB hr hlen;simp only[dIf] at q |-;go_enter Tryz.func45,Tryz.ntmps45
 have g:=Aa (x.out.kp A.out.kp hbe) 5;have m:=c.out _ A.out.kp;have o:=d.out _ A.out.kp;have p:=f.out _ A.out.kp;go_wp2_with fail
 clear g m o p;refine(Aq B b _ w _ [⟨#[105,102,32]⟩] 1 [105,102,32] rfl rfl (by decide) (by simp[Cs]) A.out.1 (by have j:=q.out;simp only[List.length_append,List.length_cons,List.length_nil] at j |-;omega)).mono ?_;rintro e O ⟨rfl,a⟩;have r:Hid (Ad B b l (([]:List UInt8)++[105,102,32]) w O):=A.out.put a rfl;clear a;have g:=Aa (x.out.kp r.out.kp hbe) 5;have m:=c.out _ r.out.kp;have o:=d.out _ r.out.kp;have p:=f.out _ r.out.kp;go_wp2_with fail
 clear g m o p;refine(D.out B b _ O ka _ (E.out.kp r.out.kp) r.out.1 (by have j:=q.out;simp only[List.length_append,List.length_cons,List.length_nil] at j |-;omega)).mono ?_;rintro e P ⟨rfl,a⟩;have y:Hid (Ad B b l ((([]:List UInt8)++[105,102,32])++ka.tx) w P):=r.out.put a rfl;clear a;have g:=Aa (x.out.kp y.out.kp hbe) 5;have m:=c.out _ y.out.kp;have o:=d.out _ y.out.kp;have p:=f.out _ y.out.kp;go_wp2_with fail
 clear g m o p;refine(Aq B b _ P _ [⟨#[32,116,104,101,110,32]⟩] 1 [32,116,104,101,110,32] rfl rfl (by decide) (by simp[Cs]) y.out.1 (by have j:=q.out;simp only[List.length_append,List.length_cons,List.length_nil] at j |-;omega)).mono ?_;rintro e Q ⟨rfl,a⟩;have s:Hid (Ad B b l (((([]:List UInt8)++[105,102,32])++ka.tx)++[32,116,104,101,110,32]) w Q):=y.out.put a rfl;clear a;have g:=Aa (x.out.kp s.out.kp hbe) 5;have m:=c.out _ s.out.kp;have o:=d.out _ s.out.kp;have p:=f.out _ s.out.kp;go_wp2_with fail
 clear g m o p;refine(D.out B b _ Q kb _ (F.out.kp s.out.kp) s.out.1 (by have j:=q.out;simp only[List.length_append,List.length_cons,List.length_nil] at j |-;omega)).mono ?_;rintro e R ⟨rfl,a⟩;have z:Hid (Ad B b l ((((([]:List UInt8)++[105,102,32])++ka.tx)++[32,116,104,101,110,32])++kb.tx) w R):=s.out.put a rfl;clear a;have g:=Aa (x.out.kp z.out.kp hbe) 5;have m:=c.out _ z.out.kp;have o:=d.out _ z.out.kp;have p:=f.out _ z.out.kp;go_wp2_with fail
 clear g m o p;refine(Aq B b _ R _ [⟨#[32,101,108,115,101,32]⟩] 1 [32,101,108,115,101,32] rfl rfl (by decide) (by simp[Cs]) z.out.1 (by have j:=q.out;simp only[List.length_append,List.length_cons,List.length_nil] at j |-;omega)).mono ?_;rintro e S ⟨rfl,a⟩;have t:Hid (Ad B b l (((((([]:List UInt8)++[105,102,32])++ka.tx)++[32,116,104,101,110,32])++kb.tx)++[32,101,108,115,101,32]) w S):=z.out.put a rfl;clear a;have g:=Aa (x.out.kp t.out.kp hbe) 5;have m:=c.out _ t.out.kp;have o:=d.out _ t.out.kp;have p:=f.out _ t.out.kp;go_wp2_with fail
 clear g m o p;refine(D.out B b _ S kc _ (G.out.kp t.out.kp) t.out.1 (by have j:=q.out;simp only[List.length_append,List.length_cons,List.length_nil] at j |-;omega)).mono ?_;rintro e V ⟨rfl,a⟩;have T:Hid (Ad B b l ((((((([]:List UInt8)++[105,102,32])++ka.tx)++[32,116,104,101,110,32])++kb.tx)++[32,101,108,115,101,32])++kc.tx) w V):=t.out.put a rfl;clear a;go_wp2_with fail
 go_end0
 exact⟨rfl,by have h:=T.out;simpa using h⟩
theorem Xn {n:Nat}(hW:WrE n)(B b be sort at' len cap:Nat)(l:List UInt8)(w:World)(op nm:ByteArray)(i:Int)(pa:Option Addr)(ka kb:PX)(he:Ao w be sort op nm i at' pa len cap)(hbe:be<B)(hr:Cb (·<B) w (A7 (·<B) w n) pa len [ka,kb])(hB:Bld B b l w)(ho:Bd op.data.toList=0)
  (hlen:l.length+(En op.data.toList nm.data.toList ka kb).length<=140737488355328) :
  Calls Tryz.prog 46 #[.pointer (some ⟨b,0,none⟩),.pointer (some ⟨be,0,none⟩)] w (Au B b l (En op.data.toList nm.data.toList ka kb) w):=by
 have a:Hid (Ao w be sort op nm i at' pa len cap):=he;have G:Hid (WrE n):=hW;have X:Hid (Bld B b l w):=hB;have d:Hid (Ad B b l ([]:List UInt8) w w):=Ad.nil hB;have Y:=follows;have v:Hid (l.length+(En op.data.toList nm.data.toList ka kb).length<=140737488355328):=hlen;obtain⟨rfl,z,y,F,x,Q,U,H,J,V,I,K⟩:=dP hr;subst F;have A:Hid (A7 (·<B) w n _ _):=J;have f:Hid (∀W,Kp B b w W->W.cell? ⟨z,y,none⟩=some (.pointer (some ⟨U,0,none⟩))):=fun W k=>(World.cell?_of_block (w:=w) (k.1.block z x)).trans H;have C:Hid (A7 (·<B) w n _ _):=K;have g:Hid (∀W,Kp B b w W->W.cell? ⟨z,y+1,none⟩=some (.pointer (some ⟨V,0,none⟩))):=fun W k=>(World.cell?_of_block (w:=w) (k.1.block z x)).trans I;clear H J I K;clear he hW hB hr hlen;have O:Hid (Calls Tryz.prog 76 #[.string op] w fun e w'=>e=.returned (.int .i64 0)/\w'=w):=by have:=Er op w;rw[ho] at this;exact this
 clear ho;simp only[En] at v |-;go_enter Tryz.func46,Tryz.ntmps46
 have m:=Aa (a.out.kp d.out.kp hbe) 1;have o:=Aa (a.out.kp d.out.kp hbe) 2;have p:=Aa (a.out.kp d.out.kp hbe) 5;have q:=f.out _ d.out.kp;have r:=g.out _ d.out.kp;go_wp2_with (go_at_call 76;refine O.out.mono ?_;rintro e Z ⟨rfl,c⟩;cases c)
 clear m o p q r;have m:=Aa (a.out.kp d.out.kp hbe) 1;have o:=Aa (a.out.kp d.out.kp hbe) 2;have p:=Aa (a.out.kp d.out.kp hbe) 5;have q:=f.out _ d.out.kp;have r:=g.out _ d.out.kp;have E:=Ab (a.out.kp d.out.kp hbe);have D:Hid (Ad B b l ([]:List UInt8) w w.drew):=d.out.grew (Ag.refl _).drew;go_wp2_with fail
 go_region_held3 (fun w'=>w'.cell? ⟨be,1,none⟩=some (.string op)/\w'.cell? ⟨be,2,none⟩=some (.string nm)) (first|(constructor<;>assumption)|assumption|go_keep)
   ((go_at_call 24;refine(Aq B b _ w.drew _ [op,⟨#[32]⟩,nm,⟨#[32,105,110,32]⟩] 4 (op.data.toList++[32]++nm.data.toList++[32,105,110,32]) rfl rfl (by decide) (by simp[Cs]) D.out.1 (by have u:=v.out;simp only[List.length_append,List.length_cons,List.length_nil] at u |-;omega)).mono ?_;rintro e L ⟨rfl,c⟩;have j:Hid (Ad B b l (([]:List UInt8)++(op.data.toList++[32]++nm.data.toList++[32,105,110,32])) w L):=D.out.put c rfl;have R:=Aa (a.out.kp j.out.kp hbe) 1;have S:=Aa (a.out.kp j.out.kp hbe) 2;clear c))
 clear E D R S m o p q r;have m:=Aa (a.out.kp j.out.kp hbe) 1;have o:=Aa (a.out.kp j.out.kp hbe) 2;have p:=Aa (a.out.kp j.out.kp hbe) 5;have q:=f.out _ j.out.kp;have r:=g.out _ j.out.kp;go_wp2_with fail
 clear m o p q r;refine(Fv G.out B b _ L ka _ 8 (A.out.kp j.out.kp) j.out.1 (by have u:=v.out;simp only[List.length_append,List.length_cons,List.length_nil] at u |-;omega)).mono ?_;rintro e M ⟨rfl,c⟩;have t:Hid (Ad B b l ((([]:List UInt8)++(op.data.toList++[32]++nm.data.toList++[32,105,110,32]))++A9 ka 8) w M):=j.out.put c rfl;clear c;have m:=Aa (a.out.kp t.out.kp hbe) 1;have o:=Aa (a.out.kp t.out.kp hbe) 2;have p:=Aa (a.out.kp t.out.kp hbe) 5;have q:=f.out _ t.out.kp;have r:=g.out _ t.out.kp;go_wp2_with fail
 clear m o p q r;refine(Aq B b _ M _ [⟨#[32,58,32]⟩] 1 [32,58,32] rfl rfl (by decide) (by simp[Cs]) t.out.1 (by have u:=v.out;simp only[List.length_append,List.length_cons,List.length_nil] at u |-;omega)).mono ?_;rintro e N ⟨rfl,c⟩;have s:Hid (Ad B b l (((([]:List UInt8)++(op.data.toList++[32]++nm.data.toList++[32,105,110,32]))++A9 ka 8)++[32,58,32]) w N):=t.out.put c rfl;clear c;have m:=Aa (a.out.kp s.out.kp hbe) 1;have o:=Aa (a.out.kp s.out.kp hbe) 2;have p:=Aa (a.out.kp s.out.kp hbe) 5;have q:=f.out _ s.out.kp;have r:=g.out _ s.out.kp;go_wp2_with fail
 clear m o p q r;refine(G.out B b _ N kb _ (C.out.kp s.out.kp) s.out.1 (by have u:=v.out;simp only[List.length_append,List.length_cons,List.length_nil] at u |-;omega)).mono ?_;rintro e T ⟨rfl,c⟩;have P:Hid (Ad B b l ((((([]:List UInt8)++(op.data.toList++[32]++nm.data.toList++[32,105,110,32]))++A9 ka 8)++[32,58,32])++kb.tx) w T):=s.out.put c rfl;clear c;go_wp2_with fail
 go_end0
 exact⟨rfl,by have h:=P.out;simpa using h⟩
theorem dQ {n:Nat}(hW:WrE n)(B b be sort at' len cap:Nat)(l:List UInt8)(w:World)(op nm:ByteArray)(i:Int)(pa:Option Addr)(ka kb:PX)(he:Ao w be sort op nm i at' pa len cap)(hbe:be<B)(hr:Cb (·<B) w (A7 (·<B) w n) pa len [ka,kb])(hB:Bld B b l w)(ho:Bd op.data.toList=14)
  (hlen:l.length+(123::(En op.data.toList nm.data.toList ka kb++[125])).length<=140737488355328) :
  Calls Tryz.prog 46 #[.pointer (some ⟨b,0,none⟩),.pointer (some ⟨be,0,none⟩)] w (Au B b l (123::(En op.data.toList nm.data.toList ka kb++[125])) w):=by
 have a:Hid (Ao w be sort op nm i at' pa len cap):=he;have J:Hid (WrE n):=hW;have HB:Hid (Bld B b l w):=hB;have y:Hid (Ad B b l ([]:List UInt8) w w):=Ad.nil hB;have mo:=follows;have t:Hid (l.length+(123::(En op.data.toList nm.data.toList ka kb++[125])).length<=140737488355328):=hlen;obtain⟨rfl,C,A,H,z,U,Z,K,M,x1,L,N⟩:=dP hr;subst H;have D:Hid (A7 (·<B) w n _ _):=M;have d:Hid (∀W,Kp B b w W->W.cell? ⟨C,A,none⟩=some (.pointer (some ⟨Z,0,none⟩))):=fun W k=>(World.cell?_of_block (w:=w) (k.1.block C z)).trans K;have E:Hid (A7 (·<B) w n _ _):=N;have f:Hid (∀W,Kp B b w W->W.cell? ⟨C,A+1,none⟩=some (.pointer (some ⟨x1,0,none⟩))):=fun W k=>(World.cell?_of_block (w:=w) (k.1.block C z)).trans L;clear K M L N;clear he hW hB hr hlen;have S:Hid (Calls Tryz.prog 76 #[.string op] w fun e w'=>e=.returned (.int .i64 14)/\w'=w):=by have:=Er op w;rw[ho] at this;exact this
 clear ho;simp only[En] at t |-;go_enter Tryz.func46,Tryz.ntmps46
 have g:=Aa (a.out.kp y.out.kp hbe) 1;have j:=Aa (a.out.kp y.out.kp hbe) 2;have m:=Aa (a.out.kp y.out.kp hbe) 5;have p:=d.out _ y.out.kp;have q:=f.out _ y.out.kp;go_wp2_with (go_at_call 76;refine S.out.mono ?_;rintro e w3 ⟨rfl,c⟩;cases c)
 clear g j m p q;refine(Aq B b _ w _ [⟨#[123]⟩] 1 [123] rfl rfl (by decide) (by simp[Cs]) y.out.1 (by have o:=t.out;simp only[List.length_append,List.length_cons,List.length_nil] at o |-;omega)).mono ?_;rintro e I ⟨rfl,c⟩;have u:Hid (Ad B b l (([]:List UInt8)++[123]) w I):=y.out.put c rfl;clear c;have g:=Aa (a.out.kp u.out.kp hbe) 1;have j:=Aa (a.out.kp u.out.kp hbe) 2;have m:=Aa (a.out.kp u.out.kp hbe) 5;have p:=d.out _ u.out.kp;have q:=f.out _ u.out.kp;have G:=Ab (a.out.kp u.out.kp hbe);have F:Hid (Ad B b l (([]:List UInt8)++[123]) w I.drew):=u.out.grew (Ag.refl _).drew;go_wp2_with fail
 go_region_held3 (fun w'=>w'.cell? ⟨be,1,none⟩=some (.string op)/\w'.cell? ⟨be,2,none⟩=some (.string nm)) (first|(constructor<;>assumption)|assumption|go_keep)
   ((go_at_call 24;refine(Aq B b _ I.drew _ [op,⟨#[32]⟩,nm,⟨#[32,105,110,32]⟩] 4 (op.data.toList++[32]++nm.data.toList++[32,105,110,32]) rfl rfl (by decide) (by simp[Cs]) F.out.1 (by have o:=t.out;simp only[List.length_append,List.length_cons,List.length_nil] at o |-;omega)).mono ?_;rintro e O ⟨rfl,c⟩;have r:Hid (Ad B b l ((([]:List UInt8)++[123])++(op.data.toList++[32]++nm.data.toList++[32,105,110,32])) w O):=F.out.put c rfl;have V:=Aa (a.out.kp r.out.kp hbe) 1;have X:=Aa (a.out.kp r.out.kp hbe) 2;clear c))
 clear G F V X g j m p q;have g:=Aa (a.out.kp r.out.kp hbe) 1;have j:=Aa (a.out.kp r.out.kp hbe) 2;have m:=Aa (a.out.kp r.out.kp hbe) 5;have p:=d.out _ r.out.kp;have q:=f.out _ r.out.kp;go_wp2_with fail
 clear g j m p q;refine(Fv J.out B b _ O ka _ 8 (D.out.kp r.out.kp) r.out.1 (by have o:=t.out;simp only[List.length_append,List.length_cons,List.length_nil] at o |-;omega)).mono ?_;rintro e P ⟨rfl,c⟩;have v:Hid (Ad B b l (((([]:List UInt8)++[123])++(op.data.toList++[32]++nm.data.toList++[32,105,110,32]))++A9 ka 8) w P):=r.out.put c rfl;clear c;have g:=Aa (a.out.kp v.out.kp hbe) 1;have j:=Aa (a.out.kp v.out.kp hbe) 2;have m:=Aa (a.out.kp v.out.kp hbe) 5;have p:=d.out _ v.out.kp;have q:=f.out _ v.out.kp;go_wp2_with fail
 clear g j m p q;refine(Aq B b _ P _ [⟨#[32,58,32]⟩] 1 [32,58,32] rfl rfl (by decide) (by simp[Cs]) v.out.1 (by have o:=t.out;simp only[List.length_append,List.length_cons,List.length_nil] at o |-;omega)).mono ?_;rintro e Q ⟨rfl,c⟩;have s:Hid (Ad B b l ((((([]:List UInt8)++[123])++(op.data.toList++[32]++nm.data.toList++[32,105,110,32]))++A9 ka 8)++[32,58,32]) w Q):=v.out.put c rfl;clear c;have g:=Aa (a.out.kp s.out.kp hbe) 1;have j:=Aa (a.out.kp s.out.kp hbe) 2;have m:=Aa (a.out.kp s.out.kp hbe) 5;have p:=d.out _ s.out.kp;have q:=f.out _ s.out.kp;go_wp2_with fail
 clear g j m p q;refine(J.out B b _ Q kb _ (E.out.kp s.out.kp) s.out.1 (by have o:=t.out;simp only[List.length_append,List.length_cons,List.length_nil] at o |-;omega)).mono ?_;rintro e R ⟨rfl,c⟩;have x:Hid (Ad B b l (((((([]:List UInt8)++[123])++(op.data.toList++[32]++nm.data.toList++[32,105,110,32]))++A9 ka 8)++[32,58,32])++kb.tx) w R):=s.out.put c rfl;clear c;have g:=Aa (a.out.kp x.out.kp hbe) 1;have j:=Aa (a.out.kp x.out.kp hbe) 2;have m:=Aa (a.out.kp x.out.kp hbe) 5;have p:=d.out _ x.out.kp;have q:=f.out _ x.out.kp;go_wp2_with fail
 clear g j m p q;refine(Aq B b _ R _ [⟨#[125]⟩] 1 [125] rfl rfl (by decide) (by simp[Cs]) x.out.1 (by have o:=t.out;simp only[List.length_append,List.length_cons,List.length_nil] at o |-;omega)).mono ?_;rintro e Y ⟨rfl,c⟩;have T:Hid (Ad B b l ((((((([]:List UInt8)++[123])++(op.data.toList++[32]++nm.data.toList++[32,105,110,32]))++A9 ka 8)++[32,58,32])++kb.tx)++[125]) w Y):=x.out.put c rfl;clear c;go_wp2_with fail
 go_end0
 exact⟨rfl,by have h:=T.out;simpa using h⟩
theorem aQ {n:Nat}(hW:WrE n)(B b be sort at' len cap:Nat)(l:List UInt8)(w:World)(op nm:ByteArray)(i:Int)(pa:Option Addr)(ka kb:PX)(he:Ao w be sort op nm i at' pa len cap)(hbe:be<B)(hr:Cb (·<B) w (A7 (·<B) w n) pa len [ka,kb])(hB:Bld B b l w)(ho:op.data.toList∈Iv\/op.data.toList∈Cp)
  (hlen:l.length+(Ds op.data.toList nm.data.toList ka kb).tx.length<=140737488355328) :
  Calls Tryz.prog 46 #[.pointer (some ⟨b,0,none⟩),.pointer (some ⟨be,0,none⟩)] w (Au B b l (Ds op.data.toList nm.data.toList ka kb).tx w):=by
 rcases ho with ho|ho
 ·have a:Bd op.data.toList=0:=by
   simp only[Iv,List.mem_cons,List.not_mem_nil,or_false] at ho;rcases ho with ho|ho|ho|ho<;>rw[ho]<;>rfl
  have c:(Ds op.data.toList nm.data.toList ka kb).tx=En op.data.toList nm.data.toList ka kb:=by
   have:Cp.contains op.data.toList=false:=by
    simp only[Iv,List.mem_cons,List.not_mem_nil,or_false] at ho;rcases ho with ho|ho|ho|ho<;>rw[ho]<;>rfl
   unfold Ds;rw[this];rfl
  rw[c] at hlen |-;exact Xn hW B b be sort at' len cap l w op nm i pa ka kb he hbe hr hB a hlen
 ·have a:Bd op.data.toList=14:=by
   simp only[Cp,List.mem_cons,List.not_mem_nil,or_false] at ho;rcases ho with ho|ho<;>rw[ho]<;>rfl
  have c:(Ds op.data.toList nm.data.toList ka kb).tx=123::(En op.data.toList nm.data.toList ka kb++[125]):=by
   have:Cp.contains op.data.toList=true:=by
    simp only[Cp,List.mem_cons,List.not_mem_nil,or_false] at ho;rcases ho with ho|ho<;>rw[ho]<;>rfl
   unfold Ds;rw[this];rfl
  rw[c] at hlen |-;exact dQ hW B b be sort at' len cap l w op nm i pa ka kb he hbe hr hB a hlen
theorem Pg:∀l:List UInt8,decide (Bw l=l.length)=l.all Ba
 | []=>rfl
 | c::l=>by
  have:=Pg l;unfold Bw at this |-;cases h:Ba c with
  | true=>simp only[List.takeWhile_cons,h,if_true,List.length_cons,List.all_cons,Bool.true_and,Nat.add_right_cancel_iff];exact this
  | false=>simp[h]
theorem Tb {l:List UInt8}{c:UInt8}{r:List UInt8}(h:l=c::r):Fq l=(A8 c&&decide (l.length<=16)&&l.all Ba&&!Bk l):=by subst h;rfl
theorem Ph (s:ByteArray)(w:World):Calls Tryz.prog 111 #[.string s] w fun e w'=>e=.returned (.bool (Fq s.data.toList))/\w'=w:=by
 have A:=follows;have l:s.data.toList.length=s.size:=by simp
 have d:s.toList=s.data.toList:=ByteArray.toList_eq s;obtain⟨q,a⟩:∃q,Fq s.data.toList=q:=⟨_,rfl⟩;rw[a];have k:Hid (Fq s.data.toList=q):=a;clear a;by_cases v:s.size=0
 ·have t:s.data.toList=[]:=List.length_eq_zero_iff.1 (by omega);have z:s.toList=[]:=by rw[d,t]
  have a:=k.out;rw[t] at a;have j:q=false:=by rw[<- a];rfl
  subst j;clear a k t d l v;go_enter Tryz.func111,Tryz.ntmps111
  go_wp2_with fail
  go_ret
  exact⟨rfl,rfl⟩
 have u:¬s.toList=[]:=by rw[d];intro h;rw[h] at l;simp at l;omega
 by_cases m:s.size<=16
 case neg =>
  have n:¬(s.size:Int)<=16:=by omega
  have j:q=false:=by rw[<- k.out];unfold Fq;rw[show decide (s.data.toList.length<=16)=false from by simp;omega];simp
  subst j;clear k d l v m;go_enter Tryz.func111,Tryz.ntmps111
  go_wp2_with fail
  go_ret
  exact⟨rfl,rfl⟩
 have n:(s.size:Int)<=16:=by omega
 have x:0<s.size:=by omega
 have p:∃r,s.data.toList=s[0]::r:=by
  have:s.data.toList.drop 0=s.data.toList[0]'(by omega)::s.data.toList.drop 1:=List.drop_eq_getElem_cons (by omega);exact⟨_,this⟩
 obtain⟨B,p⟩:=p;have c:Hid (∀W:World,_):=fun W=>Kv s[0] W;have f:Hid (∀W:World,_):=fun W=>Sm s W (by omega);have i:Hid (∀W:World,_):=fun W=>Lj s W;have a:=k.out;rw[Tb p,<- Pg,show decide (s.data.toList.length<=16)=true from by simp;omega,l] at a;clear p k l d m;generalize A8 s[0]=b1 at c a;generalize Bk s.data.toList=b3 at i a;generalize Bw s.data.toList=rn at f a;cases b1 with
 | false =>
  obtain rfl:false=q:=by simpa using a
  clear a;go_enter Tryz.func111,Tryz.ntmps111
  go_wp2_with (go_at_call 114;refine(c.out _).mono ?_;rintro e g ⟨rfl,b⟩;cases b)
  go_ret
  exact⟨rfl,rfl⟩
 | true =>
  by_cases o:rn=s.size
  ·have y:((rn:Int)==(s.size:Int))=true:=by simp;omega
   rw[show decide (rn=s.size)=true from by simpa using o] at a;cases b3 with
   | false =>
    obtain rfl:true=q:=by simpa using a
    have t:s.toList.isEmpty=false:=by simpa using u
    clear a o;go_enter Tryz.func111,Tryz.ntmps111
    go_wp2_with (first|(go_at_call 114;refine(c.out _).mono ?_;rintro e g ⟨rfl,b⟩;cases b)|(go_at_call 115;refine(f.out _).mono ?_;rintro e g ⟨rfl,b⟩;cases b)|(go_at_call 86;refine(i.out _).mono ?_;rintro e g ⟨rfl,b⟩;cases b))
    go_ret
    exact⟨rfl,rfl⟩
   | true =>
    obtain rfl:false=q:=by simpa using a
    clear a o;go_enter Tryz.func111,Tryz.ntmps111
    go_wp2_with (first|(go_at_call 114;refine(c.out _).mono ?_;rintro e g ⟨rfl,b⟩;cases b)|(go_at_call 115;refine(f.out _).mono ?_;rintro e g ⟨rfl,b⟩;cases b)|(go_at_call 86;refine(i.out _).mono ?_;rintro e g ⟨rfl,b⟩;cases b))
    go_ret
    exact⟨rfl,rfl⟩
  ·have y:((rn:Int)==(s.size:Int))=false:=by simp;omega
   rw[show decide (rn=s.size)=false from by simpa using o] at a;obtain rfl:false=q:=by simpa using a
   clear a o;go_enter Tryz.func111,Tryz.ntmps111
   go_wp2_with (first|(go_at_call 114;refine(c.out _).mono ?_;rintro e g ⟨rfl,b⟩;cases b)|(go_at_call 115;refine(f.out _).mono ?_;rintro e g ⟨rfl,b⟩;cases b))
   go_ret
   exact⟨rfl,rfl⟩
end Go.Proofs.YthcndopglfkmiaaGreatDoor.Sx
