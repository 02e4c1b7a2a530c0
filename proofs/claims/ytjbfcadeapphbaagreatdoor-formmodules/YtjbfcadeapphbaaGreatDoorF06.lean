/- The reader of expressions: faults, marks, levels. -/
import Derived.Test.YtjbfcadeapphbaaGreatDoorF05
import Derived.Deep.Cut
import Derived.Deep.CutRange
import Derived.Deep.DeepCutAuto
import Derived.WalkLawsBesides
namespace Go.Proofs.YtjbfcadeapphbaaGreatDoor.Sx
set_option maxRecDepth 100000
set_option maxHeartbeats 1000000
open Go.RowKit Go.Sort
def RdB (w:World)(br:Nat)(t:ByteArray)(a:Nat)(p:ByteArray)(c d:Nat):Prop :=
 w.heap[br]?=some (.cells #[.string t,.int .i64 a,.string p,.int .i64 c,.int .i64 d] 123 (0,0))
def pcF (t:ByteArray)(i:Nat):ByteArray:=t.extract (atF t.data.toList i) (atF t.data.toList i+Lj t.data.toList i)
def RdF (w:World)(br:Nat)(t:ByteArray)(i d:Nat):Prop:=RdB w br t (atF t.data.toList i) (pcF t i) (clF t.data.toList i) d
theorem Bm (t:ByteArray)(i:Nat):(pcF t i).data.toList=txF t.data.toList i:=by
 unfold pcF txF;rw[Fx,List.drop_take];congr 1;omega
theorem Kr (t:ByteArray)(i:Nat):(pcF t i).size=Lj t.data.toList i:=by
 have h:=congrArg List.length (Bm t i);rw[G6] at h;simpa using h
theorem RdB.of {w w':World}{br:Nat}{t:ByteArray}{a:Nat}{p:ByteArray}{c d:Nat}(h:RdB w br t a p c d){P:Nat->Prop}(f:Fr P w w')(hp:P br):RdB w' br t a p c d:=(f.block br (Ac h) hp).trans h
theorem RdF.of {w w':World}{br:Nat}{t:ByteArray}{i d:Nat}(h:RdF w br t i d){P:Nat->Prop}(f:Fr P w w')(hp:P br):RdF w' br t i d:=RdB.of h f hp
theorem RdB.setAt {w:World}{br:Nat}{t:ByteArray}{a:Nat}{p:ByteArray}{c d:Nat}(h:RdB w br t a p c d){x:Int}{a':Nat}(hx:x=(a':Int)):RdB (w.setCell ⟨br,1,none⟩ (.int .i64 x)).drew br t a' p c d:=by
 have:=Ag h 1 (.int .i64 x);refine RdB.of (P:=fun _=>True) (w:=w.setCell ⟨br,1,none⟩ (.int .i64 x)) ?_ (Fr.grew (Ad.refl _).drew) trivial;rw[hx] at this |-;simpa [RdB] using this
theorem RdB.setCl {w:World}{br:Nat}{t:ByteArray}{a:Nat}{p:ByteArray}{c d:Nat}(h:RdB w br t a p c d)(c':Nat):RdB (w.setCell ⟨br,3,none⟩ (.int .i64 (c':Int))) br t a p c' d:=by
 have:=Ag h 3 (.int .i64 (c':Int));simpa [RdB] using this
theorem RdB.setPc {w:World}{br:Nat}{t:ByteArray}{a:Nat}{p:ByteArray}{c d:Nat}(h:RdB w br t a p c d)(p':ByteArray):RdB (w.setCell ⟨br,2,none⟩ (.string p')).drew br t a p' c d:=by
 have:=Ag h 2 (.string p');refine RdB.of (P:=fun _=>True) (w:=w.setCell ⟨br,2,none⟩ (.string p')) ?_ (Fr.grew (Ad.refl _).drew) trivial;simpa [RdB] using this
theorem Rr (w:World)(br:Nat)(t p:ByteArray)(a c d A B cl n:Nat)(hr:RdB w br t a p c d)(ht:t.size<=4000)(hA:a+p.size=A)(hAt:A<=t.size)
  (hB:∀W,Calls Tryz.prog 91 #[.string (t.extract A t.size)] W fun e w'=>e=.returned (.int .i64 B)/\w'=W) (hBt:A+B+n<=t.size)
  (hT:∀W,Calls Tryz.prog 92 #[.string (t.extract (A+B) t.size)] W fun e w'=>e=.returned (.tuple #[.int .i64 cl,.int .i64 n])/\Ad W w') :
  Calls Tryz.prog 60 #[.pointer (some ⟨br,0,none⟩)] w fun e w'=>e=.returned (.tuple #[])/\RdB w' br t (A+B) (t.extract (A+B) (A+B+n)) cl d/\Fr (·≠br) w w':=by
 have V:Hid (∀W:World,_):=hB;have X:Hid (∀W:World,_):=hT;have H:Hid (RdB w br t a p c d):=hr;obtain⟨s,u,v,x,y⟩:=Nn hr;obtain⟨f0,J,K,f3,f4⟩:=Wn hr;clear hB hT hr;have mo:=follows;go_enter Tryz.func60,Tryz.ntmps60
 have S:a+p.size<=4000:=by omega
 have G:Hid (Ad w w.drew):=(Ad.refl w).drew;have b:=H.out.of (P:=fun _=>True) (Fr.grew G.out) trivial;obtain⟨l,m,z,o,C⟩:=Nn b;obtain⟨g0,L,N,g3,g4⟩:=Wn b;go_wp2_with fail
 go_big_region_o
 clear s u v x y f0 J K f3 f4 l m z o C g0 L N g3 g4 b G;have i:Hid (RdB (w.setCell ⟨br,1,none⟩ (.int .i64 ((a:Int)+(p.size:Int)))).drew br t A p c d):=H.out.setAt (by omega);have r:Hid (Fr (·≠br) w (w.setCell ⟨br,1,none⟩ (.int .i64 ((a:Int)+(p.size:Int)))).drew):=((Fr.refl _ w).set (by simp) _).drew;clear H hA S;generalize (a:Int)+(p.size:Int)=x1 at i r |-;generalize (w.setCell ⟨br,1,none⟩ (.int .i64 x1)).drew=W1 at i r |-;obtain⟨s,u,v,x,y⟩:=Nn i.out;have J:=Ab i.out 1;have j:Hid (RdB W1.drew br t A p c d):=i.out.of (P:=fun _=>True) (Fr.grew (Ad.refl _).drew) trivial;obtain⟨l,m,z,o,C⟩:=Nn j.out;have L:=Ab j.out 1;have Q:(A:Int)<=(t.size:Int):=by omega
 have R:((A:Int)).toNat=A:=by omega
 have D:Hid (Fr (·≠br) w W1.drew):=r.out.drew;have O:A+B<=4000:=by omega
 go_upto_region 1 with fail
 go_cut [] (fun wx=>Hid (RdB wx br t (A+B) p c d)/\Hid (Fr (·≠br) w wx))
 case first =>
  go_region_with (go_at_call 91;refine(V.out _).mono ?_;rintro e w' ⟨rfl,hw⟩;cases hw)
  all_goals
   go_wp2_with fail
   go_meet
   case rel =>
    have e:IntKind.i64.wrap ((A:Int)+(B:Int))=((A+B:Nat):Int):=by simp[IntKind.wrap_i64];omega
    exact⟨i.out.setAt e,(r.out.set (by simp) _).drew⟩
 case rest =>
  obtain⟨I,U⟩:=hcut;clear s u v x y J l m z o C L i j r D Q R V;have f:Hid (∀W,Ad wc W->W.cell? ⟨br,0,none⟩=some (.string t)/\W.cell? ⟨br,1,none⟩=some (.int .i64 ((A+B:Nat):Int))/\W.cell? ⟨br,3,none⟩=some (.int .i64 c)/\W.frozen? ⟨br,3,none⟩=false):=by
   intro W g;have h:=I.out.of (P:=fun _=>True) (Fr.grew g) trivial;exact⟨Aa h 0,Aa h 1,Aa h 3,Ab h 3⟩
  generalize Y:A+B=M at *;have a0:(M:Int)<=(t.size:Int):=by omega
  have a1:((M:Int)).toNat=M:=by omega
  obtain⟨l,m,o,q3⟩:=f.out wc (Ad.refl wc);have HM:Hid (A+B=M):=Y;clear Y hAt O;go_upto_region 3 with fail
  go_region_held3 (fun w'=>w'.cell? ⟨br,0,none⟩=some (.string t)/\w'.cell? ⟨br,1,none⟩=some (.int .i64 M)) (first|(constructor<;>assumption)|(refine⟨Wo ?_ (by decide),Wo ?_ (by decide)⟩<;>assumption)|go_keep)
    ((go_at_call 92;refine(X.out _).mono ?_;rintro e w' ⟨rfl,T⟩;obtain⟨j0,j1,j3,j4⟩:=f.out _ ((Ad.refl wc).drew.trans T);have F:Hid (Ad wc w'):=(Ad.refl wc).drew.trans T;clear T))
  have q:Hid (RdB (w'.setCell ⟨br,3,none⟩ (.int .i64 (cl:Int))) br t M p cl d):=(I.out.of (P:=fun _=>True) (Fr.grew F.out) trivial).setCl cl;have E:Hid (Fr (·≠br) w (w'.setCell ⟨br,3,none⟩ (.int .i64 (cl:Int)))):=(U.out.trans (Fr.grew F.out)).set (by simp) _;clear j0 j1 j3 j4 l m o q3 F I U f X;generalize w'.setCell _ _=W3 at q E |-;have k:Hid (RdB W3.drew br t M p cl d):=q.out.of (P:=fun _=>True) (Fr.grew (Ad.refl _).drew) trivial;obtain⟨s,u,v,x,y⟩:=Nn q.out;obtain⟨l,m,z,o,C⟩:=Nn k.out;have K:=Ab q.out 2;have N:=Ab k.out 2;have a3:(M:Int)+(n:Int)<=(t.size:Int):=by omega
  have a2:(M:Int)<=(M:Int)+(n:Int):=by omega
  have a4:((M:Int)+(n:Int)).toNat=M+n:=by omega
  have a5:M+n<=4000:=by omega
  clear x y o C;go_wp2_with fail
  go_big_region_o
  have R4:Hid (RdB _ br t M _ cl d):=q.out.setPc (t.extract M (M+n));have Z:Hid (Fr (·≠br) w (W3.setCell ⟨br,2,none⟩ (.string (t.extract M (M+n)))).drew):=(E.out.set (by simp) _).drew;clear s u v l m z K N q k E;go_wp2_with fail
  go_end0
  rw[HM.out];exact⟨rfl,R4.out,Z.out⟩
theorem Mu (w:World)(br:Nat)(t p:ByteArray)(a c d i:Nat)(hr:RdB w br t a p c d)(ht:t.size<=4000)(hA:a+p.size=I1 t.data.toList i) :
  Calls Tryz.prog 60 #[.pointer (some ⟨br,0,none⟩)] w fun e w'=>e=.returned (.tuple #[])/\RdF w' br t i d/\Fr (·≠br) w w':=by
 have h:t.data.toList.length=t.size:=by simp
 have g:=Mt t.data.toList i;have f:=Ji t.data.toList i;have b:∀k,k<=t.size->(t.extract k t.size).data.toList=t.data.toList.drop k:=fun k hk=>by rw[Fx,List.take_of_length_le (by omega)]
 exact Rr w br t p a c d (I1 t.data.toList i) (btw false (t.data.toList.drop (I1 t.data.toList i))) (clF t.data.toList i) (Lj t.data.toList i) hr ht hA (by omega)
  (fun W=>by have:=Ud (t.extract (I1 t.data.toList i) t.size) W (by simp;omega);rw[b _ (by omega)] at this;exact this)
  (by have:=f.2.2;unfold atF at this;omega)
  (fun W=>by have:=Ze (t.extract (atF t.data.toList i) t.size) W (by simp;omega);rw[b _ (by omega)] at this;exact this)
theorem Dc (w:World)(br:Nat)(t:ByteArray)(i d:Nat)(hr:RdF w br t i d)(ht:t.size<=4000) :
  Calls Tryz.prog 60 #[.pointer (some ⟨br,0,none⟩)] w fun e w'=>e=.returned (.tuple #[])/\RdF w' br t (i+1) d/\Fr (·≠br) w w' :=
 Mu w br t _ _ _ d (i+1) hr ht (by rw[Kr,Nr])
theorem Fr.setB {P:Nat->Prop}{a b:World}(h:Fr P a b){p:Addr}(hp:a.heap.size<=p.block)(u:Value):Fr P a (b.setCell p u) :=
 ⟨h.os,h.tape,h.output,by simpa using h.size,fun i hi hq=>by rw[Below.heap_setCell b p u i (by omega)];exact h.block i hi hq⟩
theorem RdF.setB {w:World}{br:Nat}{t:ByteArray}{i d:Nat}(h:RdF w br t i d){p:Addr}(hp:br≠p.block)(u:Value):RdF (w.setCell p u) br t i d:=(Below.heap_setCell w p u br hp).trans h
def Flt (c p:Nat):Ending:=.panicked [{ v:=.iface 119 (.agg #[.int .i64 (p:Int),.int .i64 (c:Int)]),recovered:=false }]
theorem Fy (w:World)(br:Nat)(t:ByteArray)(i d c:Nat)(hr:RdF w br t i d) :
  Calls Tryz.prog 61 #[.pointer (some ⟨br,0,none⟩),.int .i64 (c:Int)] w fun e w'=>e=Flt c (atF t.data.toList i)/\w'=w:=by
 unfold Flt;have b:=Aa hr 1;clear hr;generalize atF t.data.toList i=a at b |-;have f:=follows;go_enter Tryz.func61,Tryz.ntmps61
 go_wp2_with fail
 exact⟨rfl,rfl,rfl⟩
theorem RdB.setD {w:World}{br:Nat}{t:ByteArray}{a:Nat}{p:ByteArray}{c d:Nat}(h:RdB w br t a p c d)(d':Nat):RdB (w.setCell ⟨br,4,none⟩ (.int .i64 (d':Int))) br t a p c d':=by
 have:=Ag h 4 (.int .i64 (d':Int));simpa [RdB] using this
theorem Et (w:World)(br:Nat)(t:ByteArray)(i d:Nat)(hr:RdF w br t i (d+1))(hd:d<=24) :
  Calls Tryz.prog 146 #[.pointer (some ⟨br,0,none⟩)] w fun e w'=>e=.returned (.tuple #[])/\RdF w' br t i d/\Fr (·≠br) w w':=by
 have a:Hid (RdF w br t i (d+1)):=hr;have c:=Aa hr 4;have b:=Ab hr 4;clear hr;have f:=follows;go_enter Tryz.func146,Tryz.ntmps146
 go_wp2_with fail
 go_end0
 exact⟨rfl,RdB.setD a.out d,(Fr.refl _ w).set (by simp) _⟩
theorem Fm (w:World)(br:Nat)(t:ByteArray)(i d:Nat)(hr:RdF w br t i d)(ht:t.size<=4000)(hd:d<24) :
  Calls Tryz.prog 142 #[.pointer (some ⟨br,0,none⟩)] w fun e w'=>e=.returned (.tuple #[])/\RdF w' br t (i+1) (d+1)/\Fr (·≠br) w w':=by
 have b:Hid (RdF _ br t i (d+1)):=RdB.setD hr (d+1);have a:Hid (Fr (·≠br) w (w.setCell ⟨br,4,none⟩ (.int .i64 ((d+1:Nat):Int)))):=(Fr.refl _ w).set (by simp) _;have j:Hid (∀W:World,_):=fun W h=>Dc W br t i (d+1) h ht;have n:=Aa hr 4;have m:=Ab hr 4;have l:((d:Int)==24)=false:=by simp;omega
 have c:((d+1:Nat):Int)=(d:Int)+1:=by omega
 rw[c] at b a;clear hr c;have o:=follows;go_enter Tryz.func142,Tryz.ntmps142
 go_wp2_with (go_at_call 60;refine(j.out _ b.out).mono ?_;rintro e w' ⟨rfl,h,f⟩;have k:Hid (RdF w' br t (i+1) (d+1)):=h;have g:Hid (Fr (·≠br) w w'):=a.out.trans f;clear h f)
 go_end0
 exact⟨rfl,k.out,g.out⟩
theorem Eg (w:World)(br:Nat)(t:ByteArray)(i:Nat)(hr:RdF w br t i 24) :
  Calls Tryz.prog 142 #[.pointer (some ⟨br,0,none⟩)] w fun e w'=>e=Flt 6 (atF t.data.toList i)/\w'=w:=by
 have a:Hid (Calls _ _ _ _ _):=Fy w br t i 24 6 hr;have b:=Aa hr 4;clear hr;have c:=follows;go_enter Tryz.func142,Tryz.ntmps142
 go_wp2_with (go_at_call 61;refine a.out.mono ?_;rintro e w' ⟨rfl,rfl⟩;unfold Flt)
 exact⟨rfl,rfl,rfl⟩
theorem Fz (w:World)(br:Nat)(t m:ByteArray)(i d:Nat)(hr:RdF w br t i d)(ht:t.size<=4000)(b:Bool)(hb:(txF t.data.toList i==m.data.toList)=b) :
  Calls Tryz.prog 112 #[.pointer (some ⟨br,0,none⟩),.string m] w fun e w'=>e=.returned (.bool b)/\RdF w' br t (if b then i+1 else i) d/\Fr (·≠br) w w':=by
 have f:Hid (Calls _ _ _ _ _):=Dc w br t i d hr ht;have g:Hid (RdF w br t i d):=hr;have k:=Aa hr 2;clear hr;have l:((pcF t i).toList==m.toList)=b:=by rw[ByteArray.toList_eq,ByteArray.toList_eq,Bm];exact hb
 clear hb;have n:=follows;generalize pcF t i=p at l k;cases b with
 | true =>
  go_enter Tryz.func112,Tryz.ntmps112
  go_wp2_with (go_at_call 60;refine f.out.mono ?_;rintro e w' ⟨rfl,h,a⟩;have j:Hid (RdF w' br t (i+1) d):=h;have c:Hid (Fr (·≠br) w w'):=a;clear h a)
  go_ret
  exact⟨rfl,j.out,c.out⟩
 | false =>
  go_enter Tryz.func112,Tryz.ntmps112
  go_wp2_with fail
  go_ret
  exact⟨rfl,g.out,Fr.refl _ _⟩
def gH (w:World)(br:Nat)(t:ByteArray)(i d:Nat)(b:Bool)(e:Ending)(w':World):Prop :=
 Fr (·≠br) w w'/\((b=true/\e=.returned (.tuple #[])/\RdF w' br t (i+1) d)\/(b=false/\e=Flt 1 (atF t.data.toList i)))
theorem C3 (w:World)(br:Nat)(t m:ByteArray)(i d:Nat)(hr:RdF w br t i d)(ht:t.size<=4000)(b:Bool)(hb:(txF t.data.toList i==m.data.toList)=b) :
  Calls Tryz.prog 85 #[.pointer (some ⟨br,0,none⟩),.string m] w (gH w br t i d b):=by
 have j:Hid (Calls _ _ _ _ _):=Fz w br t m i d hr ht b hb;have k:Hid (∀W:World,_):=fun W h=>Fy W br t i d 1 h;clear hr hb;have l:=follows;cases b with
 | true =>
  go_enter Tryz.func85,Tryz.ntmps85
  go_wp2_with (go_at_call 112;refine j.out.mono ?_;rintro e a ⟨rfl,h,c⟩;have g:Hid (RdF a br t (i+1) d):=h;have f:Hid (Fr (·≠br) w a):=c;clear h c)
  go_end0
  exact⟨f.out,.inl ⟨rfl,rfl,g.out⟩⟩
 | false =>
  go_enter Tryz.func85,Tryz.ntmps85
  go_wp2_with (first|(go_at_call 112;refine j.out.mono ?_;rintro e a ⟨rfl,h,c⟩;have g:Hid (RdF a br t i d):=h;have f:Hid (Fr (·≠br) w a):=c;clear h c)|(go_at_call 61;refine(k.out _ g.out).mono ?_;rintro e a ⟨rfl,rfl⟩;unfold Flt))
  exact⟨rfl,f.out,.inr ⟨rfl,rfl⟩⟩
theorem K7 (w:World)(br:Nat)(t:ByteArray)(i d:Nat)(hr:RdF w br t i d)(ht:t.size<=4000) :
  Calls Tryz.prog 114 #[.pointer (some ⟨br,0,none⟩)] w fun e w'=>e=.returned (.string (pcF t i))/\RdF w' br t (i+1) d/\Fr (·≠br) w w':=by
 have c:Hid (Calls _ _ _ _ _):=Dc w br t i d hr ht;have g:=Aa hr 2;clear hr;have j:=follows;go_enter Tryz.func114,Tryz.ntmps114
 go_wp2_with (go_at_call 60;refine c.out.mono ?_;rintro e w' ⟨rfl,h,a⟩;have f:Hid (RdF w' br t (i+1) d):=h;have b:Hid (Fr (·≠br) w w'):=a;clear h a)
 go_ret
 exact⟨rfl,f.out,b.out⟩
def gI (w:World)(br:Nat)(t:ByteArray)(i d:Nat)(r:Except (Nat×Nat) (List UInt8×Nat))(e:Ending)(w':World):Prop :=
 Fr (·≠br) w w'/\match r with
  | .ok (_,j)=>e=.returned (.agg #[.string (pcF t i),.int .i64 (atF t.data.toList i)])/\RdF w' br t j d
  | .error (c,p)=>e=Flt c p
theorem Dy (w:World)(br:Nat)(t:ByteArray)(i d:Nat)(hr:RdF w br t i d)(ht:t.size<=4000)(r:Except (Nat×Nat) (List UInt8×Nat))(h:Au (tkF t.data.toList) i=some r) :
  Calls Tryz.prog 86 #[.pointer (some ⟨br,0,none⟩)] w (gI w br t i d r):=by
 have b:Hid (∀o:Obj,RdF (w.alloc o) br t i d):=fun o=>RdF.of hr (P:=fun _=>True) ((Fr.refl _ w).alloc o) trivial;have D:Hid (∀W:World,_):=fun W h=>K7 W br t i d h ht;have s:Hid (∀(W:World)(c:Nat),_):=fun W c=>Fy W br t i d c;have j:Hid (∀W:World,_):=fun W=>Ms (pcF t i) W;have g:=Kr t i;have I:=fun o=>Aa (b.out o) 1;have J:=fun o=>Aa (b.out o) 2;have F:=fun o=>Aa (b.out o) 3;have G:=Ac hr;clear hr;have M:=follows;have m:(tkF t.data.toList i).cl=clF t.data.toList i:=rfl;have p:(tkF t.data.toList i).tx=txF t.data.toList i:=rfl;have l:(tkF t.data.toList i).at'=atF t.data.toList i:=rfl;unfold Au at h;rw[m,p,l,G6] at h;rw[Bm] at j;generalize Lj t.data.toList i=L at h g;generalize A0 (txF t.data.toList i)=B at h j;generalize clF t.data.toList i=cl at h F;clear m p l ht;have K:((pcF t i).size:Int)=(L:Int):=by rw[g]
 clear g;by_cases x:cl=1
 ·subst x;cases B with
  | true =>
   have f:Hid (r=.error (1,atF t.data.toList i)):=by
    rw[if_pos (.inr rfl)] at h;simp only[Dg,Option.some.injEq] at h;exact h.symm
   clear h;go_enter Tryz.func86,Tryz.ntmps86
   go_wp2_with (first|(go_at_call 113;refine(j.out _).mono ?_;rintro e a ⟨rfl,rfl⟩)|(go_at_call 61;refine(s.out _ 1 (b.out _)).mono ?_;rintro e a ⟨rfl,rfl⟩;unfold Flt))
   rw[f.out];exact⟨rfl,(Fr.refl _ w).alloc _,rfl⟩
  | false =>
   by_cases q:16<L
   ·have f:Hid (r=.error (5,atF t.data.toList i)):=by
     rw[if_neg (by simp),if_pos q] at h;simp only[Dg,Option.some.injEq] at h;exact h.symm
    clear h;have y:(16:Int)<(L:Int):=by omega
    clear q;go_enter Tryz.func86,Tryz.ntmps86
    go_wp2_with (first|(go_at_call 113;refine(j.out _).mono ?_;rintro e a ⟨rfl,rfl⟩)|(go_at_call 61;refine(s.out _ 5 (b.out _)).mono ?_;rintro e a ⟨rfl,rfl⟩;unfold Flt))
    rw[f.out];exact⟨rfl,(Fr.refl _ w).alloc _,rfl⟩
   ·have f:Hid (∃n,r=.ok (n,i+1)):=by
     rw[if_neg (by simp),if_neg q] at h;simp only[okX,Option.some.injEq] at h;exact⟨_,h.symm⟩
    clear h;have y:¬(16:Int)<(L:Int):=by omega
    clear q;go_enter Tryz.func86,Tryz.ntmps86
    go_wp2_with (first|(go_at_call 113;refine(j.out _).mono ?_;rintro e a ⟨rfl,rfl⟩)|(go_at_call 114;refine(D.out _ (b.out _)).mono ?_;rintro e a ⟨rfl,hr,u⟩;have E:Hid (RdF a br t (i+1) d):=hr;have C:Hid (Fr (·≠br) (w.alloc _) a):=u;have k:Hid (a.heap[w.heap.size]?=some _):=(u.block _ (by simp) (by omega)).trans (Af rfl);have N:=Aa k.out 0;have O:=Aa k.out 1;obtain⟨Q,R,-⟩:=Kq k.out;clear hr u))
    have z:=Aa (Ag (Ag k.out 0 (.string (pcF t i))) 1 (.int .i64 (atF t.data.toList i:Int))) 0;have A:=Aa (Ag (Ag k.out 0 (.string (pcF t i))) 1 (.int .i64 (atF t.data.toList i:Int))) 1;simp at z A;refine bodyPost_ret (v:=.agg #[.string (pcF t i),.int .i64 (atF t.data.toList i:Int)]) (by simp[results,Tryz.results86,go_sem,z,A]) rfl ?_;obtain⟨n,rfl⟩:=f.out;exact⟨(((((Fr.refl _ w).alloc _).trans C.out).setB (by simp) _).setB (by simp) _),rfl,(E.out.setB (by simp;omega) _).setB (by simp;omega) _⟩
 ·have f:Hid (r=.error (1,atF t.data.toList i)):=by
   rw[if_pos (.inl x)] at h;simp only[Dg,Option.some.injEq] at h;exact h.symm
  have H:((cl:Int) != 1)=true:=by rw[bne_iff_ne];omega
  clear h x;go_enter Tryz.func86,Tryz.ntmps86
  go_wp2_with (first|(go_at_call 113;refine(j.out _).mono ?_;rintro e a ⟨rfl,rfl⟩)|(go_at_call 61;refine(s.out _ 1 (b.out _)).mono ?_;rintro e a ⟨rfl,rfl⟩;unfold Flt))
  rw[f.out];exact⟨rfl,(Fr.refl _ w).alloc _,rfl⟩
end Go.Proofs.YtjbfcadeapphbaaGreatDoor.Sx
