/- The reader of expressions: its block, going on to the next token. -/
import Derived.Test.YtjbfcadeapphbaaGreatDoorK05
import Derived.Deep.Cut
import Derived.Deep.CutRange
import Derived.Deep.DeepCutAuto
namespace Go.Proofs.YtjbfcadeapphbaaGreatDoor.Sx
set_option maxRecDepth 100000
set_option maxHeartbeats 1000000
open Go.RowKit Go.Sort
def RdB (w:World)(br:Nat)(t:ByteArray)(a:Nat)(p:ByteArray)(c d:Nat):Prop :=
 w.heap[br]?=some (.cells #[.string t,.int .i64 a,.string p,.int .i64 c,.int .i64 d] 123 (0,0))
def pcF (t:ByteArray)(i:Nat):ByteArray:=t.extract (atF t.data.toList i) (atF t.data.toList i+Nt t.data.toList i)
def RdF (w:World)(br:Nat)(t:ByteArray)(i d:Nat):Prop:=RdB w br t (atF t.data.toList i) (pcF t i) (clF t.data.toList i) d
theorem A5 (t:ByteArray)(i:Nat):(pcF t i).data.toList=txF t.data.toList i:=by
 unfold pcF txF;rw[Gq,List.drop_take];congr 1;omega
theorem Jx (t:ByteArray)(i:Nat):(pcF t i).size=Nt t.data.toList i:=by
 have h:=congrArg List.length (A5 t i);rw[Gy] at h;simpa using h
theorem RdB.of {w w':World}{br:Nat}{t:ByteArray}{a:Nat}{p:ByteArray}{c d:Nat}(h:RdB w br t a p c d){P:Nat->Prop}(f:Fr P w w')(hp:P br):RdB w' br t a p c d:=(f.block br (Ab h) hp).trans h
theorem RdF.of {w w':World}{br:Nat}{t:ByteArray}{i d:Nat}(h:RdF w br t i d){P:Nat->Prop}(f:Fr P w w')(hp:P br):RdF w' br t i d:=RdB.of h f hp
theorem RdB.setAt {w:World}{br:Nat}{t:ByteArray}{a:Nat}{p:ByteArray}{c d:Nat}(h:RdB w br t a p c d){x:Int}{a':Nat}(hx:x=(a':Int)):RdB (w.setCell ⟨br,1,none⟩ (.int .i64 x)).drew br t a' p c d:=by
 have:=Ah h 1 (.int .i64 x);refine RdB.of (P:=fun _=>True) (w:=w.setCell ⟨br,1,none⟩ (.int .i64 x)) ?_ (Fr.grew (Ag.refl _).drew) trivial;rw[hx] at this |-;simpa [RdB] using this
theorem RdB.setCl {w:World}{br:Nat}{t:ByteArray}{a:Nat}{p:ByteArray}{c d:Nat}(h:RdB w br t a p c d)(c':Nat):RdB (w.setCell ⟨br,3,none⟩ (.int .i64 (c':Int))) br t a p c' d:=by
 have:=Ah h 3 (.int .i64 (c':Int));simpa [RdB] using this
theorem RdB.setPc {w:World}{br:Nat}{t:ByteArray}{a:Nat}{p:ByteArray}{c d:Nat}(h:RdB w br t a p c d)(p':ByteArray):RdB (w.setCell ⟨br,2,none⟩ (.string p')).drew br t a p' c d:=by
 have:=Ah h 2 (.string p');refine RdB.of (P:=fun _=>True) (w:=w.setCell ⟨br,2,none⟩ (.string p')) ?_ (Fr.grew (Ag.refl _).drew) trivial;simpa [RdB] using this
theorem Qn (w:World)(br:Nat)(t p:ByteArray)(a c d A B cl n:Nat)(hr:RdB w br t a p c d)(ht:t.size<=4000)(hA:a+p.size=A)(hAt:A<=t.size)
  (hB:∀W,Calls Tryz.prog 91 #[.string (t.extract A t.size)] W fun e w'=>e=.returned (.int .i64 B)/\w'=W) (hBt:A+B+n<=t.size)
  (hT:∀W,Calls Tryz.prog 92 #[.string (t.extract (A+B) t.size)] W fun e w'=>e=.returned (.tuple #[.int .i64 cl,.int .i64 n])/\Ag W w') :
  Calls Tryz.prog 60 #[.pointer (some ⟨br,0,none⟩)] w fun e w'=>e=.returned (.tuple #[])/\RdB w' br t (A+B) (t.extract (A+B) (A+B+n)) cl d/\Fr (·≠br) w w':=by
 have V:Hid (∀W:World,_):=hB;have X:Hid (∀W:World,_):=hT;have H:Hid (RdB w br t a p c d):=hr;obtain⟨s,u,v,x,y⟩:=L9 hr;obtain⟨f0,J,K,f3,f4⟩:=Ur hr;clear hB hT hr;have mo:=follows;go_enter Tryz.func60,Tryz.ntmps60
 have S:a+p.size<=4000:=by omega
 have G:Hid (Ag w w.drew):=(Ag.refl w).drew;have b:=H.out.of (P:=fun _=>True) (Fr.grew G.out) trivial;obtain⟨l,m,z,o,C⟩:=L9 b;obtain⟨g0,L,N,g3,g4⟩:=Ur b;go_wp2_with fail
 go_big_region_o
 clear s u v x y f0 J K f3 f4 l m z o C g0 L N g3 g4 b G;have i:Hid (RdB (w.setCell ⟨br,1,none⟩ (.int .i64 ((a:Int)+(p.size:Int)))).drew br t A p c d):=H.out.setAt (by omega);have r:Hid (Fr (·≠br) w (w.setCell ⟨br,1,none⟩ (.int .i64 ((a:Int)+(p.size:Int)))).drew):=((Fr.refl _ w).set (by simp) _).drew;clear H hA S;generalize (a:Int)+(p.size:Int)=x1 at i r |-;generalize (w.setCell ⟨br,1,none⟩ (.int .i64 x1)).drew=W1 at i r |-;obtain⟨s,u,v,x,y⟩:=L9 i.out;have J:=Ac i.out 1;have j:Hid (RdB W1.drew br t A p c d):=i.out.of (P:=fun _=>True) (Fr.grew (Ag.refl _).drew) trivial;obtain⟨l,m,z,o,C⟩:=L9 j.out;have L:=Ac j.out 1;have Q:(A:Int)<=(t.size:Int):=by omega
 have R:((A:Int)).toNat=A:=by omega
 have D:Hid (Fr (·≠br) w W1.drew):=r.out.drew;have O:A+B<=4000:=by omega
 go_upto_region 1 with fail
 go_cut [] (fun wx=>Hid (RdB wx br t (A+B) p c d)/\Hid (Fr (·≠br) w wx))
 case first =>
  go_region_with (go_at_call 91;refine(V.out _).mono ?_;rintro e w' ⟨rfl,hw⟩;cases hw)
  all_goals
   go_wp2_with fail
   go_meet
   case rel =>
    have e:IntKind.i64.wrap ((A:Int)+(B:Int))=((A+B:Nat):Int):=by simp[IntKind.wrap_i64];omega
    exact⟨i.out.setAt e,(r.out.set (by simp) _).drew⟩
 case rest =>
  obtain⟨I,U⟩:=hcut;clear s u v x y J l m z o C L i j r D Q R V;have f:Hid (∀W,Ag wc W->W.cell? ⟨br,0,none⟩=some (.string t)/\W.cell? ⟨br,1,none⟩=some (.int .i64 ((A+B:Nat):Int))/\W.cell? ⟨br,3,none⟩=some (.int .i64 c)/\W.frozen? ⟨br,3,none⟩=false):=by
   intro W g;have h:=I.out.of (P:=fun _=>True) (Fr.grew g) trivial;exact⟨Aa h 0,Aa h 1,Aa h 3,Ac h 3⟩
  generalize Y:A+B=M at *;have a0:(M:Int)<=(t.size:Int):=by omega
  have a1:((M:Int)).toNat=M:=by omega
  obtain⟨l,m,o,q3⟩:=f.out wc (Ag.refl wc);have HM:Hid (A+B=M):=Y;clear Y hAt O;go_upto_region 3 with fail
  go_region_held3 (fun w'=>w'.cell? ⟨br,0,none⟩=some (.string t)/\w'.cell? ⟨br,1,none⟩=some (.int .i64 M)) (first|(constructor<;>assumption)|(refine⟨Ut ?_ (by decide),Ut ?_ (by decide)⟩<;>assumption)|go_keep)
    ((go_at_call 92;refine(X.out _).mono ?_;rintro e w' ⟨rfl,T⟩;obtain⟨j0,j1,j3,j4⟩:=f.out _ ((Ag.refl wc).drew.trans T);have F:Hid (Ag wc w'):=(Ag.refl wc).drew.trans T;clear T))
  have q:Hid (RdB (w'.setCell ⟨br,3,none⟩ (.int .i64 (cl:Int))) br t M p cl d):=(I.out.of (P:=fun _=>True) (Fr.grew F.out) trivial).setCl cl;have E:Hid (Fr (·≠br) w (w'.setCell ⟨br,3,none⟩ (.int .i64 (cl:Int)))):=(U.out.trans (Fr.grew F.out)).set (by simp) _;clear j0 j1 j3 j4 l m o q3 F I U f X;generalize w'.setCell _ _=W3 at q E |-;have k:Hid (RdB W3.drew br t M p cl d):=q.out.of (P:=fun _=>True) (Fr.grew (Ag.refl _).drew) trivial;obtain⟨s,u,v,x,y⟩:=L9 q.out;obtain⟨l,m,z,o,C⟩:=L9 k.out;have K:=Ac q.out 2;have N:=Ac k.out 2;have a3:(M:Int)+(n:Int)<=(t.size:Int):=by omega
  have a2:(M:Int)<=(M:Int)+(n:Int):=by omega
  have a4:((M:Int)+(n:Int)).toNat=M+n:=by omega
  have a5:M+n<=4000:=by omega
  clear x y o C;go_wp2_with fail
  go_big_region_o
  have R4:Hid (RdB _ br t M _ cl d):=q.out.setPc (t.extract M (M+n));have Z:Hid (Fr (·≠br) w (W3.setCell ⟨br,2,none⟩ (.string (t.extract M (M+n)))).drew):=(E.out.set (by simp) _).drew;clear s u v l m z K N q k E;go_wp2_with fail
  go_end0
  rw[HM.out];exact⟨rfl,R4.out,Z.out⟩
theorem Jc (w:World)(br:Nat)(t p:ByteArray)(a c d i:Nat)(hr:RdB w br t a p c d)(ht:t.size<=4000)(hA:a+p.size=Dp t.data.toList i) :
  Calls Tryz.prog 60 #[.pointer (some ⟨br,0,none⟩)] w fun e w'=>e=.returned (.tuple #[])/\RdF w' br t i d/\Fr (·≠br) w w':=by
 have h:t.data.toList.length=t.size:=by simp
 have g:=Ig t.data.toList i;have f:=Hw t.data.toList i;have b:∀k,k<=t.size->(t.extract k t.size).data.toList=t.data.toList.drop k:=fun k hk=>by rw[Gq,List.take_of_length_le (by omega)]
 exact Qn w br t p a c d (Dp t.data.toList i) (btw false (t.data.toList.drop (Dp t.data.toList i))) (clF t.data.toList i) (Nt t.data.toList i) hr ht hA (by omega)
  (fun W=>by have:=Sy (t.extract (Dp t.data.toList i) t.size) W (by simp;omega);rw[b _ (by omega)] at this;exact this)
  (by have:=f.2.2;unfold atF at this;omega)
  (fun W=>by have:=Wz (t.extract (atF t.data.toList i) t.size) W (by simp;omega);rw[b _ (by omega)] at this;exact this)
theorem Co (w:World)(br:Nat)(t:ByteArray)(i d:Nat)(hr:RdF w br t i d)(ht:t.size<=4000) :
  Calls Tryz.prog 60 #[.pointer (some ⟨br,0,none⟩)] w fun e w'=>e=.returned (.tuple #[])/\RdF w' br t (i+1) d/\Fr (·≠br) w w' :=
 Jc w br t _ _ _ d (i+1) hr ht (by rw[Jx,Rj])
end Go.Proofs.YtjbfcadeapphbaaGreatDoor.Sx
