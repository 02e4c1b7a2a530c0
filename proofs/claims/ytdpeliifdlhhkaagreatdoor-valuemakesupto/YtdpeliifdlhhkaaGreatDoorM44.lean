/- Operators on both sides: the notions; what the program's closures of each kind come to. -/
import Derived.Test.YtdpeliifdlhhkaaGreatDoorM25
import Derived.Test.YtdpeliifdlhhkaaGreatDoorM43
import Derived.Test.YtdpeliifdlhhkaaGreatDoorM32
import Derived.Test.YtdpeliifdlhhkaaGreatDoorM38
import Derived.Test.YtdpeliifdlhhkaaGreatDoorM41
import Derived.Test.YtdpeliifdlhhkaaGreatDoorM40
import Derived.Test.YtdpeliifdlhhkaaGreatDoorM39
import Derived.Test.YtdpeliifdlhhkaaGreatDoorM42
import Derived.Test.YtdpeliifdlhhkaaGreatDoorM21
import Derived.Test.YtdpeliifdlhhkaaGreatDoorM24
import Derived.Test.YtdpeliifdlhhkaaGreatDoorM27
import Derived.Test.YtdpeliifdlhhkaaGreatDoorM13
import Derived.Test.YtdpeliifdlhhkaaGreatDoorM28
import Derived.Test.YtdpeliifdlhhkaaGreatDoorM35
import Derived.Test.YtdpeliifdlhhkaaGreatDoorM31
import Derived.Test.YtdpeliifdlhhkaaGreatDoorM30
import Derived.Test.YtdpeliifdlhhkaaGreatDoorM29
import Derived.Test.YtdpeliifdlhhkaaGreatDoorM03
import Derived.Test.YtdpeliifdlhhkaaGreatDoorM10
import Derived.Test.YtdpeliifdlhhkaaGreatDoorM36
import Derived.Test.YtdpeliifdlhhkaaGreatDoorM33
import Derived.Test.YtdpeliifdlhhkaaGreatDoorM37
import Derived.Test.YtdpeliifdlhhkaaGreatDoorM34
namespace Go.Proofs.YtdpeliifdlhhkaaGreatDoor.Sx
open Go.RowKit Go.Sort Tryz
/-- what the program makes of values -/
def Ov (op:ByteArray)(n:Nat)(xs:List (AV n))(m:Nat)(y:AV m):Prop :=
 ∀(P:Nat->Prop)(w:World)(a:Option Addr)(cap:Nat),Bv (fun _=>True) w (Aj P w n) a xs.length xs->Gm a xs.length cap->cap<=9223372036854775807->(∀k,w.heap.size<=k->P k)->Calls prog 21 #[.string op,.slice a xs.length cap] w (Bd P w m y)
def yJ (op:ByteArray)(n:Nat)(xs:List (AV n))(m:Nat)(y:AV m):Prop :=
 ∀(P:Nat->Prop)(w:World)(a:Option Addr)(cap:Nat),Bm (fun _=>True) w (Ref P w n) a xs.length xs->(∀k,w.heap.size<=k->P k)->Calls prog 22 #[.string op,.slice a xs.length cap] w (Aw P w m y)
def Cv (op:ByteArray)(n:Nat)(xs:List (AV n)):Prop:=∃(m:Nat)(y:AV m),Bn m y/\wt m y<=1024/\Ov op n xs m y/\yJ op n xs m y
theorem Kt {P:Nat->Prop}{w W:World}{n:Nat}{a:Option Addr}{len:Nat}{xs:List (AV n)}(h:Bv (fun _=>True) w (Aj P w n) a len xs)(hb:Below w.heap.size w W):Bv (fun _=>True) W (Aj (fun k=>P k/\k≠w.heap.size) W n) a len xs :=
 h.fr (Fr.below hb) (fun x v=>Aj.fr (Fr.below hb) (fun k hk hp=>⟨hp,by omega⟩) n x v) (fun _ _ _=>trivial)
theorem Iz {P:Nat->Prop}{w:World}{n:Nat}{a:Option Addr}{len:Nat}{xs:List (AV n)}(h:Bv (fun _=>True) w (Aj P w n) a len xs):Bv (fun _=>True) w (Aj (fun _=>True) w n) a len xs :=
 h.fr (Fr.refl _ w) (fun x v=>Aj.fr (Fr.refl _ w) (fun _ _ _=>trivial) n x v) (fun _ _ _=>trivial)
theorem tW {P Q:Nat->Prop}{w:World}{n:Nat}{y:Ag (AV n)}{v:Value}(h5:y.kind≠5)(h6:y.kind≠6)(h:Aj Q w (n+1) y v):Aj P w (n+1) y v:=by
 rcases h with h|h|h|h|h|⟨a,b,rfl,_⟩|⟨c,e,b,d,rfl,_⟩
 ·exact .inl h
 ·exact .inr (.inl h)
 ·exact .inr (.inr (.inl h))
 ·exact .inr (.inr (.inr (.inl h)))
 ·exact .inr (.inr (.inr (.inr (.inl h))))
 ·exact absurd rfl h5
 ·exact absurd rfl h6
theorem Z0 {f:FuncId}{args:Array Value}{P Q:Nat->Prop}{w:World}{n:Nat}{y:Ag (AV n)}(h5:y.kind≠5)(h6:y.kind≠6)(h:Calls prog f args w (Bd Q w (n+1) y)):Calls prog f args w (Bd P w (n+1) y):=by
 refine h.mono ?_;rintro e c ⟨v,rfl,a,b⟩;exact⟨v,rfl,a,tW h5 h6 b⟩
theorem Ij {f:FuncId}{args:Array Value}{P Q:Nat->Prop}{w:World}{n:Nat}{b:Bool}(h:Calls prog f args w (Bd Q w (n+1) (Bj b:Ag (AV n)))):Calls prog f args w (Bd P w (n+1) (Bj b:Ag (AV n))):=Z0 (fun h=>by cases h) (fun h=>by cases h) h
theorem Ow {op:ByteArray}{i:Nat}{t:Int}{f:FuncId}{n m:Nat}{xs:List (AV n)}{y:AV m}(hi:Cc[i]?=some (op.data.toList,t,Pq f))(ht:t=-1\/t=(xs.length:Int))(hc:∀(a:Value)(W:World),Sem.run prog (callFunc f #[a]) W=.ok (.enter f #[a]) W)
  (H:∀(P:Nat->Prop)(w:World)(a:Option Addr)(cap:Nat),Bv (fun _=>True) w (Aj P w n) a xs.length xs->Gm a xs.length cap->(∀k,w.heap.size<=k->P k)->Calls prog f #[.slice a xs.length cap] w (Bd P w m y)):Ov op n xs m y:=by
 intro P w a cap h j c e;refine Ko op a _ cap w i t _ hi ht P m y ?_;intro W k l b g d;cases d
 exact⟨_,hc _ _,H _ W a cap (Kt h b) j (fun k hk=>⟨e k (by have:=b.size;omega),by omega⟩)⟩
theorem Rk (a b c:Value)(w:World):Sem.run prog (callFunc 273 #[a,b,c]) w=.ok (.enter 273 #[a,b,c]) w:=by kernel_rfl
theorem bT (a b c:Value)(w:World):Sem.run prog (callFunc 276 #[a,b,c]) w=.ok (.enter 276 #[a,b,c]) w:=by kernel_rfl
theorem fJ (a b:Value)(w:World):Sem.run prog (callFunc 280 #[a,b]) w=.ok (.enter 280 #[a,b]) w:=by kernel_rfl
theorem L9 (a b:Value)(w:World):Sem.run prog (callFunc 285 #[a,b]) w=.ok (.enter 285 #[a,b]) w:=by kernel_rfl
theorem Sy (a b c:Value)(w:World):Sem.run prog (callFunc 286 #[a,b,c]) w=.ok (.enter 286 #[a,b,c]) w:=by kernel_rfl
theorem bU {op:ByteArray}{i:Nat}{v0:Value}{k:FuncId}{cs:Array Value}{n m:Nat}{x y:AV n}{z:AV m}(hi:Cc[i]?=some (op.data.toList,2,I0 v0 (.func (.func k) #[] cs)))(h0:v0.oneCell'=true)
  (H0:¬((Au n x).isSome=true/\(Au n y).isSome=true)->∀(P:Nat->Prop)(w:World),Aj P w m z v0)
  (H1:∀i j,Au n x=some i->Au n y=some j->∀(P:Nat->Prop)(W:World),(∀k,W.heap.size<=k->P k)->jG k cs i j W (Bd P W m z)):Ov op n [x,y] m z:=by
 intro P w a b s t d l;refine Ko op a 2 b w i 2 _ hi (.inr rfl) P m z ?_;intro W u f c o g;obtain⟨p,q,e,r,hq⟩:=g;cases e
 refine⟨_,Rk _ _ _ _,?_⟩;refine Zz n m _ W a b x y (Kt s c) p q v0 k cs r hq z (fun h=>H0 h _ _) (fun i j hx hy W' hW hlt'=>H1 i j hx hy _ W' (fun q hq=>⟨⟨l q (by have:=c.size;have:=hW.below.size;omega),by omega⟩,by have:=hW.below.size;omega⟩)) h0
theorem zU {op:ByteArray}{i:Nat}{f:FuncId}{n m:Nat}{x y:AV n}(R:Int->Int->Bool)(hi:Cc[i]?=some (op.data.toList,2,Lk f))(HC:∀(a b:Value)(w:World),Sem.run prog (callFunc f #[a,b]) w=.ok (.enter f #[a,b]) w)(HK:∀(i j:Int)(w:World),Calls prog f #[.int .i64 i,.int .i64 j] w fun e w'=>e=.returned (.bool (R i j))/\w'=w)(b:Bool)
  (H0:¬((Au n x).isSome=true/\(Au n y).isSome=true)->b=false) (H1:∀i j,Au n x=some i->Au n y=some j->b=R i j):Ov op n [x,y] (m+1) (Bj b:Ag (AV m)):=by
 intro P w a c v A g z;refine Ko op a 2 c w i 2 _ hi (.inr rfl) P (m+1) _ ?_;intro W B k o s l;obtain⟨r,⟨p,q,e,t,u⟩,d⟩:=l;cases e
 refine⟨_,Rk _ _ _ _,?_⟩;refine Zz n (m+1) _ W a c x y (Kt v o) p q _ _ _ t u _ (fun h=>?_) (fun i j hx hy W' hW hlt'=>?_) rfl
 ·rw[H0 h];exact .inr (.inl ⟨false,rfl,rfl⟩)
 ·rw[H1 i j hx hy];exact⟨_,bL _ _ _ _,eN m _ f R HC HK i j r W' (d.below hW.below)⟩
theorem Ba {op:ByteArray}{n m:Nat}{xs:List (AV n)}{y:AV m}(H:∀(P:Nat->Prop)(w:World)(a:Option Addr)(cap:Nat),(∀k,P k->k≠w.heap.size)->(∀k,w.heap.size<k->P k)->Bm (fun _=>True) w (Ref P w n) a xs.length xs->Calls prog 22 #[.string op,.slice a xs.length cap] w (Aw P w m y)):yJ op n xs m y:=by
 intro P w a cap h b;refine(H (fun k=>P k/\k≠w.heap.size) w a cap (fun k hk=>hk.2) (fun k hk=>⟨b k (by omega),by omega⟩) (h.fr (Fr.refl _ w) (fun x v=>Ref.fr (Fr.refl _ w) (fun k hk hp=>⟨hp,by omega⟩) n x v) (fun _ _ _=>trivial))).mono ?_;rintro e f ⟨v,rfl,c,d⟩;exact⟨v,rfl,c,d.fr (Fr.refl _ f) (fun k _ h=>h.1) _ _ _⟩
theorem Hp {n:Nat}{xs:List (AV n)}(h:xs.length=1):∃x,xs=[x]:=by
 match xs,h with
 | [x],_=>exact⟨x,rfl⟩
theorem Cd {n:Nat}{xs:List (AV n)}(h:xs.length=2):∃x y,xs=[x,y]:=by
 match xs,h with
 | [x,y],_=>exact⟨x,y,rfl⟩
theorem tX {n:Nat}{xs:List (AV n)}(h:xs.length=3):∃x y z,xs=[x,y,z]:=by
 match xs,h with
 | [x,y,z],_=>exact⟨x,y,z,rfl⟩
theorem Ph (m:Nat)(b:Bool):wt (m+1) (Bj b:Ag (AV m))<=1024:=by show 1<=1024;omega
theorem Sz (m:Nat)(i:Int):wt (m+1) (Cu i:Ag (AV m))<=1024:=by show 1<=1024;omega
theorem Db (m:Nat):wt (m+1) (Ar:Ag (AV m))<=1024:=by show 1<=1024;omega
theorem M5 (n:Nat)(es:List (AV n)):wt (n+1) (mkS (wt n) es:Ag (AV n))<=1024:=by
 unfold mkS;split
 ·rename_i h;exact h
 ·exact Db n
theorem S3 (n:Nat)(ks us:List (AV n)):wt (n+1) (mkF (wt n) ks us:Ag (AV n))<=1024:=by
 unfold mkF;split
 ·rename_i h;exact h
 ·exact Db n
theorem zV (n:Nat)(l:List (AV n×AV n)):wt (n+1) (mkP (wt n) l:Ag (AV n))<=1024:=by
 unfold mkP;split
 ·exact S3 _ _ _
 ·exact Db n
theorem bV (m:Nat)(a:Int)(len:Nat):Asc (Al (m+1)) (Cs m a len):=by
 unfold Asc Cs;rw[List.pairwise_map];exact List.Pairwise.imp (fun h=>Zc m _ _ (by omega)) List.pairwise_lt_range
theorem Xh {P:Nat->Prop}{w w2:World}(m:Nat)(b:Bool)(hg:Ac w w2):Aw P w (m+1) (Bj b:Ag (AV m)) (.returned (.agg #[.int .i64 1,.int .i64 (if b then 1 else 0),.string ⟨#[]⟩,.slice none 0 0,.slice none 0 0])) w2:=⟨_,rfl,hg.below,eT P w2 m b⟩
theorem Hx {n:Nat}(x:Ag (AV n))(i:Int):Au (n+1) x=some i↔x.kind=2/\x.int=i:=by
 show(if Ag.kind x=2 then some (Ag.int x) else none)=some i↔_;split<;>simp_all
theorem Hq {n:Nat}(x:Ag (AV n)):(Au (n+1) x).isSome=true↔x.kind=2:=by
 show(if Ag.kind x=2 then some (Ag.int x) else none).isSome=true↔_;split<;>simp_all
theorem M6 (i:Int):-9223372036854775808<=wrap64 i/\wrap64 i<=9223372036854775807:=by unfold wrap64;omega
theorem Ll {n:Nat}(x:Ag (AV n))(h:WF (n+1) x):-9223372036854775808<=x.int/\x.int<=9223372036854775807:=by
 rcases h with h|⟨b,h⟩|⟨i,h,a,c⟩|⟨l,h,_⟩|⟨l,h,_⟩|⟨d,h,_⟩|⟨e,f,h,_⟩
 ·rw[h];show -9223372036854775808<=(0:Int)/\(0:Int)<=9223372036854775807;omega
 ·rw[h];show -9223372036854775808<=(if b then(1:Int) else 0)/\(if b then(1:Int) else 0)<=9223372036854775807;split<;>omega
 ·rw[h];exact⟨a,c⟩
 ·rw[h];show -9223372036854775808<=(0:Int)/\(0:Int)<=9223372036854775807;omega
 ·rw[h];show -9223372036854775808<=(0:Int)/\(0:Int)<=9223372036854775807;omega
 ·rw[h];show -9223372036854775808<=(0:Int)/\(0:Int)<=9223372036854775807;omega
 ·rw[h];show -9223372036854775808<=(0:Int)/\(0:Int)<=9223372036854775807;omega
theorem fK (a:Value)(w:World):Sem.run prog (callFunc 187 #[a]) w=.ok (.enter 187 #[a]) w:=by kernel_rfl
theorem fL (a:Value)(w:World):Sem.run prog (callFunc 189 #[a]) w=.ok (.enter 189 #[a]) w:=by kernel_rfl
theorem fM (a:Value)(w:World):Sem.run prog (callFunc 190 #[a]) w=.ok (.enter 190 #[a]) w:=by kernel_rfl
theorem fN (a:Value)(w:World):Sem.run prog (callFunc 191 #[a]) w=.ok (.enter 191 #[a]) w:=by kernel_rfl
theorem fO (a:Value)(w:World):Sem.run prog (callFunc 192 #[a]) w=.ok (.enter 192 #[a]) w:=by kernel_rfl
theorem fQ (a:Value)(w:World):Sem.run prog (callFunc 193 #[a]) w=.ok (.enter 193 #[a]) w:=by kernel_rfl
theorem fR (a:Value)(w:World):Sem.run prog (callFunc 195 #[a]) w=.ok (.enter 195 #[a]) w:=by kernel_rfl
theorem tY (a:Value)(w:World):Sem.run prog (callFunc 210 #[a]) w=.ok (.enter 210 #[a]) w:=by kernel_rfl
theorem tZ (n:Nat)(x:Ag (AV n)):Cv ⟨#[110,111,116]⟩ (n+1) [(x:AV (n+1))] :=
 ⟨n+2,(Bj (!soN x):Ag (AV (n+1))),Ih _ _,Ph _ _,Ow (i:=0) rfl (.inr rfl) fK (fun _ w a cap h _ _=>Ij (wN (n+1) _ w a cap x (Iz h))),Ba fun P w a cap hne _ h =>
  Cg (i:=0) (by rfl) (by simp) (n+1) (n+1) P w a cap x h _ fun u W _ hu _=>tD n (n+1) _ W x u (hu.fr (Fr.refl _ W) (fun k _ hp=>⟨hp,hne k hp⟩) _ _ _) _ rfl⟩
theorem Mb (n:Nat)(x y:Ag (AV n)){op:ByteArray}{i:Nat}{f:FuncId}{B:Bool}(hi:Cc[i]?=some (op.data.toList,2,Pq f))(hs:1<=i/\i<=6)(hc:∀(a:Value)(W:World),Sem.run prog (callFunc f #[a]) W=.ok (.enter f #[a]) W)
  (hp:∀(P:Nat->Prop)(w:World)(a:Option Addr)(cap:Nat),Bv (fun _=>True) w (Aj P w (n+1)) a 2 [(x:AV (n+1)),(y:AV (n+1))]->Calls prog f #[.slice a 2 cap] w (Bd P w (n+2) (Bj B:Ag (AV (n+1)))))
  (hr:op=⟨#[97,110,100]⟩/\(soN x&&soN y)=B\/op=⟨#[111,114]⟩/\(soN x||soN y)=B\/op=⟨#[105,109,112,108,105,101,115]⟩/\(!soN x||soN y)=B\/op=⟨#[105,102,102]⟩/\(soN x==soN y)=B\/op=⟨#[61]⟩/\(Al (n+1) x y==0)=B\/op=⟨#[47,61]⟩/\(!(Al (n+1) x y==0))=B):Cv op (n+1) [(x:AV (n+1)),(y:AV (n+1))] :=
 ⟨n+2,(Bj B:Ag (AV (n+1))),Ih _ _,Ph _ _,Ow hi (.inr rfl) hc (fun P w a cap h _ _=>hp P w a cap h),fun P w a cap h _ =>
  Ot (f:=49) hi (by omega) (n+1) (n+1) P w a cap x y h _ fun u v W _ hu hv _=>(jS n P W x y u v hu hv _ _ hr).mono fun e w' q=>by
   obtain⟨rfl,hg⟩:=q;exact Xh (n+1) _ hg⟩
theorem uA (n:Nat)(x y:Ag (AV n)):Cv ⟨#[97,110,100]⟩ (n+1) [(x:AV (n+1)),(y:AV (n+1))] :=
 Mb n x y (i:=1) rfl (by omega) fL (fun _ w a cap h=>Ij (Sh (n+1) _ w a cap x y (Iz h) _ _ (.inl ⟨rfl,rfl⟩))) (.inl ⟨rfl,rfl⟩)
theorem xI (n:Nat)(x y:Ag (AV n)):Cv ⟨#[111,114]⟩ (n+1) [(x:AV (n+1)),(y:AV (n+1))] :=
 Mb n x y (i:=2) rfl (by omega) fM (fun _ w a cap h=>Ij (Sh (n+1) _ w a cap x y (Iz h) _ _ (.inr (.inl ⟨rfl,rfl⟩)))) (.inr (.inl ⟨rfl,rfl⟩))
theorem bW (n:Nat)(x y:Ag (AV n)):Cv ⟨#[105,109,112,108,105,101,115]⟩ (n+1) [(x:AV (n+1)),(y:AV (n+1))] :=
 Mb n x y (i:=3) rfl (by omega) fN (fun _ w a cap h=>Ij (Sh (n+1) _ w a cap x y (Iz h) _ _ (.inr (.inr ⟨rfl,rfl⟩)))) (.inr (.inr (.inl ⟨rfl,rfl⟩)))
theorem uB (n:Nat)(x y:Ag (AV n)):Cv ⟨#[105,102,102]⟩ (n+1) [(x:AV (n+1)),(y:AV (n+1))] :=
 Mb n x y (i:=4) rfl (by omega) fO (fun _ w a cap h=>Ij (wO (n+1) _ w a cap x y (Iz h))) (.inr (.inr (.inr (.inl ⟨rfl,rfl⟩))))
theorem xJ (n:Nat)(x y:Ag (AV n)):Cv ⟨#[61]⟩ (n+1) [(x:AV (n+1)),(y:AV (n+1))] :=
 Mb n x y (i:=5) rfl (by omega) fQ (fun _ w a cap h=>Ij (zL (n+1) _ w a cap x y (Iz h))) (.inr (.inr (.inr (.inr (.inl ⟨rfl,rfl⟩)))))
theorem xK (n:Nat)(x y:Ag (AV n)):Cv ⟨#[47,61]⟩ (n+1) [(x:AV (n+1)),(y:AV (n+1))] :=
 Mb n x y (i:=6) rfl (by omega) fR (fun _ w a cap h=>Ij (zM (n+1) _ w a cap x y (Iz h))) (.inr (.inr (.inr (.inr (.inr (⟨rfl,rfl⟩))))))
theorem Rl (n:Nat)(x y:Ag (AV n)){op:ByteArray}{i:Nat}{f:FuncId}(R:Int->Int->Bool)(hi:Cc[i]?=some (op.data.toList,2,Lk f))(hs:7<=i/\i<=10)(HC:∀(a b:Value)(w:World),Sem.run prog (callFunc f #[a,b]) w=.ok (.enter f #[a,b]) w)(HK:∀(i j:Int)(w:World),Calls prog f #[.int .i64 i,.int .i64 j] w fun e w'=>e=.returned (.bool (R i j))/\w'=w)
  (hr:op=⟨#[60]⟩/\decide (x.int<y.int)=R x.int y.int\/op=⟨#[60,61]⟩/\decide (x.int<=y.int)=R x.int y.int\/op=⟨#[62]⟩/\decide (x.int > y.int)=R x.int y.int\/op=⟨#[62,61]⟩/\decide (x.int >= y.int)=R x.int y.int):Cv op (n+1) [(x:AV (n+1)),(y:AV (n+1))]:=by
 refine⟨n+2,(Bj (decide (x.kind=2)&&decide (y.kind=2)&&R x.int y.int):_),Ih _ _,Ph _ _,zU R hi HC HK _ ?_ ?_,?_⟩
 ·intro h;rw[Hq,Hq] at h;by_cases c:x.kind=2
  ·have g:¬y.kind=2:=fun q=>h ⟨c,q⟩;simp[g]
  ·simp[c]
 ·intro i j l m;obtain⟨c,rfl⟩:=(Hx x i).1 l;obtain⟨g,rfl⟩:=(Hx y j).1 m;simp[c,g]
 ·intro P w a d h _;refine Jp hi (by omega) (n+1) (n+1) P w a d x y h _ fun u v W _ hu hv _=>(aV n P W x y u v hu hv _ _ hr).mono fun e w' q=>?_;obtain⟨rfl,k⟩:=q;exact Xh (n+1) _ k
theorem xL (n:Nat)(x y:Ag (AV n)):Cv ⟨#[60]⟩ (n+1) [(x:AV (n+1)),(y:AV (n+1))] :=
 Rl n x y (i:=7) (fun i j=>decide (i<j)) rfl (by omega) wP zN (.inl ⟨rfl,rfl⟩)
theorem xM (n:Nat)(x y:Ag (AV n)):Cv ⟨#[60,61]⟩ (n+1) [(x:AV (n+1)),(y:AV (n+1))] :=
 Rl n x y (i:=8) (fun i j=>decide (i<=j)) rfl (by omega) wQ zO (.inr (.inl ⟨rfl,rfl⟩))
theorem xN (n:Nat)(x y:Ag (AV n)):Cv ⟨#[62]⟩ (n+1) [(x:AV (n+1)),(y:AV (n+1))] :=
 Rl n x y (i:=9) (fun i j=>decide (j<i)) rfl (by omega) wR zP (.inr (.inr (.inl ⟨rfl,rfl⟩)))
theorem xO (n:Nat)(x y:Ag (AV n)):Cv ⟨#[62,61]⟩ (n+1) [(x:AV (n+1)),(y:AV (n+1))] :=
 Rl n x y (i:=10) (fun i j=>decide (j<=i)) rfl (by omega) wS zQ (.inr (.inr (.inr (⟨rfl,rfl⟩))))
theorem Xi (n:Nat)(x y:Ag (AV n)){op:ByteArray}{i:Nat}{k:FuncId}{cs:Array Value}{D:Int}(hi:Cc[i]?=some (op.data.toList,2,I0 .nilIface (.func (.func k) #[] cs)))(hs:11<=i/\i<=13)(hD:-9223372036854775808<=D/\D<=9223372036854775807)
  (hp:∀(P:Nat->Prop)(W:World),jG k cs x.int y.int W (Bd P W (n+2) (Cu D:Ag (AV (n+1))))) (hr:op=⟨#[43]⟩/\wrap64 (x.int+y.int)=D\/op=⟨#[45]⟩/\wrap64 (x.int-y.int)=D\/op=⟨#[42]⟩/\wrap64 (x.int*y.int)=D):Cv op (n+1) [(x:AV (n+1)),(y:AV (n+1))]:=by
 refine⟨n+2,(if x.kind=2/\y.kind=2 then Cu D else Ar:_),?_,?_,bU hi rfl ?_ ?_,?_⟩
 ·split
  ·exact Iw _ _ hD.1 hD.2
  ·exact Br _
 ·split
  ·exact Sz _ _
  ·exact Db _
 ·intro h P w;rw[Hq,Hq] at h;rw[if_neg (fun q=>h ⟨q.1,q.2⟩)];exact .inl ⟨rfl,rfl⟩
 ·intro i j g l P W _;obtain⟨d,rfl⟩:=(Hx x i).1 g;obtain⟨f,rfl⟩:=(Hx y j).1 l;rw[if_pos ⟨d,f⟩];exact hp P W
 ·intro P w a b h _;refine Jp hi (by omega) (n+1) (n+1) P w a b x y h _ fun u v W _ hu hv _=>(aW n P W x y u v hu hv _ _ hr).mono fun e w' q=>?_;obtain⟨rfl,c⟩:=q;split
  ·exact⟨_,rfl,c.below,O6 _ _ _ _⟩
  ·exact Dj (n+1) c.below
theorem uC (n:Nat)(x y:Ag (AV n)):Cv ⟨#[43]⟩ (n+1) [(x:AV (n+1)),(y:AV (n+1))] :=
 Xi n x y (i:=11) rfl (by omega) (M6 _) (fun P W=>⟨_,sT _ _ _,wT (n+1) P x.int y.int W⟩) (.inl ⟨rfl,rfl⟩)
theorem uD (n:Nat)(x y:Ag (AV n)):Cv ⟨#[45]⟩ (n+1) [(x:AV (n+1)),(y:AV (n+1))] :=
 Xi n x y (i:=12) rfl (by omega) (M6 _) (fun P W=>⟨_,sV _ _ _,wU (n+1) P x.int y.int W⟩) (.inr (.inl ⟨rfl,rfl⟩))
theorem uE (n:Nat)(x y:Ag (AV n)):Cv ⟨#[42]⟩ (n+1) [(x:AV (n+1)),(y:AV (n+1))] :=
 Xi n x y (i:=13) rfl (by omega) (M6 _) (fun P W=>⟨_,sW _ _ _,wV (n+1) P x.int y.int W⟩) (.inr (.inr (⟨rfl,rfl⟩)))
theorem uF (n:Nat)(x y:Ag (AV n)):Cv ⟨#[47]⟩ (n+1) [(x:AV (n+1)),(y:AV (n+1))]:=by
 refine⟨n+2,(if x.kind=2/\y.kind=2/\y.int≠0 then Cu (wrap64 (x.int.tdiv y.int)) else Ar:_),?_,?_,bU (i:=14) rfl rfl ?_ ?_,?_⟩
 ·split
  ·exact Iw _ _ (M6 _).1 (M6 _).2
  ·exact Br _
 ·split
  ·exact Sz _ _
  ·exact Db _
 ·intro h P w;rw[Hq,Hq] at h;rw[if_neg (fun q=>h ⟨q.1,q.2.1⟩)];exact .inl ⟨rfl,rfl⟩
 ·intro i j k l P W _;obtain⟨f,rfl⟩:=(Hx x i).1 k;obtain⟨g,rfl⟩:=(Hx y j).1 l;have q:=wW (n+1) P x.int y.int W;by_cases b:y.int=0
  ·rw[if_pos b] at q;rw[if_neg (fun h=>h.2.2 b)];exact⟨_,eO _ _ _,q⟩
  ·rw[if_neg b] at q;rw[if_pos ⟨f,g,b⟩];exact⟨_,eO _ _ _,q⟩
 ·intro P w a c h _;refine Jp (i:=14) (by rfl) (by simp) (n+1) (n+1) P w a c x y h _ fun u v W _ hu hv _=>(Q6 n P W x y u v hu hv _ _ (.inl ⟨rfl,rfl⟩)).mono fun e w' q=>?_;obtain⟨rfl,d⟩:=q;split
  ·exact⟨_,rfl,d.below,O6 _ _ _ _⟩
  ·exact Dj (n+1) d.below
theorem uG (n:Nat)(x y:Ag (AV n))(hx:Bn (n+1) x):Cv ⟨#[37]⟩ (n+1) [(x:AV (n+1)),(y:AV (n+1))]:=by
 refine⟨n+2,(if x.kind=2/\y.kind=2/\y.int≠0 then Cu (x.int.tmod y.int) else Ar:_),?_,?_,bU (i:=15) rfl rfl ?_ ?_,?_⟩
 ·split
  ·exact Iw _ _ (Qg _ _ (Ll x hx.1.1)).1 (Qg _ _ (Ll x hx.1.1)).2
  ·exact Br _
 ·split
  ·exact Sz _ _
  ·exact Db _
 ·intro h P w;rw[Hq,Hq] at h;rw[if_neg (fun q=>h ⟨q.1,q.2.1⟩)];exact .inl ⟨rfl,rfl⟩
 ·intro i j hx k P W _;obtain⟨f,rfl⟩:=(Hx x i).1 hx;obtain⟨g,rfl⟩:=(Hx y j).1 k;have q:=wX (n+1) P x.int y.int W;by_cases b:y.int=0
  ·rw[if_pos b] at q;rw[if_neg (fun h=>h.2.2 b)];exact⟨_,eP _ _ _,q⟩
  ·rw[if_neg b] at q;rw[if_pos ⟨f,g,b⟩];exact⟨_,eP _ _ _,q⟩
 ·intro P w a c h _;refine Jp (i:=15) (by rfl) (by simp) (n+1) (n+1) P w a c x y h _ fun u v W _ hu hv _=>(Q6 n P W x y u v hu hv _ _ (.inr ⟨rfl,rfl,Ll x hx.1.1⟩)).mono fun e w' q=>?_;obtain⟨rfl,d⟩:=q;split
  ·exact⟨_,rfl,d.below,O6 _ _ _ _⟩
  ·exact Dj (n+1) d.below
theorem fS (n:Nat)(x:Ag (AV n))(k:Nat)(h2:k≠2)(h0:k≠0):(match Au (n+1) x with|some i=>Cu (wrap64 (-i))|none=>Ar:Ag (AV (n+1))).kind≠k:=by
 split
 ·exact fun h=>h2 h.symm
 ·exact fun h=>h0 h.symm
theorem uH (n:Nat)(x:Ag (AV n)):Cv ⟨#[110,101,103]⟩ (n+1) [(x:AV (n+1))]:=by
 refine⟨n+2,_,?_,?_,Ow (i:=17) rfl (.inr rfl) tY (fun _ w a cap h _ _=>Z0 (fS n x 5 (by omega) (by omega)) (fS n x 6 (by omega) (by omega)) (wY (n+1) _ w a cap x (Iz h))),?_⟩
 ·split
  ·exact Iw _ _ (M6 _).1 (M6 _).2
  ·exact Br _
 ·split
  ·exact Sz _ _
  ·exact Db _
 ·refine Ba fun P w a cap hne _ h=>?_;refine Cg (i:=17) (by rfl) (by simp) (n+1) (n+1) P w a cap x h _ fun u W _ hu hlt=>?_;refine tC n (n+1) _ W x u (hu.fr (Fr.refl _ W) (fun k _ hp=>⟨hp,hne k hp⟩) _ _ _) _ ?_ ?_
  ·intro b;have:Au (n+1) x=none:=if_neg b;rw[this]
  ·intro b _ _ c _ _;have:Au (n+1) x=some x.int:=if_pos b;rw[this];exact Mx _ (n+1) _ c
theorem pP (n:Nat)(x y:Ag (AV n))(hx:Bn (n+1) x)(hy:Bn (n+1) y):Cv ⟨#[46,46]⟩ (n+1) [(x:AV (n+1)),(y:AV (n+1))]:=by
 refine⟨n+2,(if x.kind=2/\y.kind=2 then mkS (wt (n+1)) (Cs n x.int (Fd x.int y.int)) else Ar:_),?_,?_,bU (i:=16) rfl rfl ?_ ?_,?_⟩
 ·split
  ·refine Jk (n+1) _ (fun q hq=>?_) (bV n _ _);obtain⟨i,d,rfl⟩:=List.mem_map.1 hq;have h1:=List.mem_range.1 d;have h2:=Ll x hx.1.1;have e:=Ll y hy.1.1;unfold Fd at h1;exact Iw n _ (by omega) (by omega)
  ·exact Br _
 ·split
  ·exact M5 _ _
  ·exact Db _
 ·intro h P w;rw[Hq,Hq] at h;rw[if_neg h];exact .inl ⟨rfl,rfl⟩
 ·intro i j b c P W hP;obtain⟨h1,rfl⟩:=(Hx x i).1 b;obtain⟨h2,rfl⟩:=(Hx y j).1 c;rw[if_pos ⟨h1,h2⟩];exact⟨_,oX _ _ _,oW n P W x.int y.int (Ll x hx.1.1) (Ll y hy.1.1) hP⟩
 ·refine Ba fun P w a cap hne hP h=>?_;refine Jp (i:=16) (by rfl) (by simp) (n+1) (n+1) P w a cap x y h _ fun u v W hW hu hv hlt=>?_;refine X6 n n _ W x y u v (hu.fr (Fr.refl _ W) (fun k _ hp=>⟨hp,hne k hp⟩) _ _ _) (hv.fr (Fr.refl _ W) (fun k _ hp=>⟨hp,hne k hp⟩) _ _ _) (Ll x hx.1.1) (Ll y hy.1.1) (fun k hk=>⟨hP k (by have:=hW.below.size;omega),by omega⟩) _ (fun h=>if_neg h) (fun h1 h2=>if_pos ⟨h1,h2⟩)
/-- the other values -/
def fT (P:Nat->Prop)(w:World)(n:Nat)(rest:List (AV n))(o:Value):Prop :=
 ∃b off cap,o=.slice (some ⟨b,off,none⟩) rest.length cap/\b<w.heap.size/\∀i y,rest[i]?=some y->∃v,w.cell? ⟨b,off+i,none⟩=some v/\Aj P w n y v
theorem bX {P:Nat->Prop}{w W:World}{n b off off' len c:Nat}{a:Option Addr}{x:AV n}{rest:List (AV n)}(h:Bv (fun _=>True) w (Aj P w n) a (len+1) (x::rest))(e:a=some ⟨b,off,none⟩)(ho:0<len->off'=off+1)(hW:Ac w W):fT (fun k=>P k/\k≠w.heap.size) W n rest (.slice (some ⟨b,off',none⟩) len c):=by
 obtain⟨l,_,t|⟨s,g,f,d,_,m⟩⟩:=h
 ·omega
 ·rw[e] at f;simp only[Option.some.injEq,Addr.mk.injEq,and_true] at f;obtain⟨rfl,rfl⟩:=f;have o:len=rest.length:=by simpa using l
  refine⟨b,off',c,by rw[o],Ad8 d hW.below.size,fun i y hy=>?_⟩;obtain⟨v,r,q⟩:=m (i+1) y (by simpa using hy);have u:=(List.getElem?_eq_some_iff.1 hy).1;refine⟨v,?_,q.fr (Fr.grew hW) (fun k hk hp=>⟨hp,by omega⟩) n y v⟩;rw[ho (by omega)];have j:off+1+i=off+(i+1):=by omega
  rw[j];exact(hW.below.cell (p:=⟨b,off+(i+1),none⟩) d).trans r
theorem fT.row {P:Nat->Prop}{w:World}{n:Nat}{rest:List (AV n)}{o:Value}(h:fT P w n rest o)(hl:rest.length<=4294967296):∃a cap,o=.slice a rest.length cap/\Bv (fun _=>True) w (Aj P w n) a rest.length rest:=by
 obtain⟨b,d,cap,rfl,c,e⟩:=h;exact⟨_,cap,rfl,rfl,hl,.inr ⟨b,d,rfl,c,trivial,e⟩⟩
theorem S6 {op:ByteArray}{i:Nat}{v0:Value}{k:FuncId}{n m:Nat}{x y:Ag (AV n)}{z:AV m}(hi:Cc[i]?=some (op.data.toList,2,Ku v0 (.func (.func k) #[] #[])))(h0:v0.oneCell'=true)(HC:∀(a b:Value)(W:World),Sem.run prog (callFunc k #[a,b]) W=.ok (.enter k #[a,b]) W)
  (H0:¬(x.kind=5/\y.kind=5)->∀(P:Nat->Prop)(w:World),Aj P w m z v0)
  (H1:x=Bt x.keys->y=Bt y.keys->∀(P:Nat->Prop)(W:World)(b1 b2:Nat),Dy P W (Aj P W n) (wt n) b1 x.keys->Dy P W (Aj P W n) (wt n) b2 y.keys->(∀k,W.heap.size<=k->P k)->Calls prog k #[.pointer (some ⟨b1,0,none⟩),.pointer (some ⟨b2,0,none⟩)] W (Bd P W m z)):Ov op (n+1) [(x:AV (n+1)),(y:AV (n+1))] m z:=by
 intro P w a c u v f o;refine Ko op a 2 c w i 2 _ hi (.inr rfl) P m z ?_;intro W A g d r l;obtain⟨p,q,e,s,t⟩:=l;cases e
 refine⟨_,bT _ _ _ _,?_⟩;refine pO n m _ W a c x y (Kt u d) p q v0 k #[] s t z (fun h=>H0 h _ _) (fun b1 b2 e1 e2 s1 s2 W' hW hlt'=>⟨_,HC _ _ _,H1 e1 e2 _ W' b1 b2 (s1.boxed hW.below) (s2.boxed hW.below) (fun j hj=>⟨⟨o j (by have:=d.size;have:=hW.below.size;omega),by have:=hW.below.size;omega⟩,by have:=hW.below.size;omega⟩)⟩) h0
theorem Ox {op:ByteArray}{i:Nat}{t:Int}{k:FuncId}{n m:Nat}{x:Ag (AV n)}{rest:List (AV (n+1))}{z:AV m}(hi:Cc[i]?=some (op.data.toList,t,Mt (.func (.func k) #[] #[])))(ht:t=((rest.length+1:Nat):Int))(HC:∀(a b:Value)(W:World),Sem.run prog (callFunc k #[a,b]) W=.ok (.enter k #[a,b]) W)
  (H0:x.kind≠5->∀(P:Nat->Prop)(w:World),Aj P w m z .nilIface)
  (H1:x=Bt x.keys->∀(P:Nat->Prop)(W:World)(b1:Nat)(o:Value),Dy P W (Aj P W n) (wt n) b1 x.keys->fT P W (n+1) rest o->(∀k,W.heap.size<=k->P k)->Calls prog k #[.pointer (some ⟨b1,0,none⟩),o] W (Bd P W m z)):Ov op (n+1) ((x:AV (n+1))::rest) m z:=by
 intro P w a c g l d u;have g:Bv _ w (Aj P w (n+1)) a (_+1) _:=g;have l:Gm a (rest.length+1) c:=l;show Calls prog 21 #[.string op,.slice a (rest.length+1) c] w (Bd P w m z);refine Ko op a _ c w i t _ hi (.inr ht) P m z ?_;intro W A r p v s;obtain⟨q,e,y⟩:=s;cases e
 refine⟨_,fJ _ _ _,?_⟩;have f:=Kt g p;refine tT n m _ W a _ c l.1 d x rest f q k #[] y z (fun h=>H0 h _ _) (fun g1 g2 W'=>HC g1 g2 W') (fun b1 e1 s1 b off off' ea ho W' hW hlt'=>?_);exact H1 e1 _ W' b1 _ (s1.boxed hW.below) (bX f ea ho hW) (fun j hj=>⟨⟨u j (by have:=p.size;have:=hW.below.size;omega),by have:=hW.below.size;omega⟩,by have:=hW.below.size;omega⟩)
theorem M7 {op:ByteArray}{i:Nat}{t:Int}{k:FuncId}{n m:Nat}{x:Ag (AV n)}{rest:List (AV (n+1))}{z:AV m}(hi:Cc[i]?=some (op.data.toList,t,L6 (.func (.func k) #[] #[])))(ht:t=((rest.length+1:Nat):Int))(HC:∀(a b:Value)(W:World),Sem.run prog (callFunc k #[a,b]) W=.ok (.enter k #[a,b]) W)
  (H0:x.kind≠6->∀(P:Nat->Prop)(w:World),Aj P w m z .nilIface)
  (H1:x=Dd x.keys x.vals->∀(P:Nat->Prop)(W:World)(b1 d1:Nat)(o:Value),FnP P W (Aj P W n) (Au n) (wt n) b1 d1 x.keys x.vals->fT P W (n+1) rest o->(∀k,W.heap.size<=k->P k)->Calls prog k #[.pointer (some ⟨b1,0,none⟩),o] W (Bd P W m z)):Ov op (n+1) ((x:AV (n+1))::rest) m z:=by
 intro P w a c g l d u;have g:Bv _ w (Aj P w (n+1)) a (_+1) _:=g;have l:Gm a (rest.length+1) c:=l;show Calls prog 21 #[.string op,.slice a (rest.length+1) c] w (Bd P w m z);refine Ko op a _ c w i t _ hi (.inr ht) P m z ?_;intro W B r p y s;obtain⟨q,e,A⟩:=s;cases e
 refine⟨_,L9 _ _ _,?_⟩;have f:=Kt g p;refine P3 n m _ W a _ c l.1 d x rest f q k #[] A z (fun h=>H0 h _ _) (fun g1 g2 W'=>HC g1 g2 W') (fun b1 d1 e1 s1 b off off' ea ho W' hW hlt'=>?_);exact H1 e1 _ W' b1 d1 _ (s1.fr (Fr.grew hW) (fun x v=>Aj.fr (Fr.grew hW) (fun k hk hp=>⟨hp,by omega⟩) n x v) (fun k hk hp=>⟨hp,by omega⟩)) (bX f ea ho hW) (fun j hj=>⟨⟨u j (by have:=p.size;have:=hW.below.size;omega),by have:=hW.below.size;omega⟩,by have:=hW.below.size;omega⟩)
theorem Jd {op:ByteArray}{i:Nat}{t:Int}{f:FuncId}{n m:Nat}{x:Ag (AV n)}{rest:List (AV (n+1))}{z:AV m}(hi:Cc[i]?=some (op.data.toList,t,Kv f))(ht:t=((rest.length+1:Nat):Int))(HC:∀(a b:Value)(W:World),Sem.run prog (callFunc f #[a,b]) W=.ok (.enter f #[a,b]) W)
  (H0:¬(x.kind=6/\A7 (Au n) x.keys=true)->∀(P:Nat->Prop)(w:World),Aj P w m z .nilIface)
  (H1:x=Dd x.keys x.vals->A7 (Au n) x.keys=true->∀(P:Nat->Prop)(W:World)(a1:Option Addr)(l1 c1:Nat)(o:Value),Bv P W (Aj P W n) a1 l1 x.vals->Gm a1 l1 c1->fT P W (n+1) rest o->(∀k,W.heap.size<=k->P k)->Calls prog f #[.slice a1 l1 c1,o] W (Bd P W m z)):Ov op (n+1) ((x:AV (n+1))::rest) m z:=by
 intro P w a d C F u L;have C:Bv _ w (Aj P w (n+1)) a (_+1) _:=C;have F:Gm a (rest.length+1) d:=F;show Calls prog 21 #[.string op,.slice a (rest.length+1) d] w (Bd P w m z);refine Ko op a _ d w i t _ hi (.inr ht) P m z ?_;intro W T I H M K;obtain⟨r,⟨q,e,N⟩,D⟩:=K;cases e
 refine⟨_,L9 _ _ _,?_⟩;have A:=Kt C H;refine P3 n m _ W a _ d F.1 u x rest A q 286 #[_] N z (fun h=>H0 (fun h'=>h h'.1) _ _) (fun g1 g2 W'=>Sy g1 g2 _ W') (fun b1 d1 e1 s1 b off off' ea ho W' hW hlt'=>?_);have S:=FnP.fr (Q:=fun k=>(_/\k≠W.heap.size)) (R':=Aj (fun k=>(_/\k≠W.heap.size)) W' n) (Fr.grew hW) (fun x v=>Aj.fr (Fr.grew hW) (fun k hk hp=>⟨hp,by omega⟩) n x v) (fun k hk hp=>⟨hp,by omega⟩) s1;have R:=bX (c:=d-1) A ea ho hW;refine Ug n m _ W' b1 d1 x.keys x.vals S _ r f (D.below hW.below) z HC (fun h=>H0 (fun h'=>by rw[h'.2] at h;exact Bool.noConfusion h) _ _) (fun h a1 l1 c1 hrow hsh W2 hW2 hlt2=>?_);refine H1 e1 h _ W2 a1 l1 c1 _ (hrow.fr (Fr.grew hW2) (fun x v=>Aj.fr (Fr.grew hW2) (fun k hk hp=>⟨hp,by omega⟩) n x v) (fun k hk hp=>⟨hp,by omega⟩)) hsh ?_ (fun j hj=>⟨⟨⟨L j (by have:=H.size;have:=hW.below.size;have:=hW2.below.size;omega),by have:=hW.below.size;have:=hW2.below.size;omega⟩,by have:=hW.below.size;have:=hW2.below.size;omega⟩,by have:=hW2.below.size;omega⟩);obtain⟨G,l,s,J,g,B⟩:=R;refine⟨G,l,s,J,Ad8 g hW2.below.size,fun i y hy=>?_⟩;obtain⟨v,O,E⟩:=B i y hy;exact⟨v,(hW2.below.cell (p:=⟨G,l+i,none⟩) g).trans O,E.fr (Fr.grew hW2) (fun k hk hp=>⟨hp,by omega⟩) _ y v⟩
theorem M8 {n:Nat}{x:Ag (AV n)}(h:WF (n+1) x)(h5:x.kind=5):(∀t∈x.keys,WF n t)/\Asc (Al n) x.keys/\1+wtL (wt n) x.keys<=1024/\x=Bt x.keys:=by
 rcases h with h|⟨b,h⟩|⟨i,h,_⟩|⟨l,h,_⟩|⟨l,h,_⟩|⟨e,h,a,c,d⟩|⟨f,g,h,_⟩
 ·rw[h] at h5;cases h5
 ·rw[h] at h5;cases h5
 ·rw[h] at h5;cases h5
 ·rw[h] at h5;cases h5
 ·rw[h] at h5;cases h5
 ·rw[h];exact⟨a,c,d,rfl⟩
 ·rw[h] at h5;cases h5
theorem Lc {n:Nat}{x:Ag (AV n)}(h:WF (n+1) x)(h6:x.kind=6):(∀t∈x.keys,WF n t)/\(∀t∈x.vals,WF n t)/\Asc (Al n) x.keys/\x.keys.length=x.vals.length/\1+wtL (wt n) x.keys+wtL (wt n) x.vals<=1024/\x=Dd x.keys x.vals:=by
 rcases h with h|⟨b,h⟩|⟨i,h,_⟩|⟨l,h,_⟩|⟨l,h,_⟩|⟨g,h,_⟩|⟨j,k,h,a,c,d,e,f⟩
 ·rw[h] at h6;cases h6
 ·rw[h] at h6;cases h6
 ·rw[h] at h6;cases h6
 ·rw[h] at h6;cases h6
 ·rw[h] at h6;cases h6
 ·rw[h] at h6;cases h6
 ·rw[h];exact⟨a,c,d,e,f,rfl⟩
theorem Rm {n:Nat}{x:Ag (AV n)}(h:WF (n+1) x)(h5:x.kind≠5)(h6:x.kind≠6):x.keys=[]/\x.vals=[]:=by
 rcases h with h|⟨b,h⟩|⟨i,h,_⟩|⟨l,h,_⟩|⟨l,h,_⟩|⟨a,h,_⟩|⟨c,d,h,_⟩
 ·rw[h];exact⟨rfl,rfl⟩
 ·rw[h];exact⟨rfl,rfl⟩
 ·rw[h];exact⟨rfl,rfl⟩
 ·rw[h];exact⟨rfl,rfl⟩
 ·rw[h];exact⟨rfl,rfl⟩
 ·rw[h] at h5;exact absurd rfl h5
 ·rw[h] at h6;exact absurd rfl h6
theorem H9 {n:Nat}{x:Ag (AV n)}(h:WF (n+1) x):Asc (Al n) x.keys:=by
 by_cases a:x.kind=5
 ·exact(M8 h a).2.1
 ·by_cases b:x.kind=6
  ·exact(Lc h b).2.2.1
  ·rw[(Rm h a b).1];exact List.Pairwise.nil
theorem M9 {n:Nat}{t:AV n}(h:WF n t)(hw:wt n t<=1024):Wgt n t:=⟨Wa n t h,hw⟩
theorem Ld {n:Nat}{x:Ag (AV n)}(h:WF (n+1) x):∀t,t∈x.keys\/t∈x.vals->wt n t<=1024:=by
 intro t a;by_cases b:x.kind=5
 ·obtain⟨_,_,d,e⟩:=M8 h b;rw[e] at a;rcases a with a|a
  ·have:=Ru (wt n) (show t∈x.keys from a);omega
  ·simp[Bt] at a
 ·by_cases c:x.kind=6
  ·obtain⟨_,_,_,_,d,_⟩:=Lc h c;rcases a with a|a
   ·have:=Ru (wt n) a;omega
   ·have:=Ru (wt n) a;omega
  ·rw[(Rm h b c).1,(Rm h b c).2] at a;simp at a
theorem Eu {n:Nat}{x:Ag (AV n)}(h:Bn (n+1) x):∀t,t∈x.keys\/t∈x.vals->Wgt n t:=fun t ht=>M9 (Ce n t (h.2 t ht)).1 (Ld h.1.1 t ht)
theorem Cx {n:Nat}{x:Ag (AV (n+1))}(h:WF (n+2) x):x.keys.length<=1024/\x.vals.length<=1024:=by
 by_cases a:x.kind=5
 ·obtain⟨_,_,c,e⟩:=M8 h a;have:=P7 _ x.keys (fun t _=>iE n t);refine⟨by omega,?_⟩;rw[e];simp[Bt]
 ·by_cases b:x.kind=6
  ·obtain⟨_,_,_,d,c,_⟩:=Lc h b;have:=P7 _ x.keys (fun t _=>iE n t);exact⟨by omega,by omega⟩
  ·rw[(Rm h a b).1,(Rm h a b).2];simp
theorem Xj {α:Type}{c:α->α->Int}{l:List α}(f:α->Bool)(h:Asc c l):Asc c (l.filter f):=List.Pairwise.sublist List.filter_sublist h
theorem Pj (n:Nat)(l:List (AV n))(h:∀x∈l,Bn n x):Bn (n+1) (mkS (wt n) (Eo (Al n) l):Ag (AV n)) :=
 Jk n _ (fun y hy=>h y ((J6 (fun a b e=>(Em n a b).1 e) l y).1 hy)) (Lp (ord n) (fun a b e=>(Em n a b).1 e) l)
theorem Xk (a b:Value)(w:World):Sem.run prog (callFunc 214 #[a,b]) w=.ok (.enter 214 #[a,b]) w:=by kernel_rfl
theorem kK (a b:Value)(w:World):Sem.run prog (callFunc 217 #[a,b]) w=.ok (.enter 217 #[a,b]) w:=by kernel_rfl
theorem kL (a b:Value)(w:World):Sem.run prog (callFunc 219 #[a,b]) w=.ok (.enter 219 #[a,b]) w:=by kernel_rfl
theorem kM (a b:Value)(w:World):Sem.run prog (callFunc 221 #[a,b]) w=.ok (.enter 221 #[a,b]) w:=by kernel_rfl
theorem kN (a b:Value)(w:World):Sem.run prog (callFunc 224 #[a,b]) w=.ok (.enter 224 #[a,b]) w:=by kernel_rfl
theorem kO (a:Value)(w:World):Sem.run prog (callFunc 211 #[a]) w=.ok (.enter 211 #[a]) w:=by kernel_rfl
theorem fU (a:Value)(w:World):Sem.run prog (callFunc 212 #[a]) w=.ok (.enter 212 #[a]) w:=by kernel_rfl
theorem Oy {op:ByteArray}{n i:Nat}{k:FuncId}(x y:Ag (AV (n+1)))(hx:Bn (n+2) x)(hy:Bn (n+2) y)(hi:Cc[i]?=some (op.data.toList,2,Ku .nilIface (.func (.func k) #[] #[])))(HC:∀(a b:Value)(W:World),Sem.run prog (callFunc k #[a,b]) W=.ok (.enter k #[a,b]) W)
  (o1:(op.toList==[105,110])=false) (o2:(op.toList==[115,117,98,115,101,116])=false) (l:List (AV (n+1))) (hl:Asc (Al (n+1)) x.keys->Asc (Al (n+1)) y.keys->Asc (Al (n+1)) l) (hg:∀t∈l,Bn (n+1) t)
  (H1:x.kind=5->y.kind=5->∀(P:Nat->Prop)(W:World)(b1 b2:Nat),Dy P W (Aj P W (n+1)) (wt (n+1)) b1 x.keys->Dy P W (Aj P W (n+1)) (wt (n+1)) b2 y.keys->(∀k,W.heap.size<=k->P k)->Calls prog k #[.pointer (some ⟨b1,0,none⟩),.pointer (some ⟨b2,0,none⟩)] W (Bd P W (n+2) (mkS (wt (n+1)) l:Ag (AV (n+1)))))
  (HA:∀(P:Nat->Prop)(w:World)(a:Option Addr)(cap:Nat),Bm (fun _=>True) w (Ref P w (n+2)) a 2 [(x:AV (n+2)),(y:AV (n+2))]->∀z:AV (n+2),(∀(u v:Value)(W:World),Ac w W->Ref P W (n+2) x u->Ref P W (n+2) y v->w.heap.size<W.heap.size->Calls prog 51 #[.string op,u,v] W (Aw (fun k=>P k/\k≠w.heap.size) W (n+2) z))->Calls prog 22 #[.string op,.slice a 2 cap] w (Aw P w (n+2) z))
  (H2:x.kind=5->y.kind=5->∀(P:Nat->Prop)(w:World)(u v:Value),Ref P w (n+2) x u->Ref P w (n+2) y v->(∀k,w.heap.size<=k->P k)->Calls prog 51 #[.string op,u,v] w (Aw P w (n+2) (mkS (wt (n+1)) l:Ag (AV (n+1))))) :
  Cv op (n+2) [(x:AV (n+2)),(y:AV (n+2))]:=by
 by_cases c:x.kind=5/\y.kind=5
 ·refine⟨n+2,_,Jk _ _ hg (hl (H9 hx.1.1) (H9 hy.1.1)),M5 _ _,S6 hi rfl HC (fun h=>absurd c h) (fun _ _=>H1 c.1 c.2),Ba fun P w a cap hne hP h=>HA P w a cap h _ fun u v W hW hu hv hlt=>?_⟩;exact H2 c.1 c.2 _ W u v (hu.fr (Fr.refl _ W) (fun k _ hp=>⟨hp,hne k hp⟩) _ _ _) (hv.fr (Fr.refl _ W) (fun k _ hp=>⟨hp,hne k hp⟩) _ _ _) (fun k hk=>⟨hP k (by omega),by omega⟩)
 ·refine⟨n+2,_,Br _,Db _,S6 hi rfl HC (fun _ P w=>.inl ⟨rfl,rfl⟩) (fun e1 e2=>absurd ⟨by rw[e1];rfl,by rw[e2];rfl⟩ c),Ba fun P w a cap hne hP h=>HA P w a cap h _ fun u v W hW hu hv hlt=>?_⟩;have d:=hu.fr (Q:=fun k=>P k/\k≠_) (Fr.refl _ W) (fun k _ hp=>⟨hp,hne k hp⟩) _ _ _;have e:=hv.fr (Q:=fun k=>P k/\k≠_) (Fr.refl _ W) (fun k _ hp=>⟨hp,hne k hp⟩) _ _ _;by_cases f:x.kind=5
  ·exact Mz (n+1) (n+1) _ W op o1 o2 x y u v d e (.inr ⟨by rw[f];rfl,by have:¬y.kind=5:=fun h2=>c ⟨f,h2⟩;simp;omega⟩) _ rfl
  ·exact Mz (n+1) (n+1) _ W op o1 o2 x y u v d e (.inl (by simp;omega)) _ rfl
theorem kP (n:Nat)(x y:Ag (AV (n+1)))(hx:Bn (n+2) x)(hy:Bn (n+2) y):Cv ⟨#[117,110,105,111,110]⟩ (n+2) [(x:AV (n+2)),(y:AV (n+2))]:=by
 have q:=Cx hx.1.1;have r:=Cx hy.1.1;have d:=fun t ht=>(List.mem_append.1 ht).elim (fun h=>Eu hx t (.inl h)) (fun h=>Eu hy t (.inl h));refine Oy (i:=21) x y hx hy rfl kK (by rw[ByteArray.toList_eq];decide) (by rw[ByteArray.toList_eq];decide) (Eo _ (x.keys++y.keys)) (fun _ _=>Lp (ord (n+1)) (fun a b e=>(Em (n+1) a b).1 e) _) ?_ ?_ (fun P w a cap h z H=>Fs (i:=21) (by rfl) (by simp) (n+2) (n+1) P w a cap x y h z H) ?_
 ·intro t ht;have:=(J6 (fun a b e=>(Em (n+1) a b).1 e) (x.keys++y.keys) t).1 ht;exact(List.mem_append.1 this).elim (fun h=>hx.2 t (.inl h)) (fun h=>hy.2 t (.inl h))
 ·intro _ _ P W f g o p c;exact pJ (n+1) P W f g x.keys y.keys o p (fun t ht=>(d t ht).2) (by omega) (by omega) c
 ·intro j k P w u v l m c;exact eV n P w x y u v l m c (H9 hy.1.1) (by omega) (by omega) _ d j k rfl
theorem kQ (n:Nat)(x y:Ag (AV (n+1)))(hx:Bn (n+2) x)(hy:Bn (n+2) y):Cv ⟨#[105,110,116,101,114]⟩ (n+2) [(x:AV (n+2)),(y:AV (n+2))]:=by
 have p:=Cx hx.1.1;have q:=Cx hy.1.1;have c:Asc _ (x.keys.filter (fun e=>Ch (n+1) y.keys e)):=Xj _ (H9 hx.1.1);refine Oy (i:=22) x y hx hy rfl kL (by rw[ByteArray.toList_eq];decide) (by rw[ByteArray.toList_eq];decide) _ (fun _ _=>c) (fun t ht=>hx.2 t (.inl (List.mem_filter.1 ht).1)) ?_ (fun P w a cap h z H=>Fs (i:=22) (by rfl) (by simp) (n+2) (n+1) P w a cap x y h z H) ?_
 ·intro _ _ P W d f m o b;exact pA (n+1) P W d f x.keys y.keys m o (H9 hy.1.1) (fun t ht=>(Eu hx t (.inl ht)).2) (by omega) b
 ·intro g j P w u v k l b;exact Xa n P w x y u v k l b (H9 hy.1.1) (by omega) (by omega) _ _ _ (.inl ⟨rfl,rfl⟩) (fun t ht=>Eu hx t (.inl ht)) g j (by rw[N7 _ c])
theorem kR (n:Nat)(x y:Ag (AV (n+1)))(hx:Bn (n+2) x)(hy:Bn (n+2) y):Cv ⟨#[109,105,110,117,115]⟩ (n+2) [(x:AV (n+2)),(y:AV (n+2))]:=by
 have p:=Cx hx.1.1;have q:=Cx hy.1.1;have c:Asc _ (x.keys.filter (fun e=>!Ch (n+1) y.keys e)):=Xj _ (H9 hx.1.1);refine Oy (i:=23) x y hx hy rfl kM (by rw[ByteArray.toList_eq];decide) (by rw[ByteArray.toList_eq];decide) _ (fun _ _=>c) (fun t ht=>hx.2 t (.inl (List.mem_filter.1 ht).1)) ?_ (fun P w a cap h z H=>Fs (i:=23) (by rfl) (by simp) (n+2) (n+1) P w a cap x y h z H) ?_
 ·intro _ _ P W d f m o b;exact pB (n+1) P W d f x.keys y.keys m o (H9 hy.1.1) (fun t ht=>(Eu hx t (.inl ht)).2) (by omega) b
 ·intro g j P w u v k l b;exact Xa n P w x y u v k l b (H9 hy.1.1) (by omega) (by omega) _ _ _ (.inr ⟨rfl,rfl⟩) (fun t ht=>Eu hx t (.inl ht)) g j (by rw[N7 _ c])
theorem kS {α:Type}(l:List α)(f:α->Bool):(((l.filter f).length:Int)==(l.length:Int))=!(l.any fun e=>!f e):=by
 rw[Bool.eq_iff_iff];simp only[beq_iff_eq,Bool.not_eq_true',List.any_eq_false,Bool.not_eq_true',Bool.not_eq_false];constructor
 ·intro h x b;have a:(l.filter f).length=l.length:=by omega
  have:=List.filter_eq_self.1 (List.Sublist.eq_of_length List.filter_sublist a);exact this x b
 ·intro h;rw[List.filter_eq_self.2 h]
theorem fV (n:Nat)(x y:Ag (AV (n+1)))(hx:Bn (n+2) x)(hy:Bn (n+2) y):Cv ⟨#[115,117,98,115,101,116]⟩ (n+2) [(x:AV (n+2)),(y:AV (n+2))]:=by
 have g:=Cx hx.1.1;have j:=Cx hy.1.1;by_cases b:x.kind=5/\y.kind=5
 ·refine⟨n+2,(Bj (!(x.keys.any fun e=>!Ch (n+1) y.keys e)):_),Ih _ _,Ph _ _,S6 (i:=20) rfl rfl Xk (fun h=>absurd b h) (fun _ _ P W b1 b2 s1 s2 hP=>?_),Ba fun P w a cap hne hP h=>Fs (i:=20) (by rfl) (by simp) (n+2) (n+1) P w a cap x y h _ fun u v W hW hu hv hlt=>?_⟩
  ·have q:=jO (n+1) P W b1 b2 x.keys y.keys s1 s2 (H9 hy.1.1);rw[kS] at q;exact q
  ·exact bO n _ W x y u v (hu.fr (Fr.refl _ W) (fun k _ hp=>⟨hp,hne k hp⟩) _ _ _) (hv.fr (Fr.refl _ W) (fun k _ hp=>⟨hp,hne k hp⟩) _ _ _) (fun k hk=>⟨hP k (by omega),by omega⟩) (H9 hy.1.1) (by omega) (by omega) _ b.1 b.2 rfl
 ·refine⟨n+2,_,Ih _ _,Ph _ _,S6 (i:=20) rfl rfl Xk (fun _ P w=>.inr (.inl ⟨false,rfl,rfl⟩)) (fun e1 e2=>absurd ⟨by rw[e1];rfl,by rw[e2];rfl⟩ b),Ba fun P w a cap hne hP h=>Fs (i:=20) (by rfl) (by simp) (n+2) (n+1) P w a cap x y h _ fun u v W hW hu hv hlt=>?_⟩;have c:=hu.fr (Q:=fun k=>P k/\k≠_) (Fr.refl _ W) (fun k _ hp=>⟨hp,hne k hp⟩) _ _ _;have d:=hv.fr (Q:=fun k=>P k/\k≠_) (Fr.refl _ W) (fun k _ hp=>⟨hp,hne k hp⟩) _ _ _;by_cases f:x.kind=5
  ·exact Zu (n+1) (n+1) _ W x y u v c d (.inr ⟨by rw[f];rfl,by have:¬y.kind=5:=fun h2=>b ⟨f,h2⟩;simp;omega⟩) _ rfl
  ·exact Zu (n+1) (n+1) _ W x y u v c d (.inl (by simp;omega)) _ rfl
theorem Xl {n:Nat}(hn:1024<=n)(y:AV (n+1))(hy:Bn (n+1) y)(hw:wt (n+1) y<=1024):∃y':AV n,up n y'=y/\Bn n y'/\wt n y'<=1024:=by
 obtain⟨y',rfl⟩:=Uy n y (Ce _ _ hy).1 (Ae0 hw hn);exact⟨y',rfl,(Pb n y').1 hy,by rw[Px] at hw;exact hw⟩
theorem xP (n:Nat)(hn:1024<=n+1)(x y:Ag (AV (n+1)))(hx:Bn (n+2) x)(hxw:wt (n+2) x<=1024)(hy:Bn (n+2) y):Cv ⟨#[105,110]⟩ (n+2) [(x:AV (n+2)),(y:AV (n+2))]:=by
 obtain⟨b,e,-,-⟩:=Xl hn x hx hxw;refine⟨n+2,_,Ih _ _,Ph _ _,Ow (i:=19) rfl (.inr rfl) fU (fun _ w a cap h _ _=>Ij (jJ (n+1) _ w a cap x y (Iz h) b e (fun _=>H9 hy.1.1))),Ba fun P w a cap hne hP h=>Fs (i:=19) (by rfl) (by simp) (n+2) (n+1) P w a cap x y h _ fun u v W hW hu hv hlt=>?_⟩;refine tG n (n+1) _ W b y u v ((H6 _ W (n+1) b u).1 ?_) (hv.fr (Fr.refl _ W) (fun k _ hp=>⟨hp,hne k hp⟩) _ _ _) (H9 hy.1.1) _ rfl;rw[e];exact hu.fr (Fr.refl _ W) (fun k _ hp=>⟨hp,hne k hp⟩) _ _ _
theorem pQ (n:Nat)(x:Ag (AV (n+1)))(hx:Bn (n+2) x):Cv ⟨#[115,105,122,101]⟩ (n+2) [(x:AV (n+2))]:=by
 have d:=Cx hx.1.1;refine⟨n+2,(if x.kind=5 then Cu (x.keys.length:Int) else Ar:_),?_,?_,Ox (i:=24) rfl rfl kN ?_ ?_,Ba fun P w a cap hne hP h=>Cg (i:=24) (by rfl) (by simp) (n+2) (n+1) P w a cap x h _ fun u W hW hu hlt=>?_⟩
 ·split
  ·exact Iw _ _ (by omega) (by omega)
  ·exact Br _
 ·split
  ·exact Sz _ _
  ·exact Db _
 ·intro h P w;rw[if_neg h];exact .inl ⟨rfl,rfl⟩
 ·intro e P W b o c _ _;rw[if_pos (by rw[e];rfl)];exact oZ (n+1) P W b x.keys o c
 ·refine pD (n+1) (n+1) _ W x u (hu.fr (Fr.refl _ W) (fun k _ hp=>⟨hp,hne k hp⟩) _ _ _) _ (fun h=>if_neg h) (fun h _ _ W' _ _=>?_);rw[if_pos h];exact Mx _ (n+1) _ W'
theorem uI (n:Nat)(xs:List (AV (n+1)))(hx:∀x∈xs,Bn (n+1) x/\wt (n+1) x<=1024)(hl:xs.length<=1048576):Cv ⟨#[115,101,116]⟩ (n+1) xs:=by
 have b:=fun x h=>M9 (Ce _ _ (hx x h).1).1 (hx x h).2;refine⟨n+2,_,Pj _ _ (fun x h=>(hx x h).1),M5 _ _,Ow (i:=18) rfl (.inl rfl) kO (fun P w a cap h hs hP=>?_),Ba fun P w a cap hne hP h=>Oo (i:=18) (f:=44) (by rfl) (by simp) (n+1) P w a _ cap _ fun W hW2 hlt=>?_⟩
 ·refine(J7 (n+1) P w a xs.length cap xs (by omega) hs.2.2 h hP (fun x hx=>(b x hx).2) hs.2.1).mono ?_;rintro e g ⟨v,rfl,d,c⟩;exact⟨v,rfl,c,d⟩
 ·refine(G6 (n+1) (fun k=>P k/\k≠w.heap.size) W a xs.length cap xs (h.fr (Fr.grew hW2) (fun x v=>Ref.fr (Fr.grew hW2) (fun k _ hp=>⟨hp,hne k hp⟩) (n+1) x v) (fun _ _ _=>trivial)) hl b).mono ?_;intro e g q;exact Ek (fun k hk=>⟨hP k (by omega),by omega⟩) q
theorem mA (a b:Value)(w:World):Sem.run prog (callFunc 231 #[a,b]) w=.ok (.enter 231 #[a,b]) w:=by kernel_rfl
theorem S7 (a b:Value)(w:World):Sem.run prog (callFunc 232 #[a,b]) w=.ok (.enter 232 #[a,b]) w:=by kernel_rfl
theorem Ni (a b:Value)(w:World):Sem.run prog (callFunc 233 #[a,b]) w=.ok (.enter 233 #[a,b]) w:=by kernel_rfl
theorem Nj (a b:Value)(w:World):Sem.run prog (callFunc 234 #[a,b]) w=.ok (.enter 234 #[a,b]) w:=by kernel_rfl
theorem Ud (a:Value)(w:World):Sem.run prog (callFunc 229 #[a]) w=.ok (.enter 229 #[a]) w:=by kernel_rfl
theorem fW (n:Nat)(x:Ag (AV (n+1)))(hx:Bn (n+2) x):Cv ⟨#[100,111,109,97,105,110]⟩ (n+2) [(x:AV (n+2))]:=by
 have g:=Cx hx.1.1;by_cases b:x.kind=6
 ·obtain⟨-,-,c,-,f,-⟩:=Lc hx.1.1 b;have d:(mkS (wt (n+1)) x.keys:_)=_:=if_pos (by omega);refine⟨n+2,_,Jk _ _ (fun t ht=>hx.2 t (.inl ht)) c,M5 _ _,M7 (i:=32) rfl rfl Ni (fun h=>absurd b h) (fun _ P W b1 d1 o s1 _ _=>by rw[d];exact jK (n+1) P W b1 d1 x.keys x.vals o s1),Ba fun P w a cap hne hP h=>Cg (i:=32) (by rfl) (by simp) (n+2) (n+1) P w a cap x h _ fun u W hW hu hlt=>?_⟩;refine Tx (n+1) (n+1) _ W x u (hu.fr (Fr.refl _ W) (fun k _ hp=>⟨hp,hne k hp⟩) _ _ _) _ (fun h=>absurd b h) (fun _ ka kl kc hrow W' hW' hlt'=>?_);have hk:kl=x.keys.length:=hrow.1;have q:=G6 (n+1) (fun k=>_/\k≠W.heap.size+1) W' ka kl kc x.keys (hrow.fr (Fr.grew hW') (fun x v=>Ref.fr (Fr.grew hW') (fun k hk hp=>⟨hp,by omega⟩) (n+1) x v) (fun _ _ _=>trivial)) (by omega) (fun t ht=>Eu hx t (.inl ht));rw[N7 _ c] at q;exact q.mono fun e w' q=>Ek (fun k hk=>⟨⟨hP k (by omega),by omega⟩,by omega⟩) q
 ·refine⟨n+2,_,Br _,Db _,M7 (i:=32) rfl rfl Ni (fun _ P w=>.inl ⟨rfl,rfl⟩) (fun e=>absurd (by rw[e];rfl) b),Ba fun P w a cap hne hP h=>Cg (i:=32) (by rfl) (by simp) (n+2) (n+1) P w a cap x h _ fun u W hW hu hlt=>?_⟩;exact Tx (n+1) (n+1) _ W x u (hu.fr (Fr.refl _ W) (fun k _ hp=>⟨hp,hne k hp⟩) _ _ _) _ (fun _=>rfl) (fun h=>absurd h b)
theorem fX (n:Nat)(x:Ag (AV (n+1)))(hx:Bn (n+2) x):Cv ⟨#[118,97,108,117,101,115]⟩ (n+2) [(x:AV (n+2))]:=by
 have c:=Cx hx.1.1;by_cases b:x.kind=6
 ·refine⟨n+2,_,Pj _ _ (fun t ht=>hx.2 t (.inr ht)),M5 _ _,M7 (i:=33) rfl rfl Nj (fun h=>absurd b h) (fun _ P W b1 d1 o s1 _ hP=>fC (n+1) P W b1 d1 x.keys x.vals o s1 (fun t ht=>(Eu hx t (.inr ht)).2) hP),Ba fun P w a cap hne hP h=>Cg (i:=33) (by rfl) (by simp) (n+2) (n+1) P w a cap x h _ fun u W hW hu hlt=>?_⟩;refine Ty (n+1) (n+1) _ W x u (hu.fr (Fr.refl _ W) (fun k _ hp=>⟨hp,hne k hp⟩) _ _ _) _ (fun h=>absurd b h) (fun _ ka kl kc hrow W' hW' hlt'=>?_);have hk:kl=x.vals.length:=hrow.1;have q:=G6 (n+1) (fun k=>_/\k≠W.heap.size+1) W' ka kl kc x.vals (hrow.fr (Fr.grew hW') (fun x v=>Ref.fr (Fr.grew hW') (fun k hk hp=>⟨hp,by omega⟩) (n+1) x v) (fun _ _ _=>trivial)) (by omega) (fun t ht=>Eu hx t (.inr ht));exact q.mono fun e w' q=>Ek (fun k hk=>⟨⟨hP k (by omega),by omega⟩,by omega⟩) q
 ·refine⟨n+2,_,Br _,Db _,M7 (i:=33) rfl rfl Nj (fun _ P w=>.inl ⟨rfl,rfl⟩) (fun e=>absurd (by rw[e];rfl) b),Ba fun P w a cap hne hP h=>Cg (i:=33) (by rfl) (by simp) (n+2) (n+1) P w a cap x h _ fun u W hW hu hlt=>?_⟩;exact Ty (n+1) (n+1) _ W x u (hu.fr (Fr.refl _ W) (fun k _ hp=>⟨hp,hne k hp⟩) _ _ _) _ (fun _=>rfl) (fun h=>absurd h b)
theorem fY {P:Nat->Prop}{w:World}{n:Nat}{y:AV (n+1)}{y':AV n}{o:Value}(h:fT P w (n+1) [y] o)(e:up n y'=y):∃b off cap v,o=.slice (some ⟨b,off,none⟩) 1 cap/\b<w.heap.size/\w.cell? ⟨b,off,none⟩=some v/\Aj P w n y' v:=by
 obtain⟨b,off,cap,rfl,a,c⟩:=h;obtain⟨v,f,d⟩:=c 0 y rfl;exact⟨b,off,cap,v,rfl,a,f,(Lj P w n y' v).1 (by rw[e];exact d)⟩
theorem fZ {P:Nat->Prop}{w:World}{n:Nat}{y t:AV (n+1)}{y' t':AV n}{o:Value}(h:fT P w (n+1) [y,t] o)(e:up n y'=y)(e2:up n t'=t):∃b off cap v u,o=.slice (some ⟨b,off,none⟩) 2 cap/\b<w.heap.size/\w.cell? ⟨b,off,none⟩=some v/\w.cell? ⟨b,off+1,none⟩=some u/\Aj P w n y' v/\Aj P w n t' u:=by
 obtain⟨b,off,cap,rfl,a,d⟩:=h;obtain⟨v,i,f⟩:=d 0 y rfl;obtain⟨u,g,c⟩:=d 1 t rfl;exact⟨b,off,cap,v,u,rfl,a,i,g,(Lj P w n y' v).1 (by rw[e];exact f),(Lj P w n t' u).1 (by rw[e2];exact c)⟩
theorem zW {n:Nat}{ks us:List (AV n)}{y:AV n}(ha:Asc (Al n) ks)(hl:ks.length=us.length)(h:Ch n ks y=true):∃z,us[B6 n ks y]?=some z:=by
 have a:=(E6 (x:=y) ha).yes h;have b:=(List.getElem?_eq_some_iff.1 a).1;exact⟨_,List.getElem?_eq_getElem (by omega)⟩
theorem xQ (n:Nat)(hn:1024<=n+1)(x y:Ag (AV (n+1)))(hx:Bn (n+2) x)(hy:Bn (n+2) y)(hyw:wt (n+2) y<=1024):Cv ⟨#[97,116]⟩ (n+2) [(x:AV (n+2)),(y:AV (n+2))]:=by
 obtain⟨g,e,-,-⟩:=Xl hn y hy hyw;by_cases c:x.kind=6/\Ch (n+1) x.keys g=true
 ·obtain⟨-,-,j,p,-,-⟩:=Lc hx.1.1 c.1;obtain⟨z,m⟩:=zW j p c.2;have r:z∈x.vals:=Ae4 m;refine⟨n+1,z,hx.2 z (.inr r),Ld hx.1.1 z (.inr r),M7 (i:=30) rfl rfl mA (fun h=>absurd c.1 h) (fun _ P W b1 d1 o s1 hr _=>?_),Ba fun P w a cap hne hP h=>Lb (i:=30) (f:=53) (by rfl) (by simp) (n+2) n P w a cap x y h z fun u v W hW hu hv hlt=>?_⟩
  ·obtain⟨b,d,cap,v,rfl,hlt,l,hv⟩:=fY hr e;exact sZ (n+1) P W b1 d1 x.keys x.vals s1 j b d cap g v hlt l hv (n+1) z (fun _ q u hq hr=>by rw[m] at hq;obtain rfl:=Ae5 hq;exact hr) (fun h=>by rw[c.2] at h;exact Bool.noConfusion h)
  ·exact lW n _ W x g u v (hu.fr (Fr.refl _ W) (fun k _ hp=>⟨hp,hne k hp⟩) _ _ _) ((H6 _ W (n+1) g v).1 (by rw[e];exact hv.fr (Fr.refl _ W) (fun k _ hp=>⟨hp,hne k hp⟩) _ _ _)) (fun _=>j) (fun _=>p) z (fun h=>absurd c h) (fun _ _=>m)
 ·refine⟨n+1,_,Br _,Db _,M7 (i:=30) rfl rfl mA (fun _ P w=>.inl ⟨rfl,rfl⟩) (fun e0 P W b1 d1 o s1 hr _=>?_),Ba fun P w a cap hne hP h=>Lb (i:=30) (f:=53) (by rfl) (by simp) (n+2) n P w a cap x y h _ fun u v W hW hu hv hlt=>?_⟩
  ·obtain⟨b,d,cap,v,rfl,hlt,l,hv⟩:=fY hr e;have s:x.kind=6:=by rw[e0];rfl
   exact sZ (n+1) P W b1 d1 x.keys x.vals s1 (H9 hx.1.1) b d cap g v hlt l hv (n+1) _ (fun h=>absurd ⟨s,h⟩ c) (fun _=>.inl ⟨rfl,rfl⟩)
  ·exact lW n _ W x g u v (hu.fr (Fr.refl _ W) (fun k _ hp=>⟨hp,hne k hp⟩) _ _ _) ((H6 _ W (n+1) g v).1 (by rw[e];exact hv.fr (Fr.refl _ W) (fun k _ hp=>⟨hp,hne k hp⟩) _ _ _)) (fun _=>H9 hx.1.1) (fun h=>(Lc hx.1.1 h).2.2.2.1) _ (fun _=>rfl) (fun h1 h2=>absurd ⟨h1,h2⟩ c)
theorem xS {n:Nat}{ks us:List (AV n)}(ha:Asc (Al n) ks)(hl:ks.length=us.length)(hw:1+wtL (wt n) ks<=1024):(mkP (wt n) (Dp (Al n) (ks.zip us)):Ag (AV n))=mkF (wt n) ks us:=by
 have a:(ks.zip us).map _=ks:=List.map_fst_zip (by omega);have b:(ks.zip us).map _=us:=List.map_snd_zip (by omega);rw[V8 _ (by rw[a];exact ha)];unfold mkP;rw[a,b,if_pos hw]
theorem uJ (n:Nat)(hn:1024<=n+1)(x y t:Ag (AV (n+1)))(hx:Bn (n+2) x)(hxw:wt (n+2) x<=1024)(hy:Bn (n+2) y)(hyw:wt (n+2) y<=1024)(ht:Bn (n+2) t)(htw:wt (n+2) t<=1024):Cv ⟨#[112,117,116]⟩ (n+2) [(x:AV (n+2)),(y:AV (n+2)),(t:AV (n+2))]:=by
 obtain⟨f,e,-,-⟩:=Xl hn y hy hyw;obtain⟨g,s,E,C⟩:=Xl hn t ht htw;have G:=Cx hx.1.1;have c:∀q∈x.vals.set (B6 (n+1) x.keys f) g,Bn (n+1) q/\wt (n+1) q<=1024:=by
  intro q hq;rcases List.mem_or_eq_of_mem_set hq with h|h
  ·exact⟨hx.2 q (.inr h),Ld hx.1.1 q (.inr h)⟩
  ·rw[h];exact⟨E,C⟩
 have j:∀q,q∈x.keys\/q∈_->_:=fun q hq=>hq.elim (fun h=>Eu hx q (.inl h)) (fun h=>M9 (Ce _ _ (c q h).1).1 (c q h).2);by_cases d:x.kind=6
 ·obtain⟨-,-,p,A,F,D⟩:=Lc hx.1.1 d;cases z:Ch (n+1) x.keys f with
  | true =>
   refine⟨n+2,_,Rc _ _ _ (fun q h=>hx.2 q (.inl h)) (fun q h=>(c q h).1) p (by rw[List.length_set];exact A),S3 _ _ _,M7 (i:=31) rfl rfl S7 (fun h=>absurd d h) (fun _ P W b1 d1 o s1 hr hP=>?_),Ba fun P w a cap hne hP h=>Ou (n+2) (n+1) P w a cap x y t h _ fun u v r W hW hu hv hr hlt=>?_⟩
   ·obtain⟨b,m,cap,v,u,rfl,hlt,B,l,hv,hu⟩:=fZ hr e s;exact fG (n+1) P W b1 d1 x.keys x.vals s1 p b m cap f g v u hlt B l hv hu hP (by omega) (fun q h=>(c q h).2) _ (fun h=>by rw[z] at h;exact Bool.noConfusion h) (fun _=>rfl)
   ·exact Qk n _ W x f g u v r (hu.fr (Fr.refl _ W) (fun k _ hp=>⟨hp,hne k hp⟩) _ _ _) ((H6 _ W (n+1) f v).1 (by rw[e];exact hv.fr (Fr.refl _ W) (fun k _ hp=>⟨hp,hne k hp⟩) _ _ _)) ((H6 _ W (n+1) g r).1 (by rw[s];exact hr.fr (Fr.refl _ W) (fun k _ hp=>⟨hp,hne k hp⟩) _ _ _)) (fun k hk=>⟨hP k (by omega),by omega⟩) (fun _=>p) (fun _=>A) (by omega) j _ (fun h=>absurd d h) (fun _ h=>by rw[z] at h;exact Bool.noConfusion h) (fun _ _=>(xS p (by rw[List.length_set];exact A) (by omega)).symm)
  | false =>
   refine⟨n+2,x,hx,hxw,M7 (i:=31) rfl rfl S7 (fun h=>absurd d h) (fun _ P W b1 d1 o s1 hr hP=>?_),Ba fun P w a cap hne hP h=>Ou (n+2) (n+1) P w a cap x y t h _ fun u v r W hW hu hv hr hlt=>?_⟩
   ·obtain⟨b,m,cap,v,u,rfl,hlt,B,l,hv,hu⟩:=fZ hr e s;exact fG (n+1) P W b1 d1 x.keys x.vals s1 p b m cap f g v u hlt B l hv hu hP (by omega) (fun q h=>(c q h).2) _ (fun _=>D.symm) (fun h=>by rw[z] at h;exact Bool.noConfusion h)
   ·exact Qk n _ W x f g u v r (hu.fr (Fr.refl _ W) (fun k _ hp=>⟨hp,hne k hp⟩) _ _ _) ((H6 _ W (n+1) f v).1 (by rw[e];exact hv.fr (Fr.refl _ W) (fun k _ hp=>⟨hp,hne k hp⟩) _ _ _)) ((H6 _ W (n+1) g r).1 (by rw[s];exact hr.fr (Fr.refl _ W) (fun k _ hp=>⟨hp,hne k hp⟩) _ _ _)) (fun k hk=>⟨hP k (by omega),by omega⟩) (fun _=>p) (fun _=>A) (by omega) j _ (fun h=>absurd d h) (fun _ _=>rfl) (fun _ h=>by rw[z] at h;exact Bool.noConfusion h)
 ·refine⟨n+2,_,Br _,Db _,M7 (i:=31) rfl rfl S7 (fun _ P w=>.inl ⟨rfl,rfl⟩) (fun e0=>absurd (by rw[e0];rfl) d),Ba fun P w a cap hne hP h=>Ou (n+2) (n+1) P w a cap x y t h _ fun u v r W hW hu hv hr hlt=>?_⟩;exact Qk n _ W x f g u v r (hu.fr (Fr.refl _ W) (fun k _ hp=>⟨hp,hne k hp⟩) _ _ _) ((H6 _ W (n+1) f v).1 (by rw[e];exact hv.fr (Fr.refl _ W) (fun k _ hp=>⟨hp,hne k hp⟩) _ _ _)) ((H6 _ W (n+1) g r).1 (by rw[s];exact hr.fr (Fr.refl _ W) (fun k _ hp=>⟨hp,hne k hp⟩) _ _ _)) (fun k hk=>⟨hP k (by omega),by omega⟩) (fun h=>absurd h d) (fun h=>absurd h d) (by omega) j _ (fun _=>rfl) (fun h=>absurd h d) (fun h=>absurd h d)
theorem uK (n:Nat)(xs:List (AV (n+1)))(hx:∀x∈xs,Bn (n+1) x/\wt (n+1) x<=1024)(hl:xs.length<=1048576):Cv ⟨#[102,117,110]⟩ (n+1) xs:=by
 have c:=fun x h=>M9 (Ce _ _ (hx x h).1).1 (hx x h).2;have d:∀(P:Nat->Prop)(w:World)(a:_)(cap:Nat)(z:AV (n+2)),(∀k,P k->k≠_)->(∀k,w.heap.size<k->P k)->Bm (fun _=>True) w (Ref P w (n+1)) a _ xs->_->_->Calls _ 22 #[.string ⟨#[102,117,110]⟩,_] w (Aw P w (n+2) z):=fun P w a cap z hne hP h h0 h1=>Oo (i:=29) (by rfl) (by simp) (n+1) P w a _ cap z fun W hW2 hlt=>fI n _ W a _ cap xs (h.fr (Fr.grew hW2) (fun x v=>Ref.fr (Fr.grew hW2) (fun k _ hp=>⟨hp,hne k hp⟩) (n+1) x v) (fun _ _ _=>trivial)) (fun k hk=>⟨hP k (by omega),by omega⟩) hl c z h0 h1;by_cases b:xs.length % 2=0
 ·refine⟨n+2,_,Wp _ _ (fun p hp=>⟨(hx _ (Gu xs p hp).1).1,(hx _ (Gu xs p hp).2).1⟩),zV _ _,Ow (i:=29) rfl (.inl rfl) Ud (fun P w a cap h hs hP=>tU (n+1) P w a _ cap xs h b hl (fun x hx2=>(c x hx2).2) hP),Ba fun P w a cap hne hP h=>d P w a cap _ hne hP h (fun h=>by omega) (fun _=>rfl)⟩
 ·exact⟨n+2,_,Br _,Db _,Ow (i:=29) rfl (.inl rfl) Ud (fun P w a cap h hs hP=>kF (n+1) P w a _ cap (by omega)),Ba fun P w a cap hne hP h=>d P w a cap _ hne hP h (fun _=>rfl) (fun h=>absurd h b)⟩
theorem Um (a:Value)(w:World):Sem.run prog (callFunc 235 #[a]) w=.ok (.enter 235 #[a]) w:=by kernel_rfl
theorem Nk (a b:Value)(w:World):Sem.run prog (callFunc 239 #[a,b]) w=.ok (.enter 239 #[a,b]) w:=by kernel_rfl
theorem Nl (a b:Value)(w:World):Sem.run prog (callFunc 242 #[a,b]) w=.ok (.enter 242 #[a,b]) w:=by kernel_rfl
theorem S8 (a b:Value)(w:World):Sem.run prog (callFunc 240 #[a,b]) w=.ok (.enter 240 #[a,b]) w:=by kernel_rfl
theorem S9 (a b:Value)(w:World):Sem.run prog (callFunc 241 #[a,b]) w=.ok (.enter 241 #[a,b]) w:=by kernel_rfl
theorem Oz (a b:Value)(w:World):Sem.run prog (callFunc 243 #[a,b]) w=.ok (.enter 243 #[a,b]) w:=by kernel_rfl
theorem Rn (n:Nat)(us:List (AV (n+1)))(h:∀x∈us,Bn (n+1) x)(hl:us.length<=4294967296):Bn (n+2) (mkF (wt (n+1)) (Aq n us.length) us:Ag (AV (n+1))):=Rc _ _ _ (Ms n _ hl) h (N6 n _) (Dc n _)
theorem uL (n:Nat)(xs:List (AV (n+1)))(hx:∀x∈xs,Bn (n+1) x/\wt (n+1) x<=1024)(hl:xs.length<=1048576):Cv ⟨#[115,101,113]⟩ (n+1) xs:=by
 have b:=fun x h=>M9 (Ce _ _ (hx x h).1).1 (hx x h).2;refine⟨n+2,_,Rn n xs (fun x h=>(hx x h).1) (by omega),S3 _ _ _,Ow (i:=34) rfl (.inl rfl) Um (fun P w a cap h hs hP=>Ab7 n P w a _ cap xs h hs (by omega) (fun x h=>(b x h).2) hP),Ba fun P w a cap hne hP h=>Oo (i:=34) (f:=45) (by rfl) (by simp) (n+1) P w a _ cap _ fun W hW2 hlt=>?_⟩;refine(Ja n (fun k=>P k/\k≠w.heap.size) W a xs.length cap xs (h.fr (Fr.grew hW2) (fun x v=>Ref.fr (Fr.grew hW2) (fun k _ hp=>⟨hp,hne k hp⟩) (n+1) x v) (fun _ _ _=>trivial)) hl b).mono ?_;intro e c q;exact Ek (fun k hk=>⟨hP k (by omega),by omega⟩) q
theorem Hf {n:Nat}(x:Ag (AV n)):(A7 (Au n) x.keys&&decide (x.kind=6))=true↔x.kind=6/\A7 (Au n) x.keys=true:=by
 rw[Bool.and_eq_true,decide_eq_true_eq];exact And.comm
theorem Pk {n:Nat}(x:Ag (AV n)):(A7 (Au n) x.keys&&decide (x.kind=6))=false↔¬(x.kind=6/\A7 (Au n) x.keys=true):=by
 rw[<- Hf];simp
theorem uM (n:Nat)(x:Ag (AV (n+1)))(hx:Bn (n+2) x):Cv ⟨#[108,101,110]⟩ (n+2) [(x:AV (n+2))]:=by
 have d:=Cx hx.1.1;by_cases b:x.kind=6/\A7 (Au (n+1)) x.keys=true
 ·obtain⟨-,-,-,c,-,-⟩:=Lc hx.1.1 b.1;refine⟨n+2,(Cu (x.keys.length:Int):_),Iw _ _ (by omega) (by omega),Sz _ _,Jd (i:=35) rfl rfl Nk (fun h=>absurd b h) (fun _ _ P W a1 l1' c1 o hrow _ _ _=>?_),Ba fun P w a cap hne hP h=>Cg (i:=35) (by rfl) (by simp) (n+2) (n+1) P w a cap x h _ fun u W hW hu hlt=>?_⟩
  ·have:l1'=x.keys.length:=by rw[c];exact hrow.1
   rw[<- this];exact wZ (n+1) P W a1 l1' c1 o (by omega)
  ·exact eU (n+1) (n+1) _ W x u (hu.fr (Fr.refl _ W) (fun k _ hp=>⟨hp,hne k hp⟩) _ _ _) _ (fun h=>absurd b ((Pk x).1 h)) (fun _ W' _ _=>Mx _ (n+1) _ W')
 ·refine⟨n+2,_,Br _,Db _,Jd (i:=35) rfl rfl Nk (fun _ P w=>.inl ⟨rfl,rfl⟩) (fun e h=>absurd ⟨by rw[e];rfl,h⟩ b),Ba fun P w a cap hne hP h=>Cg (i:=35) (by rfl) (by simp) (n+2) (n+1) P w a cap x h _ fun u W hW hu hlt=>?_⟩;exact eU (n+1) (n+1) _ W x u (hu.fr (Fr.refl _ W) (fun k _ hp=>⟨hp,hne k hp⟩) _ _ _) _ (fun _=>rfl) (fun h=>absurd ((Hf x).1 h) b)
theorem pR (n:Nat)(x:Ag (AV (n+1)))(hx:Bn (n+2) x):Cv ⟨#[104,101,97,100]⟩ (n+2) [(x:AV (n+2))]:=by
 by_cases c:x.kind=6/\A7 (Au (n+1)) x.keys=true
 ·cases b:x.vals with
  | nil =>
   refine⟨n+1,_,Br _,Db _,Jd (i:=36) rfl rfl S8 (fun h=>absurd c h) (fun _ _ P W a1 l1' c1 o hrow _ _ _=>?_),Ba fun P w a cap hne hP h=>Cg (i:=36) (by rfl) (by simp) (n+2) n P w a cap x h _ fun u W hW hu hlt=>?_⟩
   ·rw[b] at hrow;have:l1'=0:=hrow.1;rw[this];exact pC n P W a1 c1 o
   ·exact Sm n _ W x u (hu.fr (Fr.refl _ W) (fun k _ hp=>⟨hp,hne k hp⟩) _ _ _) _ (fun _=>rfl) (fun _ y ys h=>by rw[b] at h;exact absurd h (by simp))
  | cons y ys =>
   have d:y∈x.vals:=by rw[b];simp
   refine⟨n+1,y,hx.2 y (.inr d),Ld hx.1.1 y (.inr d),Jd (i:=36) rfl rfl S8 (fun h=>absurd c h) (fun _ _ P W a1 l1' c1 o hrow _ _ _=>?_),Ba fun P w a cap hne hP h=>Cg (i:=36) (by rfl) (by simp) (n+2) n P w a cap x h _ fun u W hW hu hlt=>?_⟩
   ·rw[b] at hrow;exact sY (n+1) P W a1 l1' c1 o y ys hrow
   ·exact Sm n _ W x u (hu.fr (Fr.refl _ W) (fun k _ hp=>⟨hp,hne k hp⟩) _ _ _) _ (fun h=>by
     rcases h with h|h
     ·exact absurd c ((Pk x).1 h)
     ·rw[b] at h;exact absurd h (by simp)) (fun _ y' ys' h=>by rw[b] at h;injection h)
 ·refine⟨n+1,_,Br _,Db _,Jd (i:=36) rfl rfl S8 (fun _ P w=>.inl ⟨rfl,rfl⟩) (fun e h=>absurd ⟨by rw[e];rfl,h⟩ c),Ba fun P w a cap hne hP h=>Cg (i:=36) (by rfl) (by simp) (n+2) n P w a cap x h _ fun u W hW hu hlt=>?_⟩;exact Sm n _ W x u (hu.fr (Fr.refl _ W) (fun k _ hp=>⟨hp,hne k hp⟩) _ _ _) _ (fun _=>rfl) (fun h=>absurd ((Hf x).1 h) c)
theorem pS (n:Nat)(x:Ag (AV (n+1)))(hx:Bn (n+2) x):Cv ⟨#[116,97,105,108]⟩ (n+2) [(x:AV (n+2))]:=by
 have g:=Cx hx.1.1;by_cases c:x.kind=6/\A7 (Au (n+1)) x.keys=true
 ·cases b:x.vals with
  | nil =>
   refine⟨n+2,_,Br _,Db _,Jd (i:=37) rfl rfl S9 (fun h=>absurd c h) (fun _ _ P W a1 l1' c1 o hrow _ _ _=>?_),Ba fun P w a cap hne hP h=>Cg (i:=37) (by rfl) (by simp) (n+2) (n+1) P w a cap x h _ fun u W hW hu hlt=>?_⟩
   ·rw[b] at hrow;have:l1'=0:=hrow.1;rw[this];exact pK (n+1) P W a1 c1 o
   ·exact Sn (n+1) (n+1) _ W x u (hu.fr (Fr.refl _ W) (fun k _ hp=>⟨hp,hne k hp⟩) _ _ _) _ (fun _=>rfl) (fun _ y ys h=>by rw[b] at h;exact absurd h (by simp))
  | cons y ys =>
   have d:∀t∈ys,t∈x.vals:=fun t ht=>by rw[b];simp[ht]
   have f:ys.length<=1024:=by have:=g.2;rw[b,List.length_cons] at this;omega
   refine⟨n+2,_,Rn n ys (fun t h=>hx.2 t (.inr (d t h))) (by omega),S3 _ _ _,Jd (i:=37) rfl rfl S9 (fun h=>absurd c h) (fun _ _ P W a1 l1' c1 o hrow hsh _ hP=>?_),Ba fun P w a cap hne hP h=>Cg (i:=37) (by rfl) (by simp) (n+2) (n+1) P w a cap x h _ fun u W hW hu hlt=>?_⟩
   ·rw[b] at hrow;obtain rfl:l1'=ys.length+1:=hrow.1;exact tO n P W a1 _ c1 y ys o hrow hsh (by omega) (fun t h=>(Eu hx t (.inr (d t h))).2) hP
   ·refine Sn (n+1) (n+1) _ W x u (hu.fr (Fr.refl _ W) (fun k _ hp=>⟨hp,hne k hp⟩) _ _ _) _ (fun h=>by
     rcases h with h|h
     ·exact absurd c ((Pk x).1 h)
     ·rw[b] at h;exact absurd h (by simp)) (fun _ y' ys' h a2 cap2 hrow W' hW' hlt'=>?_)
    rw[b] at h;injection h with h1 h2
    subst h2;refine(Ja (Q0:=fun _=>True) n (fun k=>(P k/\k≠w.heap.size)/\k≠W.heap.size+1) W' a2 ys.length cap2 ys (hrow.fr (Fr.grew hW') (fun x v=>Ref.fr (Fr.grew hW') (fun k hk hp=>⟨hp,by omega⟩) (n+1) x v) (fun _ _ _=>trivial)) (by omega) (fun t h=>Eu hx t (.inr (d t h)))).mono ?_;intro e j q;exact Ek (fun k hk=>⟨⟨hP k (by omega),by omega⟩,by omega⟩) q
 ·refine⟨n+2,_,Br _,Db _,Jd (i:=37) rfl rfl S9 (fun _ P w=>.inl ⟨rfl,rfl⟩) (fun e h=>absurd ⟨by rw[e];rfl,h⟩ c),Ba fun P w a cap hne hP h=>Cg (i:=37) (by rfl) (by simp) (n+2) (n+1) P w a cap x h _ fun u W hW hu hlt=>?_⟩;exact Sn (n+1) (n+1) _ W x u (hu.fr (Fr.refl _ W) (fun k _ hp=>⟨hp,hne k hp⟩) _ _ _) _ (fun _=>rfl) (fun h=>absurd ((Hf x).1 h) c)
theorem gA (n:Nat)(hn:1024<=n+1)(x y:Ag (AV (n+1)))(hx:Bn (n+2) x)(hy:Bn (n+2) y)(hyw:wt (n+2) y<=1024):Cv ⟨#[97,112,112,101,110,100]⟩ (n+2) [(x:AV (n+2)),(y:AV (n+2))]:=by
 obtain⟨c,e,s,C⟩:=Xl hn y hy hyw;have D:=Cx hx.1.1;have d:∀t∈x.vals++[c],Bn (n+1) t/\wt (n+1) t<=1024:=by
  intro t B;rcases List.mem_append.1 B with h|h
  ·exact⟨hx.2 t (.inr h),Ld hx.1.1 t (.inr h)⟩
  ·rw[List.mem_singleton.1 h];exact⟨s,C⟩
 have A:=fun t h=>M9 (Ce _ _ (d t h).1).1 (d t h).2;have b:∀(P:Nat->Prop)(w:World)(a:_)(cap:Nat)(z:AV (n+2)),(∀k,P k->k≠_)->(∀k,w.heap.size<k->P k)->Bm (fun _=>True) w (Ref P w (n+2)) a 2 [_,_]->_->_->Calls _ 22 #[_,_] w (Aw P w (n+2) z):=fun P w a cap z hne hP h h0 h1=>Ot (i:=38) (by rfl) (by simp) (n+2) (n+1) P w a cap x y h z fun u v W hW2 hu hv hlt=>W9 n _ W x c u v (hu.fr (Fr.refl _ W) (fun k _ hp=>⟨hp,hne k hp⟩) _ _ _) ((H6 _ W (n+1) c v).1 (by rw[e];exact hv.fr (Fr.refl _ W) (fun k _ hp=>⟨hp,hne k hp⟩) _ _ _)) z (fun k hk=>⟨hP k (by omega),by omega⟩) (by omega) A h0 h1;by_cases g:x.kind=6/\A7 (Au (n+1)) x.keys=true
 ·refine⟨n+2,_,Rn n _ (fun t h=>(d t h).1) (by simp;omega),S3 _ _ _,Jd (i:=38) rfl rfl Nl (fun h=>absurd g h) (fun _ _ P W a1 l1' c1 o hrow _ hr hP=>?_),Ba fun P w a cap hne hP h=>b P w a cap _ hne hP h (fun h=>absurd g ((Pk x).1 h)) (fun _=>rfl)⟩;have l:l1'=x.vals.length:=hrow.1;obtain⟨j,r,rfl,m⟩:=hr.row (show 1<=4294967296 by omega);have p:Bv (fun _=>True) W (Aj P W (n+1)) j 1 [c]:=by
   refine(Wm (f:=up (n+1)) (Lj P W (n+1)) j 1 [c]).1 ?_;rw[List.map_cons,List.map_nil,e];exact m
  have q:=tV n P W a1 j l1' c1 1 r x.vals [c] hrow p (fun t h=>(d t h).2) (by omega) (by omega) hP;rw[show l1'+1=(x.vals++[c]).length by simp[l]] at q;exact q
 ·exact⟨n+2,_,Br _,Db _,Jd (i:=38) rfl rfl Nl (fun _ P w=>.inl ⟨rfl,rfl⟩) (fun e h=>absurd ⟨by rw[e];rfl,h⟩ g),Ba fun P w a cap hne hP h=>b P w a cap _ hne hP h (fun _=>rfl) (fun h=>absurd ((Hf x).1 h) g)⟩
theorem pT (n:Nat)(x y:Ag (AV (n+1)))(hx:Bn (n+2) x)(hy:Bn (n+2) y):Cv ⟨#[43,43]⟩ (n+2) [(x:AV (n+2)),(y:AV (n+2))]:=by
 have s:=Cx hx.1.1;have A:=Cx hy.1.1;have l:∀t∈x.vals++y.vals,Bn (n+1) t/\wt (n+1) t<=1024:=by
  intro t f;rcases List.mem_append.1 f with h|h
  ·exact⟨hx.2 t (.inr h),Ld hx.1.1 t (.inr h)⟩
  ·exact⟨hy.2 t (.inr h),Ld hy.1.1 t (.inr h)⟩
 have r:=fun t h=>M9 (Ce _ _ (l t h).1).1 (l t h).2;have c:∀(P:Nat->Prop)(w:World)(a:_)(cap:Nat)(z:_),(∀k,P k->k≠_)->(∀k,w.heap.size<k->P k)->Bm (fun _=>True) w (Ref P w (n+2)) a 2 [_,_]->_->_->Calls _ 22 #[_,_] w (Aw P w (n+2) z):=fun P w a cap z hne hP h h0 h1=>Ot (i:=39) (by rfl) (by simp) (n+2) (n+1) P w a cap x y h z fun u v W hW2 hu hv hlt=>bN n _ W x y u v (hu.fr (Fr.refl _ W) (fun k _ hp=>⟨hp,hne k hp⟩) _ _ _) (hv.fr (Fr.refl _ W) (fun k _ hp=>⟨hp,hne k hp⟩) _ _ _) z (fun k hk=>⟨hP k (by omega),by omega⟩) (by omega) (by omega) r h0 h1;by_cases j:x.kind=6/\A7 (Au (n+1)) x.keys=true
 ·by_cases f:y.kind=6/\A7 (Au (n+1)) y.keys=true
  ·refine⟨n+2,_,Rn n _ (fun t h=>(l t h).1) (by simp;omega),S3 _ _ _,Jd (i:=39) rfl rfl Oz (fun h=>absurd j h) (fun _ _ P W a1 l1' c1 o hrow _ hr hP=>?_),Ba fun P w a cap hne hP h=>c P w a cap _ hne hP h (fun h=>absurd ⟨(Hf x).2 j,(Hf y).2 f⟩ h) (fun _ _=>rfl)⟩;have p:l1'=x.vals.length:=hrow.1;obtain⟨b,g,cap,rfl,hlt,m⟩:=hr;obtain⟨v,hv,d⟩:=m 0 y rfl;have q:=kE n P W a1 l1' c1 cap b g x.vals y v hlt hv d f.1 f.2 hrow (fun t h=>(l t h).2) (by omega) (by omega) hP;rw[show l1'+y.vals.length=(x.vals++y.vals).length by rw[List.length_append,p]] at q;exact q
  ·refine⟨n+2,_,Br _,Db _,Jd (i:=39) rfl rfl Oz (fun h=>absurd j h) (fun _ _ P W a1 l1' c1 o hrow _ hr hP=>?_),Ba fun P w a cap hne hP h=>c P w a cap _ hne hP h (fun _=>rfl) (fun _ h=>absurd ((Hf y).1 h) f)⟩;obtain⟨b,g,cap,rfl,hlt,m⟩:=hr;obtain⟨v,hv,d⟩:=m 0 y rfl;exact fD (n+1) (n+1) P W a1 l1' c1 cap b g y v hlt hv d f
 ·exact⟨n+2,_,Br _,Db _,Jd (i:=39) rfl rfl Oz (fun _ P w=>.inl ⟨rfl,rfl⟩) (fun e h=>absurd ⟨by rw[e];rfl,h⟩ j),Ba fun P w a cap hne hP h=>c P w a cap _ hne hP h (fun _=>rfl) (fun h _=>absurd ((Hf x).1 h) j)⟩
theorem Ro (a b:Value)(w:World):Sem.run prog (callFunc 225 #[a,b]) w=.ok (.enter 225 #[a,b]) w:=by kernel_rfl
theorem Lm (a b:Value)(w:World):Sem.run prog (callFunc 226 #[a,b]) w=.ok (.enter 226 #[a,b]) w:=by kernel_rfl
theorem gB {α β:Type}(f:α->List β)(c:Nat):∀l:List α,(∀x∈l,(f x).length<=c)->(l.flatMap f).length<=l.length*c
 | [],_=>by simp
 | x::l,h=>by
  have h1:=h x (by simp);have h2:=gB f c l (fun y hy=>h y (by simp[hy]));rw[List.flatMap_cons,List.length_append,List.length_cons,Nat.add_mul];omega
theorem bY (n:Nat)(x:Ag (AV (n+2)))(hx:Bn (n+3) x):Cv ⟨#[102,108,97,116,116,101,110]⟩ (n+3) [(x:AV (n+3))]:=by
 have s:=Cx hx.1.1;have d:∀t∈x.keys.flatMap (Ez (n+1)),Bn (n+1) t/\wt (n+1) t<=1024:=by
  intro t f;obtain⟨e,he,f⟩:=List.mem_flatMap.1 f;have l:=hx.2 e (.inl he);exact⟨l.2 t (.inl f),Ld l.1.1 t (.inl f)⟩
 have r:=fun t h=>M9 (Ce _ _ (d t h).1).1 (d t h).2;have p:(x.keys.flatMap (Ez (n+1))).length<=1048576:=by
  have:=gB (Ez (n+1)) 1024 x.keys (fun e he=>(Cx (x:=(e:Ag (AV (n+1)))) (hx.2 e (.inl he)).1.1).1);have:=Nat.mul_le_mul_right 1024 s.1;omega
 by_cases c:x.kind=5
 ·have b:∀z:_,Bn (n+2) z->wt (n+2) z<=1024->((∃e∈x.keys,Om (n+1) e≠5)->z=(Ar:_))->((∀e∈x.keys,Om (n+1) e=5)->z=(mkS (wt (n+1)) (Eo (Al (n+1)) (x.keys.flatMap (Ez (n+1)))):_))->Cv ⟨#[102,108,97,116,116,101,110]⟩ (n+3) [(x:_)]:=by
   intro z q v g j;refine⟨n+2,z,q,v,Ox (i:=25) (t:=1) rfl rfl Ro (fun h=>absurd c h) (fun _ P W b1 o s1 _ hP=>fE (n+1) P W b1 x.keys o s1 z hP p (fun t h=>(d t h).2) g j),Ba fun P w a cap hne hP h=>Cg (i:=25) (by rfl) (by simp) (n+3) (n+1) P w a cap x h z fun u W hW2 hu hlt=>?_⟩;refine Rf (n+2) (n+1) _ W x u (hu.fr (Fr.refl _ W) (fun k _ hp=>⟨hp,hne k hp⟩) _ _ _) z (fun h=>absurd c h) (fun _ u' hu' W' hW' hlt'=>?_);exact pE (n+1) _ W' x u' (hu'.fr (Fr.grew hW') (fun k hk hp=>⟨hp,by omega⟩) _ _ _) z (fun k hk=>⟨⟨hP k (by omega),by omega⟩,by omega⟩) p r g j
  by_cases m:∀e∈x.keys,Om (n+1) e=5
  ·exact b _ (Pj _ _ (fun t h=>(d t h).1)) (M5 _ _) (fun⟨e,he,h⟩=>absurd (m e he) h) (fun _=>rfl)
  ·exact b _ (Br _) (Db _) (fun _=>rfl) (fun h=>absurd h m)
 ·refine⟨n+2,_,Br _,Db _,Ox (i:=25) rfl rfl Ro (fun _ P w=>.inl ⟨rfl,rfl⟩) (fun e=>absurd (by rw[e];rfl) c),Ba fun P w a cap hne hP h=>Cg (i:=25) (by rfl) (by simp) (n+3) (n+1) P w a cap x h _ fun u W hW2 hu hlt=>?_⟩;exact Rf (n+2) (n+1) _ W x u (hu.fr (Fr.refl _ W) (fun k _ hp=>⟨hp,hne k hp⟩) _ _ _) _ (fun _=>rfl) (fun h=>absurd h c)
theorem Ya (n:Nat)(x:Ag (AV (n+1)))(hx:Bn (n+2) x):Cv ⟨#[112,111,119,101,114,115,101,116]⟩ (n+2) [(x:AV (n+2))]:=by
 by_cases c:x.kind=5
 ·obtain⟨-,m,r,-⟩:=M8 hx.1.1 c;have f:∀k,∀p∈Cj x.keys k,p.Sublist x.keys:=by
   intro k p hp;rw[Kw] at hp;obtain⟨q,_,rfl⟩:=List.mem_map.1 hp;exact Ke x.keys q k
  have hp:∀k,∀p∈Cj x.keys k,Bn (n+2) (J3 (n+1) p)/\wt (n+2) (J3 (n+1) p)<=1024:=by
   intro k p hp;have j:=f k p hp;have s:=aD (wt (n+1)) j;have e:(mkS (wt (n+1)) p:_)=Bt p:=if_pos (by omega);have g:=Jk (n+1) p (fun t ht=>hx.2 t (.inl (j.subset ht))) (List.Pairwise.sublist j m);rw[e] at g;refine⟨g,?_⟩;show 1+wtL (wt (n+1)) p<=1024;omega
  have l:=fun k p h=>M9 (Ce _ _ (hp k p h).1).1 (hp k p h).2;have b:∀(P:Nat->Prop)(w:World)(a:_)(cap:Nat)(z:AV (n+3)),(∀k,P k->k≠_)->(∀k,w.heap.size<k->P k)->Bm (fun _=>True) w (Ref P w (n+2)) a 1 [_]->_->_->Calls _ 22 #[_,_] w (Aw P w (n+3) z):=fun P w a cap z hne hP h h0 h1=>Cg (i:=26) (by rfl) (by simp) (n+2) (n+2) P w a cap x h z fun u W hW2 hu hlt=>Py (n+1) (n+2) _ W x u (hu.fr (Fr.refl _ W) (fun k _ hp=>⟨hp,hne k hp⟩) _ _ _) z (fun h=>absurd c h) (fun _ u' hu' W' hW' hlt'=>kD n _ W' x u' (hu'.fr (Fr.grew hW') (fun k hk hp=>⟨hp,by omega⟩) _ _ _) (fun k hk=>⟨⟨hP k (by omega),by omega⟩,by omega⟩) l z h0 h1);by_cases d:x.keys.length<=10
  ·refine⟨n+3,(mkS _ (Eo _ ((Cj x.keys x.keys.length).map (J3 (n+1)))):Ag (AV (n+2))),Pj _ _ (fun t ht=>?_),M5 _ _,Ox (i:=26) rfl rfl Lm (fun h=>absurd c h) (fun _ P W b1 o s1 _ hP=>bQ (n+1) P W b1 x.keys o s1 _ hP r d rfl),Ba fun P w a cap hne hP h=>b P w a cap _ hne hP h (fun h=>by omega) (fun _=>rfl)⟩;obtain⟨p,h1,rfl⟩:=List.mem_map.1 ht;exact(hp _ p h1).1
  ·exact⟨n+3,_,Br _,Db _,Ox (i:=26) rfl rfl Lm (fun h=>absurd c h) (fun _ P W b1 o s1 _ hP=>X9 (n+1) P W b1 x.keys o s1 _ (by omega) rfl),Ba fun P w a cap hne hP h=>b P w a cap _ hne hP h (fun _=>rfl) (fun h=>absurd h d)⟩
 ·refine⟨n+2,_,Br _,Db _,Ox (i:=26) rfl rfl Lm (fun _ P w=>.inl ⟨rfl,rfl⟩) (fun e=>absurd (by rw[e];rfl) c),Ba fun P w a cap hne hP h=>Cg (i:=26) (by rfl) (by simp) (n+2) (n+1) P w a cap x h _ fun u W hW2 hu hlt=>?_⟩;exact Py (n+1) (n+1) _ W x u (hu.fr (Fr.refl _ W) (fun k _ hp=>⟨hp,hne k hp⟩) _ _ _) _ (fun _=>rfl) (fun h=>absurd h c)
theorem P4 (a b:Value)(w:World):Sem.run prog (callFunc 227 #[a,b]) w=.ok (.enter 227 #[a,b]) w:=by kernel_rfl
theorem Mc (a b:Value)(w:World):Sem.run prog (callFunc 228 #[a,b]) w=.ok (.enter 228 #[a,b]) w:=by kernel_rfl
theorem mB {n:Nat}{ks us:List (AV n)}(hk:∀x∈ks,Bn n x)(hu:∀x∈us,Bn n x)(ha:Asc (Al n) ks)(hl:ks.length=us.length)(hw:1+wtL (wt n) ks+wtL (wt n) us<=1024):Bn (n+1) (fnA n ks us):=by
 have g:=Rc n ks us hk hu ha hl;have e:(mkF (wt n) ks us:_)=_:=if_pos hw;rw[e] at g;exact g
theorem uN (n:Nat){ks bs:List (AV n)}(hk:∀x∈ks,Bn n x)(hb:∀x∈bs,Bn n x)(ha:Asc (Al n) ks)(hab:Asc (Al n) bs):Bn (n+2) (I8 n ks bs):=by
 unfold I8;split
 ·rename_i hl
  refine Jk (n+1) _ (fun t ht=>?_) (Yj n hab);obtain⟨r,a,rfl⟩:=List.mem_map.1 ht;exact mB hk (fun x hx=>hb x (Ft _ r a x hx)) ha (Co _ r a).symm (hl r a)
 ·exact Br _
theorem zX (n:Nat)(ks bs:List (AV n)):wt (n+2) (I8 n ks bs)<=1024:=by
 unfold I8;split
 ·exact M5 _ _
 ·exact Db _
theorem kT (n:Nat)(x y:Ag (AV (n+1)))(hx:Bn (n+2) x)(hy:Bn (n+2) y):Cv ⟨#[45,62]⟩ (n+2) [(x:AV (n+2)),(y:AV (n+2))]:=by
 have m:=Cx hx.1.1;have o:=Cx hy.1.1;by_cases b:x.kind=5/\y.kind=5
 ·obtain⟨-,c,g,-⟩:=M8 hx.1.1 b.1;obtain⟨-,d,j,-⟩:=M8 hy.1.1 b.2;refine⟨n+3,_,uN (n+1) (fun t h=>hx.2 t (.inl h)) (fun t h=>hy.2 t (.inl h)) c d,zX _ _ _,S6 (i:=27) rfl rfl P4 (fun h=>absurd b h) (fun _ _ P W b1 b2 s1 s2 hP=>bS (n+1) P W b1 b2 x.keys y.keys s1 s2 hP g j m.1 o.1),Ba fun P w a cap hne hP h=>Fs (i:=27) (by rfl) (by simp) (n+2) (n+2) P w a cap x y h _ fun u v W hW hu hv hlt=>?_⟩;exact eZ n _ W x y u v (hu.fr (Fr.refl _ W) (fun k _ hp=>⟨hp,hne k hp⟩) _ _ _) (hv.fr (Fr.refl _ W) (fun k _ hp=>⟨hp,hne k hp⟩) _ _ _) (fun k hk=>⟨hP k (by omega),by omega⟩) d c m.1 o.1 _ (fun t h=>Eu hx t (.inl h)) (fun t h=>Eu hy t (.inl h)) g b.1 b.2 rfl
 ·refine⟨n+2,_,Br _,Db _,S6 (i:=27) rfl rfl P4 (fun _ P w=>.inl ⟨rfl,rfl⟩) (fun e1 e2=>absurd ⟨by rw[e1];rfl,by rw[e2];rfl⟩ b),Ba fun P w a cap hne hP h=>Fs (i:=27) (by rfl) (by simp) (n+2) (n+1) P w a cap x y h _ fun u v W hW hu hv hlt=>?_⟩;have e:=hu.fr (Q:=fun k=>P k/\k≠_) (Fr.refl _ W) (fun k _ hp=>⟨hp,hne k hp⟩) _ _ _;have f:=hv.fr (Q:=fun k=>P k/\k≠_) (Fr.refl _ W) (fun k _ hp=>⟨hp,hne k hp⟩) _ _ _;by_cases l:x.kind=5
  ·exact Mz (n+1) (n+1) _ W _ (by rw[ByteArray.toList_eq];decide) (by rw[ByteArray.toList_eq];decide) x y u v e f (.inr ⟨by rw[l];rfl,by have:¬y.kind=5:=fun h2=>b ⟨l,h2⟩;simp;omega⟩) _ rfl
  ·exact Mz (n+1) (n+1) _ W _ (by rw[ByteArray.toList_eq];decide) (by rw[ByteArray.toList_eq];decide) x y u v e f (.inl (by simp;omega)) _ rfl
theorem pU (n:Nat){es:List (AV (n+1))}(N:Nat)(hg:∀x∈es,Bn (n+1) x)(ha:Asc (Al (n+1)) es):Bn (n+3) (Jh n es N):=by
 unfold Jh;split
 ·rename_i hl
  refine Jk (n+2) _ (fun t ht=>?_) (Vi n ha N);obtain⟨i,d,ht⟩:=List.mem_flatMap.1 ht;obtain⟨r,a,rfl⟩:=List.mem_map.1 ht;have b:=hl i (by simpa using d) r a;have e:i<=1024:=by
   have c:=P7 _ r (fun t _=>iE n t);rw[Co i r a] at c;omega
  exact mB (Ms n i (by omega)) (fun x hx=>hg x (Ft i r a x hx)) (N6 n i) (by rw[Dc,Co i r a]) b
 ·exact Br _
theorem xT (n:Nat)(es:List (AV (n+1)))(N:Nat):wt (n+3) (Jh n es N)<=1024:=by
 unfold Jh;split
 ·exact M5 _ _
 ·exact Db _
theorem pV (n:Nat)(x y:Ag (AV (n+1)))(hx:Bn (n+2) x)(hy:Bn (n+2) y):Cv ⟨#[115,101,113,115]⟩ (n+2) [(x:AV (n+2)),(y:AV (n+2))]:=by
 have r:=Cx hx.1.1;have A:=Ll y hy.1.1;by_cases c:x.kind=5/\y.kind=2/\0<=y.int
 ·obtain⟨-,q,z,-⟩:=M8 hx.1.1 c.1;obtain⟨N,p⟩:∃N:Nat,y.int=(N:Int):=⟨y.int.toNat,by have:=c.2.2;omega⟩;have j:Au (n+2) y=_:=(Hx y _).2 ⟨c.2.1,p⟩;refine⟨n+3,_,pU n N (fun t h=>hx.2 t (.inl h)) q,xT _ _ _,Ox (i:=28) rfl rfl Mc (fun h=>absurd c.1 h) (fun _ P W b1 o s1 hr hP=>?_),Ba fun P w a cap hne hP h=>Lb (i:=28) (f:=52) (by rfl) (by simp) (n+2) (n+2) P w a cap x y h _ fun u v W hW hu hv hlt=>?_⟩
  ·obtain⟨b,g,cap,rfl,hlt,m⟩:=hr;obtain⟨v,hv,d⟩:=m 0 y rfl;exact Sv n P W b1 b g cap x.keys s1 (n+2) y v hlt hv d N j (by omega) hP z r.1
  ·exact Uh n (n+1) _ W x y u v (hu.fr (Fr.refl _ W) (fun k _ hp=>⟨hp,hne k hp⟩) _ _ _) (hv.fr (Fr.refl _ W) (fun k _ hp=>⟨hp,hne k hp⟩) _ _ _) (fun k hk=>⟨hP k (by omega),by omega⟩) q r.1 (fun t h=>Eu hx t (.inl h)) c.1 c.2.1 N p (by omega) _ rfl
 ·refine⟨n+2,_,Br _,Db _,Ox (i:=28) rfl rfl Mc (fun _ P w=>.inl ⟨rfl,rfl⟩) (fun e P W b1 o s1 hr hP=>?_),Ba fun P w a cap hne hP h=>Lb (i:=28) (f:=52) (by rfl) (by simp) (n+2) (n+1) P w a cap x y h _ fun u v W hW hu hv hlt=>?_⟩
  ·obtain⟨b,g,cap,rfl,hlt,m⟩:=hr;obtain⟨v,hv,d⟩:=m 0 y rfl;refine Sw (n+1) P W b1 b g cap (n+2) y v hlt hv d (fun i hn=>?_);obtain⟨s,rfl⟩:=(Hx y i).1 hn;rcases Int.lt_or_le y.int 0 with l|l
   ·exact l
   ·exact absurd ⟨by rw[e];rfl,s,l⟩ c
  ·exact Ui (n+1) (n+1) (n+1) _ W x y u v (hu.fr (Fr.refl _ W) (fun k _ hp=>⟨hp,hne k hp⟩) _ _ _) (hv.fr (Fr.refl _ W) (fun k _ hp=>⟨hp,hne k hp⟩) _ _ _) c
theorem uO {op:List UInt8}{n:Nat}(h:¬jD op n):∃(i:Nat)(t:Int)(C:World->Value->Prop),Cc[i]?=some (op,t,C)/\(t=-1\/t=(n:Int)):=by
 unfold jD at h;have a:∃x∈Cc,x.1=op/\(x.2.1=-1\/x.2.1=(n:Int)):=by
  refine Classical.byContradiction fun hc=>h fun x hx e=>⟨fun h1=>hc ⟨x,hx,e,.inl h1⟩,fun h1=>hc ⟨x,hx,e,.inr h1⟩⟩
 obtain⟨x,hx,e,b⟩:=a;obtain⟨i,c⟩:=List.mem_iff_getElem?.1 hx;exact⟨i,x.2.1,x.2.2,by rw[c,<- e],b⟩
theorem zY {op b:List UInt8}{t t':Int}{C C':World->Value->Prop}(h:some (b,t',C')=some (op,t,C)):b=op/\t'=t:=by
 simp only[Option.some.injEq,Prod.mk.injEq] at h;exact⟨h.1,h.2.1⟩
theorem uP (n:Nat)(hn:1024<=n+2)(op:ByteArray)(xs:List (AV (n+3)))(hx:∀x∈xs,Bn (n+3) x/\wt (n+3) x<=1024)(hl:xs.length<=1048576):Cv op (n+3) xs:=by
 by_cases c:jD op.data.toList xs.length
 ·exact⟨n+3,(Ar:Ag (AV (n+2))),Br _,Db _,fun P w a cap _ _ _ _=>jR op a xs.length cap w (n+2) P c,fun P w a cap _ _=>eW (n+2) P w op a xs.length cap c⟩
 ·obtain⟨i,t,C,h,g⟩:=uO c;have f:i<40:=(List.getElem?_eq_some_iff.1 h).1;have b:∀x∈xs,Bn (n+3) x:=fun x h=>(hx x h).1;obtain _|_|_|_|_|_|_|_|_|_|_|_|_|_|_|_|_|_|_|_|_|_|_|_|_|_|_|_|_|_|_|_|_|_|_|_|_|_|_|_|i:=i
  all_goals first|omega|skip
  all_goals
   obtain⟨d,e⟩:=zY h;obtain rfl:=Gt d
  ·obtain⟨x,rfl⟩:=Hp (show xs.length=1 by omega);exact tZ (n+2) x
  ·obtain⟨x,y,rfl⟩:=Cd (show xs.length=2 by omega);exact uA (n+2) x y
  ·obtain⟨x,y,rfl⟩:=Cd (show xs.length=2 by omega);exact xI (n+2) x y
  ·obtain⟨x,y,rfl⟩:=Cd (show xs.length=2 by omega);exact bW (n+2) x y
  ·obtain⟨x,y,rfl⟩:=Cd (show xs.length=2 by omega);exact uB (n+2) x y
  ·obtain⟨x,y,rfl⟩:=Cd (show xs.length=2 by omega);exact xJ (n+2) x y
  ·obtain⟨x,y,rfl⟩:=Cd (show xs.length=2 by omega);exact xK (n+2) x y
  ·obtain⟨x,y,rfl⟩:=Cd (show xs.length=2 by omega);exact xL (n+2) x y
  ·obtain⟨x,y,rfl⟩:=Cd (show xs.length=2 by omega);exact xM (n+2) x y
  ·obtain⟨x,y,rfl⟩:=Cd (show xs.length=2 by omega);exact xN (n+2) x y
  ·obtain⟨x,y,rfl⟩:=Cd (show xs.length=2 by omega);exact xO (n+2) x y
  ·obtain⟨x,y,rfl⟩:=Cd (show xs.length=2 by omega);exact uC (n+2) x y
  ·obtain⟨x,y,rfl⟩:=Cd (show xs.length=2 by omega);exact uD (n+2) x y
  ·obtain⟨x,y,rfl⟩:=Cd (show xs.length=2 by omega);exact uE (n+2) x y
  ·obtain⟨x,y,rfl⟩:=Cd (show xs.length=2 by omega);exact uF (n+2) x y
  ·obtain⟨x,y,rfl⟩:=Cd (show xs.length=2 by omega);exact uG (n+2) x y (b x (by simp))
  ·obtain⟨x,y,rfl⟩:=Cd (show xs.length=2 by omega);exact pP (n+2) x y (b x (by simp)) (b y (by simp))
  ·obtain⟨x,rfl⟩:=Hp (show xs.length=1 by omega);exact uH (n+2) x
  ·exact uI (n+2) xs hx hl
  ·obtain⟨x,y,rfl⟩:=Cd (show xs.length=2 by omega);exact xP (n+1) hn x y (b x (by simp)) (hx x (by simp)).2 (b y (by simp))
  ·obtain⟨x,y,rfl⟩:=Cd (show xs.length=2 by omega);exact fV (n+1) x y (b x (by simp)) (b y (by simp))
  ·obtain⟨x,y,rfl⟩:=Cd (show xs.length=2 by omega);exact kP (n+1) x y (b x (by simp)) (b y (by simp))
  ·obtain⟨x,y,rfl⟩:=Cd (show xs.length=2 by omega);exact kQ (n+1) x y (b x (by simp)) (b y (by simp))
  ·obtain⟨x,y,rfl⟩:=Cd (show xs.length=2 by omega);exact kR (n+1) x y (b x (by simp)) (b y (by simp))
  ·obtain⟨x,rfl⟩:=Hp (show xs.length=1 by omega);exact pQ (n+1) x (b x (by simp))
  ·obtain⟨x,rfl⟩:=Hp (show xs.length=1 by omega);exact bY n x (b x (by simp))
  ·obtain⟨x,rfl⟩:=Hp (show xs.length=1 by omega);exact Ya (n+1) x (b x (by simp))
  ·obtain⟨x,y,rfl⟩:=Cd (show xs.length=2 by omega);exact kT (n+1) x y (b x (by simp)) (b y (by simp))
  ·obtain⟨x,y,rfl⟩:=Cd (show xs.length=2 by omega);exact pV (n+1) x y (b x (by simp)) (b y (by simp))
  ·exact uK (n+2) xs hx hl
  ·obtain⟨x,y,rfl⟩:=Cd (show xs.length=2 by omega);exact xQ (n+1) hn x y (b x (by simp)) (b y (by simp)) (hx y (by simp)).2
  ·obtain⟨x,y,t,rfl⟩:=tX (show xs.length=3 by omega);exact uJ (n+1) hn x y t (b x (by simp)) (hx x (by simp)).2 (b y (by simp)) (hx y (by simp)).2 (b t (by simp)) (hx t (by simp)).2
  ·obtain⟨x,rfl⟩:=Hp (show xs.length=1 by omega);exact fW (n+1) x (b x (by simp))
  ·obtain⟨x,rfl⟩:=Hp (show xs.length=1 by omega);exact fX (n+1) x (b x (by simp))
  ·exact uL (n+2) xs hx hl
  ·obtain⟨x,rfl⟩:=Hp (show xs.length=1 by omega);exact uM (n+1) x (b x (by simp))
  ·obtain⟨x,rfl⟩:=Hp (show xs.length=1 by omega);exact pR (n+1) x (b x (by simp))
  ·obtain⟨x,rfl⟩:=Hp (show xs.length=1 by omega);exact pS (n+1) x (b x (by simp))
  ·obtain⟨x,y,rfl⟩:=Cd (show xs.length=2 by omega);exact gA (n+1) hn x y (b x (by simp)) (b y (by simp)) (hx y (by simp)).2
  ·obtain⟨x,y,rfl⟩:=Cd (show xs.length=2 by omega);exact pT (n+1) x y (b x (by simp)) (b y (by simp))
end Go.Proofs.YtdpeliifdlhhkaaGreatDoor.Sx
