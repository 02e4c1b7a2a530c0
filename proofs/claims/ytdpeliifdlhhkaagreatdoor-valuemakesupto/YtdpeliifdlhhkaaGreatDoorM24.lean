/- Operators: no such one; of truth. -/
import Derived.Test.YtdpeliifdlhhkaaGreatDoorM23
import Derived.Test.YtdpeliifdlhhkaaGreatDoorM03
import Derived.Test.YtdpeliifdlhhkaaGreatDoorM14
import Derived.Test.YtdpeliifdlhhkaaGreatDoorM05
namespace Go.Proofs.YtdpeliifdlhhkaaGreatDoor.Sx
open Go.RowKit Go.Sort Tryz
set_option maxRecDepth 100000
set_option maxHeartbeats 4000000
theorem wG (w:World):Sem.run prog (binOp BinOp.eql 20 .nilIface (.iface 4 (.bool true))) w=.ok (.bool false) w:=by kernel_rfl
theorem Ab2 (w:World):Sem.run prog (binOp BinOp.eql 20 (.iface 4 (.bool true)) (.iface 4 (.bool true))) w=.ok (.bool true) w:=by kernel_rfl
theorem Ab3 (w:World):Sem.run prog (binOp BinOp.eql 20 (.iface 4 (.bool false)) (.iface 4 (.bool true))) w=.ok (.bool false) w:=by kernel_rfl
theorem wH (v:Value)(w:World):Sem.run prog (binOp BinOp.eql 20 (.iface 2 v) (.iface 4 (.bool true))) w=.ok (.bool false) w:=by kernel_rfl
theorem jE (v:Value)(w:World):Sem.run prog (binOp BinOp.eql 20 (.iface 119 v) (.iface 4 (.bool true))) w=.ok (.bool false) w:=by kernel_rfl
theorem sQ (v:Value)(w:World):Sem.run prog (binOp BinOp.eql 20 (.iface 120 v) (.iface 4 (.bool true))) w=.ok (.bool false) w:=by kernel_rfl
theorem wI (v:Value)(w:World):Sem.run prog (binOp BinOp.eql 20 (.iface 121 v) (.iface 4 (.bool true))) w=.ok (.bool false) w:=by kernel_rfl
theorem zJ (v:Value)(w:World):Sem.run prog (binOp BinOp.eql 20 (.iface 125 v) (.iface 4 (.bool true))) w=.ok (.bool false) w:=by kernel_rfl
theorem Et {w:World}{b b' i j:Nat}{u v:Value}(h:w.cell? ⟨b',i,none⟩=some v)(hb:b'≠b):(w.setCell ⟨b,j,none⟩ u).cell? ⟨b',i,none⟩=some v :=
 (World.cell?_setCell_other w _ _ u (fun e=>hb (congrArg Addr.block e).symm)).trans h
def soN {α:Type}(a:Ag α):Bool:=decide (a.kind=1/\a.int=1)
def soV:(n:Nat)->AV n->Bool
 | 0,_=>false
 | _+1,a=>soN a
theorem wJ {w:World}:∀{n:Nat} {a:AV n} {v:Value} (_:Rep w n a v) (W:World),Sem.run prog (binOp BinOp.eql 20 v (.iface 4 (.bool true))) W=.ok (.bool (soV n a)) W
 | 0,_,_,h,_=>absurd h id
 | n+1,a,v,h,W=>by
  rcases h with⟨rfl,rfl⟩|⟨b,rfl,rfl⟩|⟨i,rfl,rfl⟩|⟨s,rfl,rfl⟩|⟨s,rfl,rfl⟩|⟨es,b,rfl,rfl,_⟩|⟨ks,us,b,d,rfl,rfl,_⟩
  ·exact wG W
  ·cases b
   ·exact Ab3 W
   ·exact Ab2 W
  ·exact wH _ W
  ·exact jE _ W
  ·exact sQ _ W
  ·exact wI _ W
  ·exact zJ _ W
theorem wK (w:World):Sem.run prog (eqGuard BinOp.eql 20 (Operand.tmp 4) (Operand.tmp 5) .nilIface (.iface 4 (.bool true))) w=.ok () w:=by kernel_rfl
theorem Ab4 (w:World):Sem.run prog (eqGuard BinOp.eql 20 (Operand.tmp 4) (Operand.tmp 5) (.iface 4 (.bool true)) (.iface 4 (.bool true))) w=.ok () w:=by kernel_rfl
theorem Ab5 (w:World):Sem.run prog (eqGuard BinOp.eql 20 (Operand.tmp 4) (Operand.tmp 5) (.iface 4 (.bool false)) (.iface 4 (.bool true))) w=.ok () w:=by kernel_rfl
theorem wL (v:Value)(w:World):Sem.run prog (eqGuard BinOp.eql 20 (Operand.tmp 4) (Operand.tmp 5) (.iface 2 v) (.iface 4 (.bool true))) w=.ok () w:=by kernel_rfl
theorem jF (v:Value)(w:World):Sem.run prog (eqGuard BinOp.eql 20 (Operand.tmp 4) (Operand.tmp 5) (.iface 119 v) (.iface 4 (.bool true))) w=.ok () w:=by kernel_rfl
theorem sR (v:Value)(w:World):Sem.run prog (eqGuard BinOp.eql 20 (Operand.tmp 4) (Operand.tmp 5) (.iface 120 v) (.iface 4 (.bool true))) w=.ok () w:=by kernel_rfl
theorem wM (v:Value)(w:World):Sem.run prog (eqGuard BinOp.eql 20 (Operand.tmp 4) (Operand.tmp 5) (.iface 121 v) (.iface 4 (.bool true))) w=.ok () w:=by kernel_rfl
theorem zK (v:Value)(w:World):Sem.run prog (eqGuard BinOp.eql 20 (Operand.tmp 4) (Operand.tmp 5) (.iface 125 v) (.iface 4 (.bool true))) w=.ok () w:=by kernel_rfl
theorem sS {w:World}:∀{n:Nat} {a:AV n} {v:Value} (_:Rep w n a v) (W:World),Sem.run prog (eqGuard BinOp.eql 20 (Operand.tmp 4) (Operand.tmp 5) v (.iface 4 (.bool true))) W=.ok () W
 | 0,_,_,h,_=>absurd h id
 | n+1,a,v,h,W=>by
  rcases h with⟨rfl,rfl⟩|⟨b,rfl,rfl⟩|⟨i,rfl,rfl⟩|⟨s,rfl,rfl⟩|⟨s,rfl,rfl⟩|⟨es,b,rfl,rfl,_⟩|⟨ks,us,b,d,rfl,rfl,_⟩
  ·exact wK W
  ·cases b
   ·exact Ab5 W
   ·exact Ab4 W
  ·exact wL _ W
  ·exact jF _ W
  ·exact sR _ W
  ·exact wM _ W
  ·exact zK _ W
theorem Wz (n:Nat)(a:AV n)(v:Value)(w:World)(h:Rep w n a v):Calls prog 188 #[.agg #[v]] w fun e w'=>e=.returned (.bool (soV n a))/\Ac w w':=by
 have b:=wJ h;have c:=sS h;have d:=Ae h.one;clear h;generalize soV n a=s at b |-;go_enter func188,ntmps188
 go_wp2_with fail
 go_ret
 exact⟨rfl,(Ac.refl w).alloc _⟩
theorem W5 {P:Nat->Prop}{w:World}{n:Nat}{a:Option Addr}{len:Nat}{xs:List (AV n)}{Q0:Nat->Prop}(h:Bv Q0 w (Aj P w n) a len xs)(hl:0<len):∃b off,a=some ⟨b,off,none⟩/\b<w.heap.size/\∀i x,xs[i]?=some x->∃v,w.cell? ⟨b,off+i,none⟩=some v/\Aj P w n x v:=by
 obtain⟨f,_,e|⟨b,off,rfl,c,_,d⟩⟩:=h
 ·omega
 ·exact⟨b,off,rfl,c,d⟩
theorem lU {P:Nat->Prop}{w:World}{n:Nat}{a:Option Addr}{x:AV n}(h:Bv P w (Aj P w n) a 1 [x]):∃b off v,a=some ⟨b,off,none⟩/\b<w.heap.size/\w.cell? ⟨b,off,none⟩=some v/\Aj P w n x v:=by
 obtain⟨b,off,rfl,c,e⟩:=W5 h (by omega);obtain⟨v,d,f⟩:=e 0 x rfl;exact⟨b,off,v,rfl,c,d,f⟩
theorem Mw {P:Nat->Prop}{w:World}{n:Nat}{a:Option Addr}{x y:AV n}{Q0:Nat->Prop}(h:Bv Q0 w (Aj P w n) a 2 [x,y]):∃b off v u,a=some ⟨b,off,none⟩/\b<w.heap.size/\w.cell? ⟨b,off,none⟩=some v/\w.cell? ⟨b,off+1,none⟩=some u/\Aj P w n x v/\Aj P w n y u:=by
 obtain⟨b,off,rfl,c,d⟩:=W5 h (by omega);obtain⟨v,e,i⟩:=d 0 x rfl;obtain⟨u,f,g⟩:=d 1 y rfl;exact⟨b,off,v,u,rfl,c,e,f,i,g⟩
theorem Ej (P:Nat->Prop)(w:World)(n:Nat)(b:Bool):Aj P w (n+1) (Bj b:Ag (AV n)) (.iface 4 (.bool b)):=.inr (.inl ⟨b,rfl,rfl⟩)
theorem Gk (P:Nat->Prop)(w:World)(n:Nat):Aj P w (n+1) (Ar:Ag (AV n)) .nilIface:=.inl ⟨rfl,rfl⟩
theorem K6 (P:Nat->Prop)(w:World)(n:Nat)(i:Int):Aj P w (n+1) (Cu i:Ag (AV n)) (.iface 2 (.int .i64 i)):=.inr (.inr (.inl ⟨i,rfl,rfl⟩))
theorem wN (n:Nat)(P:Nat->Prop)(w:World)(a:Option Addr)(cap:Nat)(x:AV n)(h:Bv P w (Aj P w n) a 1 [x]):Calls prog 187 #[.slice a 1 cap] w (Bd P w (n+1) (Bj (!soV n x):Ag (AV n))):=by
 obtain⟨b,r,v,rfl,p,t,j⟩:=lU h;have z:=Ae (j.rep _ _ _).one;have f:Hid _:=fun W hW=>Wz n x v W ((j.rep _ _ _).grew hW);clear h j;have g:Hid ((w.alloc _).heap[w.heap.size]?=some (.cells #[.nilIface] 23 (0,0))):=Af rfl;have c:Hid (Ac w (w.alloc (.cells #[.nilIface] 23))):=(Ac.refl w).alloc _;generalize soV n x=s at f |-;go_enter func187,ntmps187
 go_wp2_with fail
 generalize w.alloc _=W0 at g c |-;refine(f.out W0 c.out).mono ?_;rintro e l ⟨rfl,i⟩;have k:Hid (Ac w l):=c.out.trans i;have d:Hid _:=Ac1 i.below g.out;clear i g c f;have m:Hid (Bd P w (n+1) _ _ _):=⟨_,rfl,(A6 (P:=P) k.out.below (Ej _ _ n (!s))).1,(A6 k.out.below (Ej _ _ n (!s))).2⟩;have o:Hid ((l.setCell _ _).heap[w.heap.size]?=some (.cells #[.iface 4 (.bool (!s))] 23 (0,0))):=Ai d.out 0 _;have u:=Ab d.out 0;have y:=Ad d.out 0;have A:=Aa d.out;go_wp2_with fail
 have q:=Ab o.out 0;exact Ae2 (by simp[results,results187,go_sem,q]) rfl m.out
theorem zL (n:Nat)(P:Nat->Prop)(w:World)(a:Option Addr)(cap:Nat)(x y:AV n)(h:Bv P w (Aj P w n) a 2 [x,y]):Calls prog 193 #[.slice a 2 cap] w (Bd P w (n+1) (Bj (Al n x y==0):Ag (AV n))):=by
 obtain⟨b,c,v,u,rfl,d,r,t,k,j⟩:=Mw h;have K:=Ae (k.rep _ _ _).one;have L:=Ae (j.rep _ _ _).one;have o:Hid _:=fun W hW=>Qm n W x y v u ((k.rep _ _ _).grew hW) ((j.rep _ _ _).grew hW);clear h k j;have q:Hid ((w.alloc _).heap[w.heap.size]?=some (.cells #[.nilIface] 23 (0,0))):=Af rfl;have f:Hid (Ac w (w.alloc (.cells #[.nilIface] 23))):=(Ac.refl w).alloc _;generalize (Al n x y==0)=s at o |-;have H:=follows;go_enter func193,ntmps193
 go_wp2_with fail
 have z:=(f.out.below.cell (p:=⟨b,c,none⟩) d).trans r;have A:=(f.out.below.cell (p:=⟨b,c+1,none⟩) d).trans t;have l:=Ad8 d f.out.below.size;clear r t;generalize w.alloc _=W0 at q f z A l |-;go_region_held3 (fun w'=>w'.cell? ⟨b,c,none⟩=some v/\w'.cell? ⟨b,c+1,none⟩=some u) (first|(constructor<;>assumption)|(refine⟨Et ?_ (Nat.ne_of_lt d),Et ?_ (Nat.ne_of_lt d)⟩<;>assumption)|go_keep)
  ((go_at_call 194;refine(o.out _ (f.out.drew)).mono ?_;rintro e B ⟨rfl,g⟩;have m:Hid (Ac w B):=f.out.drew.trans g;have i:Hid _:=Ac1 (((Ac.refl W0).drew).trans g).below q.out;have I:=Ab i.out 0;have J:=Ad i.out 0;have M:=Aa i.out;have F:=((((Ac.refl W0).drew).trans g).below.cell (p:=⟨b,c,none⟩) l).trans z;have G:=((((Ac.refl W0).drew).trans g).below.cell (p:=⟨b,c+1,none⟩) l).trans A;clear g))
 have C:Hid (Bd P w (n+1) _ _ _):=⟨_,rfl,(A6 (P:=P) m.out.below (Ej _ _ n s)).1,(A6 m.out.below (Ej _ _ n s)).2⟩;have D:Hid ((B.setCell _ _).heap[w.heap.size]?=some (.cells #[.iface 4 (.bool s)] 23 (0,0))):=Ai i.out 0 _;go_wp2_with fail
 have E:=Ab D.out 0;exact Ae2 (by simp[results,results193,go_sem,E]) rfl C.out
theorem zM (n:Nat)(P:Nat->Prop)(w:World)(a:Option Addr)(cap:Nat)(x y:AV n)(h:Bv P w (Aj P w n) a 2 [x,y]):Calls prog 195 #[.slice a 2 cap] w (Bd P w (n+1) (Bj (!(Al n x y==0)):Ag (AV n))):=by
 obtain⟨b,c,v,u,rfl,d,r,t,k,j⟩:=Mw h;have K:=Ae (k.rep _ _ _).one;have L:=Ae (j.rep _ _ _).one;have o:Hid _:=fun W hW=>Qm n W x y v u ((k.rep _ _ _).grew hW) ((j.rep _ _ _).grew hW);clear h k j;have q:Hid ((w.alloc _).heap[w.heap.size]?=some (.cells #[.nilIface] 23 (0,0))):=Af rfl;have f:Hid (Ac w (w.alloc (.cells #[.nilIface] 23))):=(Ac.refl w).alloc _;generalize (Al n x y==0)=s at o |-;have H:=follows;go_enter func195,ntmps195
 go_wp2_with fail
 have z:=(f.out.below.cell (p:=⟨b,c,none⟩) d).trans r;have A:=(f.out.below.cell (p:=⟨b,c+1,none⟩) d).trans t;have l:=Ad8 d f.out.below.size;clear r t;generalize w.alloc _=W0 at q f z A l |-;go_region_held3 (fun w'=>w'.cell? ⟨b,c,none⟩=some v/\w'.cell? ⟨b,c+1,none⟩=some u) (first|(constructor<;>assumption)|(refine⟨Et ?_ (Nat.ne_of_lt d),Et ?_ (Nat.ne_of_lt d)⟩<;>assumption)|go_keep)
  ((go_at_call 194;refine(o.out _ (f.out.drew)).mono ?_;rintro e B ⟨rfl,g⟩;have m:Hid (Ac w B):=f.out.drew.trans g;have i:Hid _:=Ac1 (((Ac.refl W0).drew).trans g).below q.out;have I:=Ab i.out 0;have J:=Ad i.out 0;have M:=Aa i.out;have F:=((((Ac.refl W0).drew).trans g).below.cell (p:=⟨b,c,none⟩) l).trans z;have G:=((((Ac.refl W0).drew).trans g).below.cell (p:=⟨b,c+1,none⟩) l).trans A;clear g))
 have C:Hid (Bd P w (n+1) _ _ _):=⟨_,rfl,(A6 (P:=P) m.out.below (Ej _ _ n (!s))).1,(A6 m.out.below (Ej _ _ n (!s))).2⟩;have D:Hid ((B.setCell _ _).heap[w.heap.size]?=some (.cells #[.iface 4 (.bool (!s))] 23 (0,0))):=Ai i.out 0 _;go_wp2_with fail
 have E:=Ab D.out 0;exact Ae2 (by simp[results,results195,go_sem,E]) rfl C.out
theorem wO (n:Nat)(P:Nat->Prop)(w:World)(a:Option Addr)(cap:Nat)(x y:AV n)(h:Bv P w (Aj P w n) a 2 [x,y]):Calls prog 192 #[.slice a 2 cap] w (Bd P w (n+1) (Bj (soV n x==soV n y):Ag (AV n))):=by
 obtain⟨b,c,v,u,rfl,f,B,C,m,l⟩:=Mw h;have T:=Ae (m.rep _ _ _).one;have U:=Ae (l.rep _ _ _).one;have r:Hid _:=fun W hW=>Wz n x v W ((m.rep _ _ _).grew hW);have z:Hid _:=fun W hW=>Wz n y u W ((l.rep _ _ _).grew hW);clear h m l;have A:Hid ((w.alloc _).heap[w.heap.size]?=some (.cells #[.nilIface] 23 (0,0))):=Af rfl;have g:Hid (Ac w (w.alloc (.cells #[.nilIface] 23))):=(Ac.refl w).alloc _;generalize soV n x=s at r |-;generalize soV n y=t at z |-;have Q:=follows;go_enter func192,ntmps192
 go_wp2_with fail
 have D:=(g.out.below.cell (p:=⟨b,c,none⟩) f).trans B;have E:=(g.out.below.cell (p:=⟨b,c+1,none⟩) f).trans C;have k:=Ad8 f g.out.below.size;clear B C;generalize w.alloc _=W0 at A g D E k |-;go_region_held3 (fun w'=>w'.cell? ⟨b,c,none⟩=some v/\w'.cell? ⟨b,c+1,none⟩=some u) (first|(constructor<;>assumption)|(refine⟨Et ?_ (Nat.ne_of_lt f),Et ?_ (Nat.ne_of_lt f)⟩<;>assumption)|go_keep)
  ((
   go_at_call 188;first
   | (refine(r.out _ (g.out.drew)).mono ?_;rintro e M ⟨rfl,d⟩;have o:Hid (Ac w M):=g.out.drew.trans d;have H:Hid _:=Ac1 (((Ac.refl W0).drew).trans d).below A.out;have J:=((((Ac.refl W0).drew).trans d).below.cell (p:=⟨b,c,none⟩) k).trans D;have K:=((((Ac.refl W0).drew).trans d).below.cell (p:=⟨b,c+1,none⟩) k).trans E;have i:=Ad8 k (((Ac.refl W0).drew).trans d).below.size;clear d)
   | (refine(z.out _ o.out).mono ?_;rintro e F ⟨rfl,d⟩;have q:Hid (Ac w F):=o.out.trans d;have j:Hid _:=Ac1 d.below H.out;have R:=Ab j.out 0;have S:=Ad j.out 0;have V:=Aa j.out;have N:=(d.below.cell (p:=⟨b,c,none⟩) i).trans J;have O:=(d.below.cell (p:=⟨b,c+1,none⟩) i).trans K;clear d)))
 have G:Hid (Bd P w (n+1) _ _ _):=⟨_,rfl,(A6 (P:=P) q.out.below (Ej _ _ n _)).1,(A6 q.out.below (Ej _ _ n (s==t))).2⟩;have I:Hid ((F.setCell _ _).heap[w.heap.size]?=some (.cells #[.iface 4 (.bool (s==t))] 23 (0,0))):=Ai j.out 0 _;go_wp2_with fail
 have L:=Ab I.out 0;exact Ae2 (by simp[results,results192,go_sem,L]) rfl G.out
theorem eM {P:Nat->Prop}{w W:World}{n:Nat}(B:Bool)(G:Ac w W):Bd P w (n+1) (Bj B:Ag (AV n)) (.returned (.agg #[.iface 4 (.bool B)])) (W.setCell ⟨w.heap.size,0,none⟩ (.iface 4 (.bool B))):=⟨_,rfl,(A6 (P:=P) G.below (Ej _ _ n B)).1,(A6 G.below (Ej _ _ n B)).2⟩
theorem Sh (n:Nat)(P:Nat->Prop)(w:World)(a:Option Addr)(cap:Nat)(x y:AV n)(h:Bv P w (Aj P w n) a 2 [x,y])(f:Nat)(B:Bool)(hs:f=189/\(soV n x&&soV n y)=B\/f=190/\(soV n x||soV n y)=B\/f=191/\(!soV n x||soV n y)=B):Calls prog f #[.slice a 2 cap] w (Bd P w (n+1) (Bj B:Ag (AV n))):=by
 obtain⟨b,j,v,u,rfl,d,E,F,q,o⟩:=Mw h;have Q:=Ae (q.rep _ _ _).one;have R:=Ae (o.rep _ _ _).one;have r:Hid _:=fun W hW=>Wz n x v W ((q.rep _ _ _).grew hW);have z:Hid _:=fun W hW=>Wz n y u W ((o.rep _ _ _).grew hW);clear h q o;have A:Hid ((w.alloc _).heap[w.heap.size]?=some (.cells #[.nilIface] 23 (0,0))):=Af rfl;have m:Hid (Ac w (w.alloc (.cells #[.nilIface] 23))):=(Ac.refl w).alloc _;generalize soV n x=s at r hs;generalize soV n y=t at z hs;rcases hs with⟨rfl,l⟩|⟨rfl,l⟩|⟨rfl,l⟩
 all_goals
  cases s
  all_goals
   simp only[Bool.false_and,Bool.true_and,Bool.false_or,Bool.true_or,Bool.not_false,Bool.not_true] at l;subst l
   first|go_enter func189,ntmps189|go_enter func190,ntmps190|go_enter func191,ntmps191
   go_wp2_with fail
   generalize w.alloc _=W0 at A m |-;refine(r.out W0 m.out).mono ?_;rintro e C ⟨rfl,c⟩;have g:Hid (Ac w C):=m.out.trans c;have i:Hid _:=Ac1 c.below A.out;clear c;have J:=(g.out.below.cell (p:=⟨b,j,none⟩) d).trans E;have K:=(g.out.below.cell (p:=⟨b,j+1,none⟩) d).trans F;have S:=Ad8 d g.out.below.size;have L:=Ab i.out 0;have N:=Ad i.out 0;have T:=Aa i.out;go_wp2_with fail
   have G:=fun v=>Ab (Ai i.out 0 v) 0
   first
   | exact Ae2 (by simp[results,results189,results190,results191,go_sem,G]) rfl (eM _ g.out)
   | skip
  all_goals
   refine(z.out C g.out).mono ?_;rintro e I ⟨rfl,c⟩;have D:Hid (Ac w I):=g.out.trans c;have k:Hid _:=Ac1 c.below i.out;clear c;have M:=Ab k.out 0;have O:=Ad k.out 0;have U:=Aa k.out;go_wp2_with fail
   have H:=fun v=>Ab (Ai k.out 0 v) 0;exact Ae2 (by simp[results,results189,results190,results191,go_sem,H]) rfl (eM _ D.out)
theorem W7 {w:World}:∀{n:Nat} {a:AV n} {v:Value} (_:Rep w n a v) (W:World),(Instr.typeAssert v 20 2 true).run prog W=.ok (.tuple #[.int .i64 ((Au n a).getD 0),.bool (Au n a).isSome]) W
 | 0,_,_,h,_=>absurd h id
 | n+1,a,v,h,W=>by
  rcases h with⟨rfl,rfl⟩|⟨b,rfl,rfl⟩|⟨i,rfl,rfl⟩|⟨s,rfl,rfl⟩|⟨s,rfl,rfl⟩|⟨es,b,rfl,rfl,_⟩|⟨ks,us,b,d,rfl,rfl,_⟩
  ·exact Ln W
  ·exact I6 _ W
  ·exact I7 _ W
  ·exact Fe _ W
  ·exact Ff _ W
  ·exact Fg _ W
  ·exact Fh _ W
def jG (k:FuncId)(cs:Array Value)(i j:Int)(w:World)(Q:Ending->World->Prop):Prop :=
 ∃args,Sem.run prog (callFunc k (#[.int .i64 i,.int .i64 j]++cs)) w=.ok (.enter k args) w/\Calls prog k args w Q
theorem Cw {P:Nat->Prop}{w:World}{m:Nat}{y:AV m}{v:Value}{t:TypeId}(hr:Aj P (w.alloc (.cells #[v] t)) m y v):Bd P w m y (.returned (.agg #[v])) (w.alloc (.cells #[v] t)):=⟨v,rfl,((Ac.refl w).alloc _).below,hr⟩
theorem zN (i j:Int)(w:World):Calls prog 199 #[.int .i64 i,.int .i64 j] w fun e w'=>e=.returned (.bool (decide (i<j)))/\w'=w:=by
 go_enter func199,ntmps199
 go_wp2_with fail
 go_ret
 exact⟨rfl,rfl⟩
theorem wP (a b:Value)(w:World):Sem.run prog (callFunc 199 #[a,b]) w=.ok (.enter 199 #[a,b]) w:=by kernel_rfl
theorem zO (i j:Int)(w:World):Calls prog 200 #[.int .i64 i,.int .i64 j] w fun e w'=>e=.returned (.bool (decide (i<=j)))/\w'=w:=by
 go_enter func200,ntmps200
 go_wp2_with fail
 go_ret
 exact⟨rfl,rfl⟩
theorem wQ (a b:Value)(w:World):Sem.run prog (callFunc 200 #[a,b]) w=.ok (.enter 200 #[a,b]) w:=by kernel_rfl
theorem zP (i j:Int)(w:World):Calls prog 201 #[.int .i64 i,.int .i64 j] w fun e w'=>e=.returned (.bool (decide (j<i)))/\w'=w:=by
 go_enter func201,ntmps201
 go_wp2_with fail
 go_ret
 exact⟨rfl,rfl⟩
theorem wR (a b:Value)(w:World):Sem.run prog (callFunc 201 #[a,b]) w=.ok (.enter 201 #[a,b]) w:=by kernel_rfl
theorem zQ (i j:Int)(w:World):Calls prog 202 #[.int .i64 i,.int .i64 j] w fun e w'=>e=.returned (.bool (decide (j<=i)))/\w'=w:=by
 go_enter func202,ntmps202
 go_wp2_with fail
 go_ret
 exact⟨rfl,rfl⟩
theorem wS (a b:Value)(w:World):Sem.run prog (callFunc 202 #[a,b]) w=.ok (.enter 202 #[a,b]) w:=by kernel_rfl
theorem eN (n:Nat)(P:Nat->Prop)(k:FuncId)(R:Int->Int->Bool)(HC:∀(a b:Value)(w:World),Sem.run prog (callFunc k #[a,b]) w=.ok (.enter k #[a,b]) w)(HK:∀(i j:Int)(w:World),Calls prog k #[.int .i64 i,.int .i64 j] w fun e w'=>e=.returned (.bool (R i j))/\w'=w)(i j:Int)(r:Nat)(w:World)(hr:Box w r 237 (.func (.func k) #[] #[])) :
  Calls prog 198 #[.int .i64 i,.int .i64 j,.pointer (some ⟨r,0,none⟩)] w (Bd P w (n+1) (Bj (R i j):Ag (AV n))):=by
 have g:=Ab hr 0;have l:=Aa hr;have d:=HK i j;have c:Hid (∀w:World,Calls prog k #[.int .i64 i,.int .i64 j] w fun e w'=>e=.returned (.bool (R i j))/\w'=w):=d;have f:=HC (.int .i64 i) (.int .i64 j);clear hr HC HK d;generalize R i j=s at c |-;go_enter func198,ntmps198
 go_wp2_with fail
 refine(c.out _).mono ?_;rintro e h ⟨rfl,rfl⟩;go_wp2_with fail
 exact Ae2 (v:=.agg #[.iface 4 (.bool s)]) (by simp[results,results198,go_sem]) rfl (Cw (Ej P _ n s))
theorem bL (a b c:Value)(w:World):Sem.run prog (callFunc 198 #[a,b,c]) w=.ok (.enter 198 #[a,b,c]) w:=by kernel_rfl
theorem wT (n:Nat)(P:Nat->Prop)(i j:Int)(w:World):Calls prog 204 #[.int .i64 i,.int .i64 j] w (Bd P w (n+1) (Cu (wrap64 (i+j)):Ag (AV n))):=by
 go_enter func204,ntmps204
 go_wp2_with fail
 exact Ae2 (v:=.agg #[.iface 2 (.int .i64 (wrap64 (i+j)))]) (by simp[results,results204,go_sem]) rfl (Cw (K6 P _ n _))
theorem sT (a b:Value)(w:World):Sem.run prog (callFunc 204 #[a,b]) w=.ok (.enter 204 #[a,b]) w:=by kernel_rfl
theorem wU (n:Nat)(P:Nat->Prop)(i j:Int)(w:World):Calls prog 205 #[.int .i64 i,.int .i64 j] w (Bd P w (n+1) (Cu (wrap64 (i-j)):Ag (AV n))):=by
 go_enter func205,ntmps205
 go_wp2_with fail
 exact Ae2 (v:=.agg #[.iface 2 (.int .i64 (wrap64 (i-j)))]) (by simp[results,results205,go_sem]) rfl (Cw (K6 P _ n _))
theorem sV (a b:Value)(w:World):Sem.run prog (callFunc 205 #[a,b]) w=.ok (.enter 205 #[a,b]) w:=by kernel_rfl
theorem wV (n:Nat)(P:Nat->Prop)(i j:Int)(w:World):Calls prog 206 #[.int .i64 i,.int .i64 j] w (Bd P w (n+1) (Cu (wrap64 (i*j)):Ag (AV n))):=by
 go_enter func206,ntmps206
 go_wp2_with fail
 exact Ae2 (v:=.agg #[.iface 2 (.int .i64 (wrap64 (i*j)))]) (by simp[results,results206,go_sem]) rfl (Cw (K6 P _ n _))
theorem sW (a b:Value)(w:World):Sem.run prog (callFunc 206 #[a,b]) w=.ok (.enter 206 #[a,b]) w:=by kernel_rfl
theorem wW (n:Nat)(P:Nat->Prop)(i j:Int)(w:World):Calls prog 207 #[.int .i64 i,.int .i64 j] w (Bd P w (n+1) (if j=0 then Ar else Cu (wrap64 (i.tdiv j)):Ag (AV n))):=by
 by_cases a:j=0
 ·subst a;rw[if_pos rfl];go_enter func207,ntmps207
  go_wp2_with fail
  exact Ae2 (v:=.agg #[.nilIface]) (by simp[results,results207,go_sem]) rfl (Cw (Gk P _ n))
 ·rw[if_neg a];have b:(j==0)=false:=by simpa using a
  go_enter func207,ntmps207
  go_wp2_with fail
  exact Ae2 (v:=.agg #[.iface 2 (.int .i64 (wrap64 (i.tdiv j)))]) (by simp[results,results207,go_sem]) rfl (Cw (K6 P _ n _))
theorem eO (a b:Value)(w:World):Sem.run prog (callFunc 207 #[a,b]) w=.ok (.enter 207 #[a,b]) w:=by kernel_rfl
theorem wX (n:Nat)(P:Nat->Prop)(i j:Int)(w:World):Calls prog 208 #[.int .i64 i,.int .i64 j] w (Bd P w (n+1) (if j=0 then Ar else Cu (i.tmod j):Ag (AV n))):=by
 by_cases a:j=0
 ·subst a;rw[if_pos rfl];go_enter func208,ntmps208
  go_wp2_with fail
  exact Ae2 (v:=.agg #[.nilIface]) (by simp[results,results208,go_sem]) rfl (Cw (Gk P _ n))
 ·rw[if_neg a];have b:(j==0)=false:=by simpa using a
  go_enter func208,ntmps208
  go_wp2_with fail
  exact Ae2 (v:=.agg #[.iface 2 (.int .i64 (i.tmod j))]) (by simp[results,results208,go_sem]) rfl (Cw (K6 P _ n _))
theorem eP (a b:Value)(w:World):Sem.run prog (callFunc 208 #[a,b]) w=.ok (.enter 208 #[a,b]) w:=by kernel_rfl
section
attribute [local go_sem] Na Nb Jq Jr Fy Fz Ga Gb Ln Nc I6 I7 Fe Ff Fg Fh Hr Hs Gc Gd Ea Eb Ec Ed Ht Hu Ge Gf Ee Ef Eg Eh Gw Hv Fj Fk Dq Dr Ds Dt Gx Hw Fl Fm Du Dv Dw Dx
def Cs (m:Nat)(a:Int)(len:Nat):List (AV (m+1)):=(List.range len).map fun(i:Nat)=>Yg m (a+(i:Int))
theorem Fx (m:Nat)(a:Int)(len:Nat):(Cs m a len).length=len:=by simp[Cs]
theorem Tw (m:Nat)(a:Int)(len i:Nat)(h:i<len):(Cs m a len)[i]?=some (Yg m (a+(i:Int))):=by
 simp[Cs,h]
theorem Jl (m:Nat)(a:Int)(len:Nat):wtL (wt (m+1)) (Cs m a len)=len:=by
 rw[Vf _ _ ?_,Fx];intro x b;obtain⟨i,_,rfl⟩:=List.mem_map.1 b;rfl
theorem bM (m:Nat)(a:Int)(len:Nat):∀x∈Cs m a len,wt (m+1) x<=1024:=by
 intro x b;obtain⟨i,_,rfl⟩:=List.mem_map.1 b;exact(by decide:1<=1024)
def Fd (i j:Int):Nat:=(j-i+1).toNat
theorem oW (m:Nat)(P:Nat->Prop)(w:World)(i j:Int)(hi:-9223372036854775808<=i/\i<=9223372036854775807)(hj:-9223372036854775808<=j/\j<=9223372036854775807)(hP:∀k,w.heap.size<=k->P k) :
  Calls prog 209 #[.int .i64 i,.int .i64 j] w (Bd P w (m+2) (mkS (wt (m+1)) (Cs m i (Fd i j)))):=by
 have F:Hid _:=hP;clear hP;by_cases h0:j<i
 ·have R:Fd i j=0:=by unfold Fd;omega
  rw[R];have D:Hid _:=fun(W:World) (hW:w.heap.size<W.heap.size)=>Dh (m+1) (fun k=>P k/\k≠w.heap.size) W none 0 0 [] ⟨rfl,by decide,.inl rfl⟩ (fun k hk=>⟨F.out k (by omega),by omega⟩) (by simp) (by simp);clear R hi hj;go_enter func209,ntmps209
  go_wp2_with (go_at_call 220;refine(D.out _ (by simp)).mono ?_;rintro e A ⟨v,rfl,c,h⟩;obtain⟨N,x1,x2⟩:=Kf h;have C:Hid (Ac w A):=h.of_alloc;have st:=Ae (c.rep _ _ _).one;have G:Hid (Aj _ A (m+2) _ v):=c;clear h c)
  have L:=World.cell?_setCell_same _ _ v N;refine Ae2 (v:=.agg #[v]) (by simp[results,results209,go_sem,L]) rfl ⟨_,rfl,(C.out.setNew (Ad9 _) _).below,?_⟩;exact G.out.boxed (w:=w) v rfl
 ·obtain⟨i0,p,r,s,t⟩:=info_parts Gn;obtain⟨a,f⟩:∃a,Fd i j=a:=⟨_,rfl⟩;have X:j-i+1=(a:Int):=by unfold Fd at f;omega
  rw[f];have Q:IntKind.u64.wrap (IntKind.u64.wrap j-IntKind.u64.wrap i)=(a:Int)-1:=by simp only[IntKind.wrap_u64];omega
  clear f;by_cases h1:1024<a
  ·have o:Hid (mkS (wt (m+1)) (Cs m i a)=Ar):=by
    show _=_;unfold mkS;rw[if_neg (by rw[Jl];omega)]
   rw[o.out];clear o p r s t;go_enter func209,ntmps209
   go_wp2_with fail
   exact Ae2 (by simp[results,results209,go_sem]) rfl (Cw (Gk P _ (m+1)))
  ·obtain⟨w1,n,M,S⟩:=run_make_full (w.alloc (.cells #[.nilIface] 23)) (w.heap.size+1) 47 23 i0 _ 1 underlying47 p r s .i64 .i64 a (by rw[t];omega) (by unfold maxLen;omega) (by simp);clear p r s t;simp only[World.size_alloc] at n M;go_enter func209,ntmps209
   go_wp2_with fail
   go_loopw [25] (fun q wr=>∃k:Nat,k<=a/\q=.int .i64 k/\Hid (∃u,wr.ownsRow (w.heap.size+1) 23 1 (.slice (some ⟨w.heap.size+1,0,none⟩) a a) a u/\∀j,j<k->u[j]?=some (.iface 2 (.int .i64 (i+(j:Int)))))/\Hid (Below (w.heap.size+1) (w.alloc (.cells #[.nilIface] 23)) wr)) (fun i _=>a-(intOf i).toNat)
   case atStart=>exact⟨0,Ae1 _,rfl,⟨_,M,fun j hj=>by omega⟩,(Below.refl _ _).grown S (by simp) (fun k hk=>by simp at hk)⟩
   case round =>
    clear M S n;obtain⟨k,hk,rfl,E,B⟩:=hrel;obtain⟨u,l,K⟩:=E.out;have a0:u.length=a:=by have:=l.1;omega
    have H:Hid _:=K;by_cases Y:k<a
    ·have J:=l.cellAt k (by omega);have V:wr.cell? ⟨w.heap.size+1,k,none⟩=some u[k]:=by rw[J,List.getElem?_eq_getElem (by omega)]
     have hf:=l.frozenAt k;have o:=l.stored k (.iface 2 (.int .i64 (i+(k:Int))));have o:Hid (_/\_):=o;clear J K l E;go_wp2_with fail
     go_roundw
     case rel =>
      refine⟨k+1,by omega,by go_num,⟨u.set k (.iface 2 (.int .i64 (i+(k:Int)))),?_,fun j hj=>?_⟩,?_⟩
      ·exact o.out.1
      ·by_cases e:j=k
       ·subst e;rw[List.getElem?_set_self (by omega)]
       ·rw[List.getElem?_set_ne (by omega)];exact H.out j (by omega)
      ·exact B.out.grown o.out.2 (by simpa using B.out.size) (fun q hq=>by simp at hq;omega)
     case measure=>simp[intOf];omega
    ·obtain rfl:k=a:=by omega
     have g:Bv (fun q=>P q/\q≠w.heap.size) wr (Aj (fun q=>P q/\q≠w.heap.size) wr (m+1)) (some ⟨w.heap.size+1,0,none⟩) k (Cs m i k):=by
      refine⟨(Fx m i k).symm,by omega,.inr ⟨_+1,0,rfl,?_,⟨F.out _ (by omega),by omega⟩,fun q x hix=>?_⟩⟩
      ·have J:=l.cellAt 0 (by omega);rcases l.2 with⟨y,_⟩|⟨g',O,T,y,_,h,_⟩
       ·simp at y
       ·simp at y;obtain⟨rfl,_⟩:=y;exact Aa h
      ·have z:=by have:=(List.getElem?_eq_some_iff.1 hix).1;rw[Fx] at this;exact this
       rw[Tw m i k q z] at hix;simp only[Option.some.injEq] at hix;subst hix;refine⟨_,?_,.inr (.inr (.inl ⟨_,rfl,rfl⟩))⟩;rw[Nat.zero_add,l.cellAt q (by omega),H.out q z]
     have Z:w.heap.size+1<wr.heap.size:=by
      rcases g.2.2 with y|⟨b,a1,e,U,_⟩
      ·omega
      ·simp at e;rw[e.1];exact U
     have D:Hid (Calls _ _ _ _ _):=Dh (m+1) _ wr _ k k _ g (fun q hq=>⟨F.out q (by omega),by omega⟩) (bM m i k) (by rw[Fx];omega);have d:=(B.out.block w.heap.size (by omega)).trans (Af rfl);have I:Hid (wr.heap[w.heap.size]?=_):=d;clear g d K l E H;go_wp2_with (go_at_call 220;refine D.out.mono ?_;rintro e A ⟨v,rfl,c,h⟩;have d:=Ac1 h.below I.out;have N:=Ab d 0;have x1:=Ad d 0;have C:Hid (Ac wr A):=h;have st:=Ae (c.rep _ _ _).one;have G:Hid (Aj _ A (m+2) _ v):=c;clear h c d)
     have L:=World.cell?_setCell_same _ _ v N;refine Ae2 (by simp[results,results209,go_sem,L]) rfl ⟨_,rfl,?_,G.out.boxed (w:=w) v rfl⟩;exact(((Below.refl _ w).alloc (Ad9 _) _).trans ((B.out.mono (by omega)).trans (C.out.below.mono (by omega)))).setCell (Ad9 _) _
theorem oX (a b:Value)(w:World):Sem.run prog (callFunc 209 #[a,b]) w=.ok (.enter 209 #[a,b]) w:=by kernel_rfl
end
theorem wY (n:Nat)(P:Nat->Prop)(w:World)(a:Option Addr)(cap:Nat)(x:AV n)(h:Bv P w (Aj P w n) a 1 [x]):Calls prog 210 #[.slice a 1 cap] w (Bd P w (n+1) (match Au n x with|some i=>Cu (wrap64 (-i))|none=>Ar:Ag (AV n))):=by
 obtain⟨b,g,v,rfl,f,j,d⟩:=lU h;have c:=W7 (d.rep _ _ _);clear h d;cases e:Au n x with
 | none =>
  rw[e] at c;go_enter func210,ntmps210
  go_wp2_with fail
  exact Ae2 (v:=.agg #[.nilIface]) (by simp[results,results210,go_sem]) rfl (Cw (Gk P _ n))
 | some i =>
  rw[e] at c;go_enter func210,ntmps210
  go_wp2_with fail
  exact Ae2 (v:=.agg #[.iface 2 (.int .i64 (wrap64 (-i)))]) (by simp[results,results210,go_sem]) rfl (Cw (K6 P _ n _))
theorem Si {P:Nat->Prop}{w:World}{n:Nat}{x:Ag (AV n)}{v:Value}(h:Aj P w (n+1) x v):(∃b,x=Bt x.keys/\Dy P w (Aj P w n) (wt n) b x.keys/\v=.iface 121 (.pointer (some ⟨b,0,none⟩))/\∀W:World,(Instr.typeAssert v 20 121 true).run prog W=.ok (.tuple #[.pointer (some ⟨b,0,none⟩),.bool true]) W)\/(x.kind≠5/\∀W:World,(Instr.typeAssert v 20 121 true).run prog W=.ok (.tuple #[.pointer none,.bool false]) W):=by
 rcases h with⟨rfl,rfl⟩|⟨b,rfl,rfl⟩|⟨i,rfl,rfl⟩|⟨s,rfl,rfl⟩|⟨s,rfl,rfl⟩|⟨c,b,rfl,rfl,a⟩|⟨e,f,b,d,rfl,rfl,_⟩
 ·exact .inr ⟨by simp[Ar],fun W=>Gw W⟩
 ·exact .inr ⟨by simp[Bj],fun W=>Fj _ W⟩
 ·exact .inr ⟨by simp[Cu],fun W=>Fk _ W⟩
 ·exact .inr ⟨by simp[Dm],fun W=>Dq _ W⟩
 ·exact .inr ⟨by simp[D9],fun W=>Dr _ W⟩
 ·exact .inl ⟨b,rfl,a,rfl,fun W=>Ds _ W⟩
 ·exact .inr ⟨by simp[Dd],fun W=>Dt _ W⟩
theorem sX {P:Nat->Prop}{w:World}{n:Nat}{x:Ag (AV n)}{v:Value}(h:Aj P w (n+1) x v):(∃b d,x=Dd x.keys x.vals/\FnP P w (Aj P w n) (Au n) (wt n) b d x.keys x.vals/\v=.iface 125 (.pointer (some ⟨b,0,none⟩))/\∀W:World,(Instr.typeAssert v 20 125 true).run prog W=.ok (.tuple #[.pointer (some ⟨b,0,none⟩),.bool true]) W)\/(x.kind≠6/\∀W:World,(Instr.typeAssert v 20 125 true).run prog W=.ok (.tuple #[.pointer none,.bool false]) W):=by
 rcases h with⟨rfl,rfl⟩|⟨b,rfl,rfl⟩|⟨i,rfl,rfl⟩|⟨s,rfl,rfl⟩|⟨s,rfl,rfl⟩|⟨c,b,rfl,rfl,a⟩|⟨e,f,b,d,rfl,rfl,a⟩
 ·exact .inr ⟨by simp[Ar],fun W=>Gx W⟩
 ·exact .inr ⟨by simp[Bj],fun W=>Fl _ W⟩
 ·exact .inr ⟨by simp[Cu],fun W=>Fm _ W⟩
 ·exact .inr ⟨by simp[Dm],fun W=>Du _ W⟩
 ·exact .inr ⟨by simp[D9],fun W=>Dv _ W⟩
 ·exact .inr ⟨by simp[Bt],fun W=>Dw _ W⟩
 ·exact .inl ⟨b,d,rfl,a,rfl,fun W=>Dx _ W⟩
theorem Sj (b off len cap:Nat)(W:World):(Instr.slice 47 (.slice (some ⟨b,off,none⟩) (len+1) cap) (some (.int .i64 1)) none none).run prog W=.ok (.slice (some ⟨b,if cap=1 then off else off+1,none⟩) len (cap-1)) W:=by
 have a:prog.underlying 47=some (.slice (prog.elem 47)):=by simp[Program.elem,underlying47]
 have d:prog.elem 47=23:=by simp[Program.elem,underlying47]
 have e:∀w,(Go.sizeOf 23).run prog w=.ok 1 w:=fun w=>by kernel_rfl
 rw[run_slice_l W 47 _ _ _ a .i64 _ (by omega) (by omega),d,e];by_cases c:cap=1
 ·simp[Result.andThen,sliced,c]
 ·simp[Result.andThen,sliced,Addr.add,c]
def zR (k:FuncId)(cs:Array Value)(gs:Array Value)(w:World)(Q:Ending->World->Prop):Prop :=
 ∃args,Sem.run prog (callFunc k (gs++cs)) w=.ok (.enter k args) w/\Calls prog k args w Q
theorem jH (n:Nat)(w:World)(a:Option Addr)(len cap:Nat)(es:List (AV n))(x:AV n)(v:Value)(h1:Jw w (Rep w n) a len es)(hx:Rep w n x v)(hA:Asc (Al n) es) :
  Calls prog 309 #[.slice a len cap,.agg #[v],.func (.func 17) #[] #[]] w (Zh n w es x):=by
 obtain⟨Y,b1,H⟩:=h1;have F:Hid (len=es.length):=Y;clear Y;have st:=Ae hx.one;have X:Hid (Rep w n x v):=hx;have L:Hid (Asc (Al n) es):=hA;clear hx hA;have mo:=follows;go_enter func309,ntmps309
 go_wp2_with fail
 have M:Hid ((w.alloc _).heap[w.heap.size]?=some (.cells #[v] 23 (0,0))):=Af rfl;have K:Hid (Ac w (w.alloc (.cells #[v] 23))):=(Ac.refl w).alloc _;generalize w.alloc _=W0 at M K |-;go_loopw [9,10] (fun s t wr=>∃(i j:Nat),s=.int .i64 i/\t=.int .i64 j/\i<=j/\j<=len/\Hid (∀(k:Nat)(y:AV n),es[k]?=some y->(k<i->Al n y x<0)/\(j<=k->0<=Al n y x))/\Hid (Ac w wr)/\Hid (wr.heap[w.heap.size]?=some (.cells #[v] 23 (0,0)))) (fun s t _=>(intOf t).toNat-(intOf s).toNat)
 case atStart=>exact⟨0,len,rfl,rfl,Ae1 _,Ad9 _,fun k y hy=>⟨fun h=>by omega,fun h=>by
  have:=(List.getElem?_eq_some_iff.1 hy).1;have:=F.out;omega⟩,K,M⟩
 case round =>
  clear K M;obtain⟨i,j,rfl,rfl,a7,hj,z,f,B⟩:=hrel;by_cases a8:i<j
  ·obtain⟨h,Z⟩:∃h,h=(i+j) / 2:=⟨_,rfl⟩;have E:h<es.length:=by rw[<- F.out];omega
   obtain⟨T,S,rfl,l,g⟩:=H.resolve_left (by omega);have c:=List.getElem?_eq_getElem E;obtain⟨u,m,d⟩:=g h es[h] c;have su:=Ae d.one;have U:=Ad8 l f.out.below.size;have V:=Aa B.out;have G:=(f.out.below.cell (p:=⟨T,S+h,none⟩) l).trans m;have Q:=cell_grown U G;have R:=cell_grown V (Ab B.out 0);have ea:(((i:Int)+(j:Int)) / 2).toNat=h:=by omega
   have pa:(0:Int)<=((i:Int)+(j:Int)) / 2:=by omega
   have ba:((i:Int)+(j:Int)) / 2<(len:Int):=by omega
   have rb:IntKind.u64.wrap ((i:Int)+(j:Int))=(i:Int)+(j:Int):=by rw[IntKind.wrap_u64];omega
   have ra:IntKind.i64.wrap (((i:Int)+(j:Int)) / 2)=((i:Int)+(j:Int)) / 2:=by rw[IntKind.wrap_i64];omega
   have b:Hid _:=fun(W:World) (hW:_)=>Ia n W es[h] x u v (d.grew hW) (X.out.grew hW);have A:Hid (Al n es[h] x<0->∀(k:Nat)(y:AV n),es[k]?=some y->(k<h+1->Al n y x<0)/\_):=fun e k y hy=>by
    refine⟨fun hk=>?_,(z.out k y hy).2⟩;by_cases q:k=h
    ·subst q;rw[c] at hy;rw[<- Option.some.inj hy];exact e
    ·exact dK (Mo L.out (by omega) hy c) e
   have r:Hid (0<=Al n es[h] x->∀(k:Nat)(y:AV n),es[k]?=some y->_/\(h<=k->0<=Al n y x)):=fun e k y hy=>by
    refine⟨(z.out k y hy).1,fun hk=>?_⟩;by_cases q:k=h
    ·subst q;rw[c] at hy;rw[<- Option.some.inj hy];exact e
    ·have N:=Mo L.out (show h<k by omega) c hy;have a2:=(ord n).anti es[h] y;have a3:=(ord n).trans y es[h] x;have a4:=(ord n).rng y x;by_cases q2:0<=Al n y x
     ·exact q2
     ·have a5:=dK N (show Al n y x<0 by omega);omega
   clear g m d H G;have a0:i<=h:=by omega
   have a6:h<j:=by omega
   have HH:Hid (h=(i+j) / 2):=Z;clear Z;generalize Al n es[h] x=cv at b A r;go_wp2_with fail
   go_quiet_grown (first|(go_at_call 17;refine Ae3 (b.out _ (f.out.grown _ _))))
   have o:Hid (Ac w (grow (wr.drewN nq) osq)):=f.out.grown _ _;have J:Hid _:=Ac1 (Ac.below ⟨nq,osq,rfl⟩) B.out;show Exit.then _ _ _ _ (grow (wr.drewN nq) osq);clear Q R b f B;generalize grow _ osq=W1 at o J |-;clear nq osq ea pa ba ra rb;have hr:((i:Int)+(j:Int)) / 2=(h:Int):=by have:=HH.out;omega
   by_cases O:cv<0
   ·have P:decide (cv<0)=true:=by simp[O]
    have D:Hid _:=A.out O;clear A r z;go_wp2_with fail
    go_roundw
    case rel=>exact⟨h+1,j,by go_num,rfl,by omega,by omega,D,o,J⟩
    case measure=>simp[intOf];omega
   ·have P:decide (cv<0)=false:=by simp[O]
    have D:Hid _:=r.out (by omega);clear A r z;go_wp2_with fail
    go_roundw
    case rel=>exact⟨i,h,rfl,by go_num,by omega,by omega,D,o,J⟩
    case measure=>simp[intOf];omega
  ·obtain rfl:i=j:=by omega
   by_cases hn:i<len
   ·have E:i<es.length:=by rw[<- F.out];omega
    obtain⟨T,S,rfl,l,g⟩:=H.resolve_left (by omega);have c:=List.getElem?_eq_getElem E;obtain⟨u,m,d⟩:=g i es[i] c;have su:=Ae d.one;have U:=Ad8 l f.out.below.size;have V:=Aa B.out;have G:=(f.out.below.cell (p:=⟨T,S+i,none⟩) l).trans m;have Q:=cell_grown U G;have R:=cell_grown V (Ab B.out 0);have b:Hid _:=fun(W:World) (hW:_)=>Ia n W es[i] x u v (d.grew hW) (X.out.grew hW);have I:Hid (Mn n es x i (Al n es[i] x==0)):=by
     refine⟨by omega,fun e=>?_,fun e k y hy=>?_⟩
     ·have e2:=(Em n _ _).1 (by simpa using e);rw[c,e2]
     ·refine⟨(z.out k y hy).1,fun hk=>?_⟩;have h0:=(z.out k y hy).2 hk;by_cases q:k=i
      ·subst q;rw[c] at hy;rw[<- Option.some.inj hy] at h0 |-;have:Al n es[k] x≠0:=by simpa using e
       omega
      ·have N:=Mo L.out (show i<k by omega) c hy;have a2:=(z.out i _ c).2 (Ad9 _);have a3:=(ord n).anti es[i] x;have a4:=cM (ord n) (show Al n x es[i]<=0 by omega) N;have a5:=(ord n).anti x y;omega
    clear g m d H G c;generalize (Al n es[i] x)=cv at b I;go_wp2_with fail
    go_quiet_grown (first|(go_at_call 17;refine Ae3 (b.out _ (f.out.grown _ _))))
    have o:Hid (Ac w (grow (wr.drewN nq) osq)):=f.out.grown _ _;show Exit.then _ _ _ _ (grow (wr.drewN nq) osq);clear Q R b f B;generalize grow (wr.drewN nq) osq=W1 at o |-;clear nq osq;go_wp2_with fail
    go_ret2
    exact⟨i,cv==0,rfl,o.out,I.out⟩
   ·have C:Mn n es x i false:=⟨by rw[<- F.out];omega,fun e=>(by cases e),fun _ k y hy=>⟨(z.out k y hy).1,fun hk=>by
     have:=(List.getElem?_eq_some_iff.1 hy).1;have:=F.out;omega⟩⟩
    have I:Hid (Mn n es x i false):=C;clear C H z;go_wp2_with fail
    go_quiet (fail)
    have o:Hid (Ac w _):=f.out.drewN nq;clear f B;generalize wr.drewN nq=W1 at o |-;go_wp2_with fail
    go_ret2
    exact⟨i,false,rfl,o.out,I.out⟩
theorem jI (n:Nat)(w:World)(a:Option Addr)(len cap:Nat)(es:List (AV n))(x:AV n)(v:Value)(h1:Jw w (Rep w n) a len es)(hx:Rep w n x v)(hA:Asc (Al n) es) :
  Calls prog 309 #[.slice a len cap,.agg #[v],.func (.func 17) #[] #[]] w fun e w'=>e=.returned (.tuple #[.int .i64 (B6 n es x),.bool (Ch n es x)])/\Ac w w':=by
 refine(jH n w a len cap es x v h1 hx hA).mono ?_;rintro e w' ⟨i,f,rfl,b,c⟩;obtain⟨rfl,rfl⟩:=c.one hA;exact⟨rfl,b⟩
theorem Qj (n:Nat)(w:World)(b:Nat)(es:List (AV n))(x:AV n)(v:Value)(h1:Kx w (Rep w n) (wt n) b es)(hx:Rep w n x v)(hA:Asc (Al n) es) :
  Calls prog 277 #[.pointer (some ⟨b,0,none⟩),.agg #[v]] w fun e w'=>e=.returned (.tuple #[.int .i64 (B6 n es x),.bool (Ch n es x)])/\Ac w w':=by
 obtain⟨a,f,d,j,r⟩:=h1;have o:Hid _:=fun W hW=>jI n W a f d es x v (r.below hW.below fun y u=>Rep.below hW.below n y u) (hx.grew hW) hA;have B:=Ae hx.one;have q:=Ab j 0;have s:=Aa j;have c:Hid (Ac w (w.alloc (.cells #[v] 23))):=(Ac.refl w).alloc _;clear j r hx hA;have A:=follows;go_enter func277,ntmps277
 go_wp2_with fail
 have h:(w.alloc (.cells #[v] 23)).cell? _=some (.slice a f d):=(c.out.below.cell (p:=⟨b,0,none⟩) s).trans q;have g:Hid ((w.alloc _).heap[w.heap.size]?=some (.cells #[v] 23 (0,0))):=Af rfl;have i:=Ab g.out 0;have k:=Aa g.out;have l:=Ad8 s c.out.below.size;clear q;generalize w.alloc _=W0 at c g h i k l |-;have t:=cell_grown l h;have z:=cell_grown k i;go_quiet_grown (first|(go_at_call 309;refine Ae3 (o.out _ (c.out.grown _ _))))
 have m:Hid (Ac w (grow (W0.drewN nq) osq)):=c.out.grown _ _;show Exit.then _ _ _ _ (grow (W0.drewN nq) osq);clear t z h i k l g c o;generalize grow (W0.drewN nq) osq=W1 at m |-;clear nq osq;go_wp2_with fail
 go_ret2
 exact⟨rfl,m.out⟩
theorem Uz (n:Nat)(w:World)(b:Nat)(es:List (AV n))(x:AV n)(v:Value)(h1:Kx w (Rep w n) (wt n) b es)(hx:Rep w n x v)(hA:Asc (Al n) es) :
  Calls prog 216 #[.pointer (some ⟨b,0,none⟩),.agg #[v]] w fun e w'=>e=.returned (.bool (Ch n es x))/\Ac w w':=by
 have c:Hid _:=fun W hW=>Qj n W b es x v (h1.below hW.below fun y u=>Rep.below hW.below n y u) (hx.grew hW) hA;have h:=Ae hx.one;have a:Hid (Ac w (w.alloc (.cells #[v] 23))):=(Ac.refl w).alloc _;clear h1 hx hA;go_enter func216,ntmps216
 go_wp2_with fail
 generalize w.alloc _=W0 at a |-;refine(c.out W0 a.out).mono ?_;rintro e g ⟨rfl,d⟩;have f:Hid (Ac w g):=a.out.trans d;clear d a c;go_wp2_with fail
 go_ret
 exact⟨rfl,f.out⟩
theorem oY (n:Nat)(w:World)(b:Nat)(es:List (AV n))(x:AV n)(v:Value)(h1:Kx w (Rep w n) (wt n) b es)(hx:Rep w n x v)(hA:Asc (Al n) es) :
  Calls prog 222 #[.pointer (some ⟨b,0,none⟩),.agg #[v]] w fun e w'=>e=.returned (.bool (!Ch n es x))/\Ac w w':=by
 have c:Hid _:=fun W hW=>Uz n W b es x v (h1.below hW.below fun y u=>Rep.below hW.below n y u) (hx.grew hW) hA;have h:=Ae hx.one;have a:Hid (Ac w (w.alloc (.cells #[v] 23))):=(Ac.refl w).alloc _;clear h1 hx hA;go_enter func222,ntmps222
 go_wp2_with fail
 generalize w.alloc _=W0 at a |-;refine(c.out W0 a.out).mono ?_;rintro e g ⟨rfl,d⟩;have f:Hid (Ac w g):=a.out.trans d;clear d a c;go_wp2_with fail
 go_ret
 exact⟨rfl,f.out⟩
theorem jJ (n:Nat)(P:Nat->Prop)(w:World)(a:Option Addr)(cap:Nat)(x:AV (n+1))(y:Ag (AV n))(h:Bv P w (Aj P w (n+1)) a 2 [x,(y:AV (n+1))])(x':AV n)(hx:up n x'=x)(hA:y.kind=5->Asc (Al n) y.keys) :
  Calls prog 212 #[.slice a 2 cap] w (Bd P w (n+1) (Bj (decide (y.kind=5)&&Ch n y.keys x'):Ag (AV n))):=by
 obtain⟨b,F,v,u,rfl,C,G,H,d,o⟩:=Mw h;have K:=Ae (d.rep _ _ _).one;have k:Hid ((w.alloc _).heap[w.heap.size]?=some (.cells #[.nilIface] 23 (0,0))):=Af rfl;have g:Hid (Ac w (w.alloc (.cells #[.nilIface] 23))):=(Ac.refl w).alloc _;rcases Si o with⟨B,c,q,-,A⟩|⟨c,A⟩
 ·have m:y.kind=5:=by rw[c];rfl
  have f:=by rw[<- hx] at d;exact(Lj P w n x' v).1 d
  have j:Hid _:=fun W hW=>Uz n W B y.keys x' v ((q.set (Aj.rep n)).below hW.below fun y u=>Rep.below hW.below n y u) ((f.rep _ _ _).grew hW) (hA m);rw[decide_eq_true m,Bool.true_and];clear h d f o q c hA m hx;generalize Ch n y.keys x'=s at j |-;have E:=follows;go_enter func212,ntmps212
  go_wp2_with fail
  generalize w.alloc _=W0 at k g |-;refine(j.out W0 g.out).mono ?_;rintro e r ⟨rfl,l⟩;have p:Hid (Ac w r):=g.out.trans l;have i:Hid _:=Ac1 l.below k.out;clear l k g j;have t:Hid (Bd P w (n+1) _ _ _):=⟨_,rfl,(A6 (P:=P) p.out.below (Ej _ _ n s)).1,(A6 p.out.below (Ej _ _ n s)).2⟩;have z:Hid ((r.setCell _ _).heap[w.heap.size]?=some (.cells #[.iface 4 (.bool s)] 23 (0,0))):=Ai i.out 0 _;have I:=Ab i.out 0;have J:=Ad i.out 0;have L:=Aa i.out;go_wp2_with fail
  have D:=Ab z.out 0;exact Ae2 (by simp[results,results212,go_sem,D]) rfl t.out
 ·rw[decide_eq_false c,Bool.false_and];clear h d o c hA hx;have E:=follows;go_enter func212,ntmps212
  go_wp2_with fail
  exact Ae2 (by simp[results,results212,go_sem]) rfl (Cw (Ej P _ n false))
theorem oZ (n:Nat)(P:Nat->Prop)(w:World)(b:Nat)(es:List (AV n))(o:Value)(h:Dy P w (Aj P w n) (wt n) b es) :
  Calls prog 224 #[.pointer (some ⟨b,0,none⟩),o] w (Bd P w (n+1) (Cu (es.length:Int):Ag (AV n))):=by
 obtain⟨_,a,f,d,c,e⟩:=h;obtain⟨rfl,i,-⟩:=e;have g:=Ab c 0;have k:=Aa c;have j:IntKind.i64.wrap (es.length:Int)=(es.length:Int):=by rw[IntKind.wrap_i64];omega
 clear c;go_enter func224,ntmps224
 go_wp2_with fail
 exact Ae2 (by simp[results,results224,go_sem]) rfl (Cw (K6 P _ n _))
theorem jK (n:Nat)(P:Nat->Prop)(w:World)(b d:Nat)(ks us:List (AV n))(o:Value)(h:FnP P w (Aj P w n) (Au n) (wt n) b d ks us) :
  Calls prog 233 #[.pointer (some ⟨b,0,none⟩),o] w (Bd P w (n+1) (Bt ks:Ag (AV n))):=by
 obtain⟨_,e,_,a,i,g,c,-⟩:=h;have j:=Ab c 0;have k:=Aa c;have f:Hid (Bd P w (n+1) _ _ (w.alloc (.cells #[_] 23))):=Cw (.inr (.inr (.inr (.inr (.inr (.inl ⟨ks,d,rfl,rfl,e.keep (Fr.grew ((Ac.refl w).alloc _))⟩))))));clear c e;go_enter func233,ntmps233
 go_wp2_with fail
 exact Ae2 (by simp[results,results233,go_sem]) rfl f.out
/-- a row that grows Bb what there was -/
structure Nq (P:Nat->Prop)(w wr:World)(n:Nat)(acc:List (AV n))(sl:Value):Prop where
 own:∃vs:List Value,wr.ownsRow w.heap.size 23 1 sl acc.length vs/\∀(i:Nat)(x:AV n),acc[i]?=some x->∃v,vs[i]?=some v/\Aj P w n x v
 low:Below w.heap.size w wr
theorem Nq.row {P:Nat->Prop}{w wr:World}{n:Nat}{acc:List (AV n)}{sl:Value}(h:Nq P w wr n acc sl)(hl:acc.length<=4294967296)(hP:∀k,w.heap.size<=k->P k):∃a cap,sl=.slice a acc.length cap/\(a=none\/∃b off,a=some ⟨b,off,none⟩)/\(a=none->acc.length=0)/\Bv P wr (Aj P wr n) a acc.length acc:=by
 obtain⟨r,f,q⟩:=h.own;have d:=f;rcases f.2 with⟨rfl,c⟩|⟨g,cap,j,rfl,p,o,_⟩
 ·exact⟨none,0,by rw[c],.inl rfl,fun _=>c,rfl,hl,.inl c⟩
 ·refine⟨_,cap,rfl,.inr ⟨g,0,rfl⟩,fun e=>by simp at e,rfl,hl,.inr ⟨g,0,rfl,Aa o,hP g p,fun i x hx=>?_⟩⟩;obtain⟨v,l,m⟩:=q i x hx;refine⟨v,?_,m.keep (Fr.below h.low)⟩;rw[Nat.zero_add,d.cellAt i (by have:=(List.getElem?_eq_some_iff.1 hx).1;omega)];exact l
theorem Nq.form {P:Nat->Prop}{w wr:World}{n:Nat}{acc:List (AV n)}{sl:Value}(h:Nq P w wr n acc sl):∃a cap,sl=.slice a acc.length cap:=by
 obtain⟨e,d,_⟩:=h.own;rcases d.2 with⟨rfl,c⟩|⟨g,cap,b,rfl,_⟩
 ·exact⟨none,0,by rw[c]⟩
 ·exact⟨_,_,rfl⟩
theorem eQ {w w':World}{base:Nat}{e:TypeId}{size:Nat}{sl:Value}{m:Nat}{xs:List Value}(h:w.ownsRow base e size sl m xs)(hb:Below w.heap.size w w'):w'.ownsRow base e size sl m xs:=by
 refine⟨h.1,?_⟩;rcases h.2 with c|⟨g,a,b,c,d,f,i⟩
 ·exact .inl c
 ·exact .inr ⟨g,a,b,c,d,Ac1 hb f,i⟩
theorem Nq.keep {P:Nat->Prop}{w wr w':World}{n:Nat}{acc:List (AV n)}{sl:Value}(h:Nq P w wr n acc sl)(hb:Below wr.heap.size wr w'):Nq P w w' n acc sl:=by
 obtain⟨c,a,b⟩:=h.own;exact⟨⟨c,eQ a hb,b⟩,h.low.trans (hb.mono h.low.size)⟩
theorem E9 {α:Type}(f:α->Bool)(l:List α)(k:Nat)(x:α)(h:l[k]?=some x):(l.take (k+1)).filter f=if f x then(l.take k).filter f++[x] else(l.take k).filter f:=by
 rw[List.take_add_one,h,Option.toList_some,List.filter_append];cases a:f x<;>simp[a]
theorem Sk (n:Nat)(P:Nat->Prop)(w:World)(b:Nat)(es:List (AV n))(h:Dy P w (Aj P w n) (wt n) b es)(g:FuncId)(q:Value)(f:AV n->Bool)
  (HC:∀(v:Value)(W:World),Sem.run prog (callFunc g #[q,.agg #[v]]) W=.ok (.enter g #[q,.agg #[v]]) W)
  (HF:∀(x:AV n)(v:Value)(W:World),Aj P w n x v->Below w.heap.size w W->Calls prog g #[q,.agg #[v]] W fun e w'=>e=.returned (.bool (f x))/\Ac W w') :
  Calls prog 215 #[.pointer (some ⟨b,0,none⟩),.func (.func g) #[q] #[]] w fun e w'=>∃sl,e=.returned sl/\Nq P w w' n (es.filter f) sl:=by
 obtain⟨_,a,o,a3,R,e1,hl,r1⟩:=h;obtain⟨i0,U,Z,a1,a2⟩:=info_parts Gn;have c0:=Ab R 0;have zb:=Aa R;have E1:Hid (o=es.length):=e1;have KF:Hid _:=HF;clear R e1 HF;go_enter func215,ntmps215
 go_wp2_with fail
 go_loopw [5,13] (fun sl i wr=>∃k:Nat,k<=o/\i=.int .i64 k/\Hid (Nq P w wr n ((es.take k).filter f) sl)) (fun _ i _=>o-(intOf i).toNat)
 case atStart=>exact⟨0,Ae1 _,rfl,⟨⟨[],World.ownsRow_nil _ _ _ _,fun i x hx=>by simp at hx⟩,Below.refl _ _⟩⟩
 case round =>
  obtain⟨k,hk,rfl,z⟩:=hrel;by_cases X:k<o
  ·have V:k<es.length:=by rw[<- E1.out];exact X
   obtain⟨p1,o1,rfl,I,_,G⟩:=r1.resolve_left (by omega);have B:=List.getElem?_eq_getElem V;obtain⟨v,J,m⟩:=G k es[k] B;have st:=Ae (m.rep _ _ _).one;have cc:=(m.rep _ _ _).one;have g0:=(z.out.low.cell (p:=⟨p1,o1+k,none⟩) I).trans J;have s1:=Ad8 I z.out.low.size;have a4:=HC v;have d:Hid (_=_):=E9 f es k es[k] B;have GB:Below _ wr (wr.alloc (.cells #[v] 23)):=((Ac.refl wr).alloc _).below;have O:Hid _:=z.out.low.trans (GB.mono z.out.low.size);have s:Hid (Calls _ g #[q,_] _ _):=KF.out es[k] v _ m O.out;have Q:Hid ((wr.alloc _).heap[wr.heap.size]?=some (.cells #[v] 23 (0,0))):=Af rfl;have HR:Hid (Aj P w n es[k] v):=m;clear G J m r1 GB B;generalize es[k]=x at d s HR;go_wp2_with fail
   have A:Nq P w (wr.alloc (.cells #[v] 23)) n _ u5:=z.out.keep ((Ac.refl wr).alloc _).below;clear g0 z;generalize wr.alloc _=W0 at O s Q A |-;have E:Hid _:=A;clear A;refine s.out.mono ?_;rintro e L ⟨rfl,r⟩;have l:Hid _:=E.out.keep r.below;have X1:Hid _:=Ac1 r.below Q.out;have z1:=Aa X1.out;have y0:=Ab X1.out 0;clear r Q s E O;cases hf:f x with
   | false =>
    rw[hf,if_neg (by simp)] at d;rw[<- d.out] at l;go_wp2_with fail
    go_roundw
    case rel=>exact⟨k+1,by omega,by go_num,l⟩
    case measure=>simp[intOf];omega
   | true =>
    rw[hf,if_pos rfl] at d;obtain⟨M,D,K⟩:=l.out.own;have N:Hid _:=K;have t:Hid _:=l.out.low;have S:((es.take k).filter f).length<=4294967296:=by
     have h1:=List.length_filter_le f (es.take k);have h2:=List.length_take_le k es;omega
    generalize (es.take k).filter f=acc at D N d S;have c:Hid ((L.alloc (.cells #[v] 23)).ownsRow _ 23 1 u5 _ M):=eQ D ((Ac.refl L).alloc _).below;have a5:=t.out.size;clear D K l;go_wp2_with (at_builtin;refine wpList_append_lies _ rfl _ _ 47 rfl _ 23 i0 _ 1 16 underlying47 U Z a1 a2 rfl (by decide) u5 _ M rfl c.out _ 1 1 [v] rfl rfl ?q1 ?q2 (by decide) ?q3 ?q4 ?q5 (L.heap.size+1) ?q6 ?_)
    case q1 =>
     intro j u hj
     match j,hj with
     | 0,hj =>
      simp at hj;subst hj;simp[Addr.add]
    case q2=>intro u hu;simp at hu;subst hu;exact cc
    case q3=>unfold maxLen;omega
    case q4=>omega
    case q5=>simp;omega
    case q6=>simp
    intro g' F w2 D r T H;have HN:Hid (Nq P w w2 n (acc++[x]) (.slice (some ⟨g',0,none⟩) (acc.length+1) F)):=by
     refine⟨⟨M++[v],by rw[List.length_append];exact D,fun i y hy=>?_⟩,?_⟩
     ·have Y:M.length=acc.length:=by have:=c.out.1;omega
      rcases Nat.lt_trichotomy i acc.length with h|h|h
      ·rw[List.getElem?_append_left h] at hy;obtain⟨u,h1,h2⟩:=N.out i y hy;exact⟨u,by rw[List.getElem?_append_left (by omega)];exact h1,h2⟩
      ·subst h;rw[List.getElem?_append_right (Nat.le_refl _)] at hy;simp at hy;subst hy;exact⟨v,by rw[List.getElem?_append_right (by omega)];simp[Y],HR.out⟩
      ·rw[List.getElem?_eq_none (by simp;omega)] at hy;cases hy
     ·have C:Below _ w (L.alloc (.cells #[v] 23)):=t.out.trans ((((Ac.refl L).alloc _).below).mono t.out.size);exact⟨r.os.trans C.os,r.tape.trans C.tape,r.output.trans C.output,Ae0 C.size r.size,fun j hj=>(r.block j (Ad8 hj C.size) (fun e=>by have:=(Vs c.out e.symm).1;omega)).trans (C.block j hj)⟩
    rw[<- d.out] at HN;clear D r T H c N t;go_wp2_with fail
    go_roundw
    case rel=>exact⟨k+1,by omega,by go_num,HN⟩
    case measure=>simp[intOf];omega
  ·obtain rfl:k=o:=by omega
   have HT:Hid (es.take k=es):=by
    show _=_;rw[E1.out];exact List.take_length
   rw[HT.out] at z;clear r1;go_wp2_with fail
   go_ret
   exact⟨_,rfl,z.out⟩
theorem eR (a b:Value)(w:World):Sem.run prog (callFunc 216 #[a,b]) w=.ok (.enter 216 #[a,b]) w:=by kernel_rfl
theorem jM (a b:Value)(w:World):Sem.run prog (callFunc 222 #[a,b]) w=.ok (.enter 222 #[a,b]) w:=by kernel_rfl
theorem Dy.boxed {P:Nat->Prop}{w w':World}{n b:Nat}{es:List (AV n)}(h:Dy P w (Aj P w n) (wt n) b es)(hb:Below w.heap.size w w'):Dy (fun k=>P k/\k≠w.heap.size) w' (Aj (fun k=>P k/\k≠w.heap.size) w' n) (wt n) b es :=
 h.fr (Fr.below hb) (fun x v=>Aj.fr (Fr.below hb) (fun k hk hp=>⟨hp,by omega⟩) n x v) (fun k hk hp=>⟨hp,by omega⟩)
theorem Zs {n:Nat}{es:List (AV n)}(f:AV n->Bool)(h:∀x∈es,wt n x<=1024):∀x∈es.filter f,wt n x<=1024:=fun x hx=>h x (List.mem_filter.1 hx).1
theorem pA (n:Nat)(P:Nat->Prop)(w:World)(b1 b2:Nat)(es fs:List (AV n))(h1:Dy P w (Aj P w n) (wt n) b1 es)(h2:Dy P w (Aj P w n) (wt n) b2 fs)(hA:Asc (Al n) fs)(hw:∀x∈es,wt n x<=1024)(hl:es.length<=4294967296)(hP:∀k,w.heap.size<=k->P k) :
  Calls prog 219 #[.pointer (some ⟨b1,0,none⟩),.pointer (some ⟨b2,0,none⟩)] w (Bd P w (n+1) (mkS (wt n) (es.filter (fun x=>Ch n fs x)))):=by
 have h:Hid (Ac w (w.alloc (.cells #[.nilIface] 23))):=(Ac.refl w).alloc _;have l:Hid ((w.alloc _).heap[w.heap.size]?=some (.cells #[.nilIface] 23 (0,0))):=Af rfl;have z:(w.alloc (.cells #[.nilIface] 23)).heap.size=w.heap.size+1:=by simp
 have f:Hid (Dy _ _ _ (wt n) b1 es):=h1.boxed h.out.below;have g:Hid (Dy _ _ _ (wt n) b2 fs):=h2.boxed h.out.below;have j:Hid _:=hP;have r:Hid (∀x∈es.filter (fun x=>Ch n fs x),wt n x<=1024):=Zs _ hw;have d:Hid ((es.filter (fun x=>Ch n fs x)).length<=4294967296):=Ae0 (List.length_filter_le _ _) hl;have p:Hid (Asc (Al n) fs):=hA;clear h1 h2 hP hw hl hA;have J:=follows;go_enter func219,ntmps219
 go_wp2_with fail
 generalize w.alloc _=W0 at h l z f g |-;refine(Sk n (fun k=>P k/\k≠w.heap.size) W0 b1 es f.out 216 (.pointer (some ⟨b2,0,none⟩)) (fun x=>Ch n fs x) (fun v W=>eR _ _ W) (fun x v W hx hb=>Uz n W b2 fs x v ((g.out.set (Aj.rep n)).below hb fun y u=>Rep.below hb n y u) ((hx.rep _ _ _).below hb n x v) p.out)).mono ?_;rintro e t ⟨M,rfl,b⟩;obtain⟨a,m,rfl,D,F,c⟩:=b.row d.out (fun k hk=>⟨j.out k (by omega),by omega⟩);have G:=b.low.size;have q:Hid (Calls _ 220 #[_] t _):=Dh n _ t a _ m _ c (fun k hk=>⟨j.out k (by omega),by omega⟩) r.out d.out;have B:Hid _:=Ac1 b.low l.out;have s:Hid _:=h.out.below.trans (b.low.mono h.out.below.size);clear b c D F r d f g l z p j;go_wp2_with fail
 refine q.out.mono ?_;rintro e I ⟨v,rfl,o,b⟩;have N:=Ae (o.rep _ _ _).one;have E:=A6 (s.out.trans (b.below.mono s.out.size)) o;have A:Hid (Bd P w (n+1) _ _ _):=⟨v,rfl,E.1,E.2⟩;have i:Hid _:=Ac1 b.below B.out;have C:Hid ((I.setCell _ v).heap[w.heap.size]?=some (.cells #[v] 23 (0,0))):=Ai i.out 0 v;have K:=Ab i.out 0;have L:=Ad i.out 0;have O:=Aa i.out;clear E b o q;go_wp2_with fail
 have H:=Ab C.out 0;exact Ae2 (by simp[results,results219,go_sem,H]) rfl A.out
theorem pB (n:Nat)(P:Nat->Prop)(w:World)(b1 b2:Nat)(es fs:List (AV n))(h1:Dy P w (Aj P w n) (wt n) b1 es)(h2:Dy P w (Aj P w n) (wt n) b2 fs)(hA:Asc (Al n) fs)(hw:∀x∈es,wt n x<=1024)(hl:es.length<=4294967296)(hP:∀k,w.heap.size<=k->P k) :
  Calls prog 221 #[.pointer (some ⟨b1,0,none⟩),.pointer (some ⟨b2,0,none⟩)] w (Bd P w (n+1) (mkS (wt n) (es.filter (fun x=>!Ch n fs x)))):=by
 have h:Hid (Ac w (w.alloc (.cells #[.nilIface] 23))):=(Ac.refl w).alloc _;have l:Hid ((w.alloc _).heap[w.heap.size]?=some (.cells #[.nilIface] 23 (0,0))):=Af rfl;have z:(w.alloc (.cells #[.nilIface] 23)).heap.size=w.heap.size+1:=by simp
 have f:Hid (Dy _ _ _ (wt n) b1 es):=h1.boxed h.out.below;have g:Hid (Dy _ _ _ (wt n) b2 fs):=h2.boxed h.out.below;have j:Hid _:=hP;have r:Hid (∀x∈es.filter (fun x=>!Ch n fs x),wt n x<=1024):=Zs _ hw;have d:Hid ((es.filter (fun x=>!Ch n fs x)).length<=4294967296):=Ae0 (List.length_filter_le _ _) hl;have p:Hid (Asc (Al n) fs):=hA;clear h1 h2 hP hw hl hA;have J:=follows;go_enter func221,ntmps221
 go_wp2_with fail
 generalize w.alloc _=W0 at h l z f g |-;refine(Sk n (fun k=>P k/\k≠w.heap.size) W0 b1 es f.out 222 (.pointer (some ⟨b2,0,none⟩)) (fun x=>!Ch n fs x) (fun v W=>jM _ _ W) (fun x v W hx hb=>oY n W b2 fs x v ((g.out.set (Aj.rep n)).below hb fun y u=>Rep.below hb n y u) ((hx.rep _ _ _).below hb n x v) p.out)).mono ?_;rintro e t ⟨M,rfl,b⟩;obtain⟨a,m,rfl,D,F,c⟩:=b.row d.out (fun k hk=>⟨j.out k (by omega),by omega⟩);have G:=b.low.size;have q:Hid (Calls _ 220 #[_] t _):=Dh n _ t a _ m _ c (fun k hk=>⟨j.out k (by omega),by omega⟩) r.out d.out;have B:Hid _:=Ac1 b.low l.out;have s:Hid _:=h.out.below.trans (b.low.mono h.out.below.size);clear b c D F r d f g l z p j;go_wp2_with fail
 refine q.out.mono ?_;rintro e I ⟨v,rfl,o,b⟩;have N:=Ae (o.rep _ _ _).one;have E:=A6 (s.out.trans (b.below.mono s.out.size)) o;have A:Hid (Bd P w (n+1) _ _ _):=⟨v,rfl,E.1,E.2⟩;have i:Hid _:=Ac1 b.below B.out;have C:Hid ((I.setCell _ v).heap[w.heap.size]?=some (.cells #[v] 23 (0,0))):=Ai i.out 0 v;have K:=Ab i.out 0;have L:=Ad i.out 0;have O:=Aa i.out;clear E b o q;go_wp2_with fail
 have H:=Ab C.out 0;exact Ae2 (by simp[results,results221,go_sem,H]) rfl A.out
end Go.Proofs.YtdpeliifdlhhkaaGreatDoor.Sx
