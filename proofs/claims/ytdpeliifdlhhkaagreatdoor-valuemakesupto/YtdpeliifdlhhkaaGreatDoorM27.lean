/- The reference: Apply. -/
import Derived.Test.YtdpeliifdlhhkaaGreatDoorM26
import Derived.Test.YtdpeliifdlhhkaaGreatDoorM20
import Derived.Test.YtdpeliifdlhhkaaGreatDoorM35
namespace Go.Proofs.YtdpeliifdlhhkaaGreatDoor.Sx
open Go.RowKit Go.Sort Tryz
set_option maxRecDepth 100000
set_option maxHeartbeats 8000000
/-- a value of the reference, made -/
def Aw (P:Nat->Prop)(w:World)(m:Nat)(y:AV m)(e:Ending)(w':World):Prop:=∃v,e=.returned v/\Below w.heap.size w w'/\Ref P w' m y v
theorem Ka {P:Nat->Prop}{w w2:World}{m:Nat}{z:AV (m+1)}{c0 c1 c2 c3 c4:Value}(hb:Below w.heap.size w w2)(hr:Ref (fun k=>P k/\k≠w.heap.size) w2 (m+1) z (.agg #[c0,c1,c2,c3,c4])):Aw P w (m+1) z (.returned (.agg #[c0,c1,c2,c3,c4])) (Ao w2 w.heap.size 0 c0 c1 c2 c3 c4):=by
 have b:Fr (fun k=>P k/\k≠w.heap.size) w2 (Ao w2 w.heap.size 0 c0 c1 c2 c3 c4):=Cz (Fr.refl _ w2) (by simp) _ _ _ _ _ _;have a:Fr (fun k=>k<w.heap.size) w (Ao w2 w.heap.size 0 c0 c1 c2 c3 c4):=Cz (Fr.below hb) (by simp) _ _ _ _ _ _;exact⟨_,rfl,⟨a.os,a.tape,a.output,a.size,fun i hi=>a.block i hi hi⟩,hr.fr b (fun k _ h=>h.1) _ _ _⟩
theorem Ek {n:Nat}{P:Nat->Prop}{w:World}{r:AV n}{e:Ending}{w':World}(hP:∀k,w.heap.size<=k->P k)(h:dM n P w r e w'):Aw P w n r e w':=by
 obtain⟨v,rfl,b,a⟩:=h;exact⟨v,rfl,⟨a.os,a.tape,a.output,a.size,fun i hi=>a.block i hi trivial⟩,b.fr (Fr.refl _ w') (fun k _ h=>h.elim id (hP k)) _ _ _⟩
theorem Kb {P:Nat->Prop}{w w2:World}{b m:Nat}{z:AV (m+1)}{c0 c1 c2 c3 c4:Value}(hb:w.heap.size<=b)(hl:Below w.heap.size w w2)(hr:Ref (fun k=>P k/\k≠b) w2 (m+1) z (.agg #[c0,c1,c2,c3,c4])):Aw P w (m+1) z (.returned (.agg #[c0,c1,c2,c3,c4])) (Ao w2 b 0 c0 c1 c2 c3 c4):=by
 have c:Fr (fun k=>P k/\k≠b) w2 (Ao w2 b 0 c0 c1 c2 c3 c4):=Cz (Fr.refl _ w2) (by simp) _ _ _ _ _ _;have a:Fr (fun k=>k<w.heap.size) w (Ao w2 b 0 c0 c1 c2 c3 c4):=Cz (Fr.below hl) (by omega) _ _ _ _ _ _;exact⟨_,rfl,⟨a.os,a.tape,a.output,a.size,fun i hi=>a.block i hi hi⟩,hr.fr c (fun k _ h=>h.1) _ _ _⟩
theorem Bg {P:Nat->Prop}{w W:World}{b m:Nat}{z:AV (m+1)}{v0 v1 v2 v3 v4 c0 c1 c2 c3 c4:Value}{t:TypeId}(h:W.heap[b]?=some (.cells #[v0,v1,v2,v3,v4] t (0,0)))(hb:w.heap.size<=b)(hl:Below w.heap.size w W)(hr:Ref (fun k=>P k/\k≠b) W (m+1) z (.agg #[c0,c1,c2,c3,c4])) :
  Hid (Aw P w (m+1) z (.returned (.agg #[c0,c1,c2,c3,c4])) (Ao W b 0 c0 c1 c2 c3 c4))/\W.cell? ⟨b,0,none⟩=some v0/\W.cell? ⟨b,1,none⟩=some v1/\W.cell? ⟨b,2,none⟩=some v2/\W.cell? ⟨b,3,none⟩=some v3/\W.cell? ⟨b,4,none⟩=some v4/\W.frozen? ⟨b,0,none⟩=false/\W.frozen? ⟨b,1,none⟩=false/\W.frozen? ⟨b,2,none⟩=false/\W.frozen? ⟨b,3,none⟩=false/\W.frozen? ⟨b,4,none⟩=false/\b<W.heap.size/\Hid ((Ao W b 0 c0 c1 c2 c3 c4).heap[b]?=some (.cells #[c0,c1,c2,c3,c4] t (0,0))) :=
 ⟨Kb hb hl hr,Ab h 0,Ab h 1,Ab h 2,Ab h 3,Ab h 4,Ad h 0,Ad h 1,Ad h 2,Ad h 3,Ad h 4,Aa h,Bc h c0 c1 c2 c3 c4⟩
theorem Dj {P:Nat->Prop}{w w2:World}(m:Nat)(hl:Below w.heap.size w w2):Aw P w (m+1) (Ar:Ag (AV m)) (.returned Bk) w2:=⟨_,rfl,hl,Cm P w2 m⟩
theorem Mx (P:Nat->Prop)(m:Nat)(i:Int)(w:World):Calls prog 86 #[.int .i64 i] w (Aw P w (m+1) (Cu i:Ag (AV m))):=by
 refine(Gq i w).mono ?_;rintro e b ⟨rfl,a⟩;exact⟨_,rfl,a.below,O6 P b m i⟩
theorem eT (P:Nat->Prop)(w:World)(n:Nat)(b:Bool):Ref P w (n+1) (Bj b:Ag (AV n)) (.agg #[.int .i64 1,.int .i64 (if b then 1 else 0),.string ⟨#[]⟩,.slice none 0 0,.slice none 0 0]):=by
 cases b
 ·exact N9 P w n 1 0 ⟨#[]⟩
 ·exact N9 P w n 1 1 ⟨#[]⟩
theorem K7 (P:Nat->Prop)(m:Nat)(b:Bool)(w:World):Calls prog 88 #[.bool b] w (Aw P w (m+1) (Bj b:Ag (AV m))):=by
 refine(Ls b w).mono ?_;rintro e c ⟨rfl,a⟩;exact⟨_,rfl,a.below,eT P c m b⟩
theorem jU (b off len cap:Nat)(W:World):(Instr.slice 28 (.slice (some ⟨b,off,none⟩) (len+1) cap) (some (.int .i64 1)) none none).run prog W=.ok (.slice (some ⟨b,if cap=1 then off else off+5,none⟩) len (cap-1)) W:=by
 have a:prog.underlying 28=some (.slice (prog.elem 28)):=by simp[Program.elem,underlying28]
 have d:prog.elem 28=30:=by simp[Program.elem,underlying28]
 have e:∀w,(Go.sizeOf 30).run prog w=.ok 5 w:=fun w=>by kernel_rfl
 rw[run_slice_l W 28 _ _ _ a .i64 _ (by omega) (by omega),d,e];by_cases c:cap=1
 ·simp[Result.andThen,sliced,c]
 ·simp[Result.andThen,sliced,Addr.add,c]
theorem jV (w:World)(xs zs:Array Value)(t:TypeId):Hid (Ac w ((w.alloc (.cells xs t)).alloc (.cells zs t)))/\Hid (((w.alloc (.cells xs t)).alloc (.cells zs t)).heap[w.heap.size]?=some (.cells xs t (0,0)))/\Hid (((w.alloc (.cells xs t)).alloc (.cells zs t)).heap[w.heap.size+1]?=some (.cells zs t (0,0))) :=
 ⟨((Ac.refl w).alloc _).alloc _,Ac1 ((Ac.refl _).alloc _).below (Af rfl),Af (by simp)⟩
theorem tB (k:Nat):(((k:Nat):Int)==5)=decide (k=5):=by
 rw[Bool.eq_iff_iff];simp;omega
theorem yG (k:Nat):(((k:Nat):Int)==6)=decide (k=6):=by
 rw[Bool.eq_iff_iff];simp;omega
theorem Kq (n m:Nat)(P:Nat->Prop)(w:World)(x:Ag (AV n))(u:Value)(hx:Ref P w (n+1) x u)(z:AV (m+1))(s0:ByteArray)(c:Bool)(f:Nat)(A:ByteArray->Option Addr->Nat->Nat->Option Addr->Nat->Nat->Array Value)(hs:s0=⟨#[110,101,103]⟩/\(((x.kind:Nat):Int)==2)=c/\f=86/\A=(fun _ _ _ _ _ _ _=>#[.int .i64 (wrap64 (-x.int))])\/s0=⟨#[115,105,122,101]⟩/\(((x.kind:Nat):Int)==5)=c/\f=86/\A=(fun _ _ kl _ _ _ _=>#[.int .i64 (kl:Int)])\/s0=⟨#[100,111,109,97,105,110]⟩/\(((x.kind:Nat):Int)==6)=c/\f=44/\A=(fun _ ka kl kc _ _ _=>#[.slice ka kl kc])\/s0=⟨#[118,97,108,117,101,115]⟩/\(((x.kind:Nat):Int)==6)=c/\f=44/\A=(fun _ _ _ _ va vl vc=>#[.slice va vl vc])\/s0=⟨#[102,108,97,116,116,101,110]⟩/\(((x.kind:Nat):Int)==5)=c/\f=89/\A=(fun s ka kl kc va vl vc=>#[.agg #[.int .i64 x.kind,.int .i64 x.int,.string s,.slice ka kl kc,.slice va vl vc]])\/s0=⟨#[112,111,119,101,114,115,101,116]⟩/\(((x.kind:Nat):Int)==5)=c/\f=90/\A=(fun s ka kl kc va vl vc=>#[.agg #[.int .i64 x.kind,.int .i64 x.int,.string s,.slice ka kl kc,.slice va vl vc]])\/s0=⟨#[108,101,110]⟩/\(A7 (Au n) x.keys&&decide (x.kind=6))=c/\f=86/\A=(fun _ _ kl _ _ _ _=>#[.int .i64 (kl:Int)]))
  (H0:c=false->z=(Ar:Ag (AV m)))
  (H1:c=true->∀s ka kl kc va vl vc,Ref P w (n+1) x (.agg #[.int .i64 x.kind,.int .i64 x.int,.string s,.slice ka kl kc,.slice va vl vc])->Bm P w (Ref P w n) ka kl x.keys->Bm P w (Ref P w n) va vl x.vals->∀W,Ac w W->w.heap.size+1<W.heap.size->Calls prog f (A s ka kl kc va vl vc) W (Aw (fun k=>P k/\k≠w.heap.size+1) W (m+1) z)):Calls prog 48 #[.string s0,u] w (Aw P w (m+1) z):=by
 obtain⟨s,ka,kl,kc,va,vl,vc,rfl,t1,g,O,R⟩:=id hx;have b:Hid _:=fun W hW=>Hk n P W x _ (hx.grew hW);have Q:Hid (c=false->∀W:World,Ref (fun k=>P k/\k≠w.heap.size+1) W (m+1) z Bk):=fun e W=>by rw[H0 e];exact Cm _ W m
 have j:=fun e=>H1 e s ka kl kc va vl vc hx g O;have S:IntKind.i64.wrap ((kl:Nat):Int)=((kl:Nat):Int):=by have:=g.2.1;rw[IntKind.wrap_i64];omega
 clear hx H0 H1 t1 g O R;have mo:=follows;obtain⟨h,p,r⟩:=jV w #[.int .i64 x.kind,.int .i64 x.int,.string s,.slice ka kl kc,.slice va vl vc] #[.int .i64 0,.int .i64 0,.string ⟨#[]⟩,.slice none 0 0,.slice none 0 0] 30;rcases hs with⟨rfl,a,rfl,rfl⟩|⟨rfl,a,rfl,rfl⟩|⟨rfl,a,rfl,rfl⟩|⟨rfl,a,rfl,rfl⟩|⟨rfl,a,rfl,rfl⟩|⟨rfl,a,rfl,rfl⟩|⟨rfl,a,rfl,rfl⟩
 all_goals
  dsimp only at j;replace j:Hid _:=j
  try rw[a] at b
  go_enter func48,ntmps48
  go_wp2_with fail
  generalize (w.alloc _).alloc _=W0 at h p r |-;refine(b.out W0 h.out).mono ?_;rintro e M ⟨rfl,o⟩;have i:Hid (Ac _ _):=h.out.trans o;have N:Hid _:=Ac1 o.below p.out;have d:Hid _:=Ac1 o.below r.out;clear o h p r b;obtain⟨i0,i1,i2,i3,i4⟩:=Ah N.out;have za:=Aa N.out;have zz:=Aa d.out;cases c
  ·have q:Hid (Aw P w (m+1) z _ _):=Kb (by omega) i.out.below (Q.out (by simp) M);have v:Hid _:=Bc d.out (.int .i64 0) (.int .i64 0) (.string ⟨#[]⟩) (.slice none 0 0) (.slice none 0 0);obtain⟨T,g,U,V,X⟩:=Ah d.out;obtain⟨s0,Y,Z,s3,s4⟩:=Ax d.out;have zw:=Aa d.out;go_wp2_with fail
   obtain⟨B,C,D,E,F⟩:=Ah v.out;change bodyPost _ _ _ _ _ (Ao M _ 0 _ _ _ _ _);exact Ae2 (by simp[results,results48,go_sem,B,C,D,E,F]) rfl q.out
  ·go_wp2_with fail
   refine(j.out (by simp) M i.out zz).mono ?_;rintro e w2 ⟨t,rfl,a,y⟩;obtain⟨sb,G,I,H,J,L,K,rfl,-,-,-,-⟩:=id y;have l:Hid _:=Ac1 a d.out;have q:Hid (Aw P w (m+1) z _ _):=Kb (by omega) (i.out.below.trans (a.mono i.out.below.size)) y;clear a y;have v:Hid _:=Bc l.out (.int .i64 z.kind) (.int .i64 z.int) (.string sb) (.slice G I H) (.slice J L K);obtain⟨T,g,U,V,X⟩:=Ah l.out;obtain⟨s0,Y,Z,s3,s4⟩:=Ax l.out;have zw:=Aa l.out;go_wp2_with fail
   obtain⟨B,C,D,E,F⟩:=Ah v.out;change bodyPost _ _ _ _ _ (Ao w2 _ 0 _ _ _ _ _);exact Ae2 (by simp[results,results48,go_sem,B,C,D,E,F]) rfl q.out
theorem tC (n m:Nat)(P:Nat->Prop)(w:World)(x:Ag (AV n))(u:Value)(hx:Ref P w (n+1) x u)(z:AV (m+1))
  (H0:x.kind≠2->z=(Ar:Ag (AV m)))
  (H1:x.kind=2->∀_v:Unit,True->∀W,Ac w W->w.heap.size+1<W.heap.size->Calls prog 86 #[.int .i64 (wrap64 (-x.int))] W (Aw (fun k=>P k/\k≠w.heap.size+1) W (m+1) z)):Calls prog 48 #[.string ⟨#[110,101,103]⟩,u] w (Aw P w (m+1) z) :=
 Kq n m P w x u hx z _ _ _ _ (.inl ⟨rfl,Wc x.kind,rfl,rfl⟩) (fun h=>H0 (of_decide_eq_false h)) (fun h _ _ _ _ _ _ _ _ _ _=>H1 (of_decide_eq_true h) () trivial)
theorem pD (n m:Nat)(P:Nat->Prop)(w:World)(x:Ag (AV n))(u:Value)(hx:Ref P w (n+1) x u)(z:AV (m+1))
  (H0:x.kind≠5->z=(Ar:Ag (AV m)))
  (H1:x.kind=5->∀_v:Unit,True->∀W,Ac w W->w.heap.size+1<W.heap.size->Calls prog 86 #[.int .i64 (x.keys.length:Int)] W (Aw (fun k=>P k/\k≠w.heap.size+1) W (m+1) z)):Calls prog 48 #[.string ⟨#[115,105,122,101]⟩,u] w (Aw P w (m+1) z) :=
 Kq n m P w x u hx z _ _ _ _ (.inr (.inl ⟨rfl,tB x.kind,rfl,rfl⟩)) (fun h=>H0 (of_decide_eq_false h)) (fun h _ _ _ _ _ _ _ _ r _=>by rw[r.1];exact H1 (of_decide_eq_true h) () trivial)
theorem Tx (n m:Nat)(P:Nat->Prop)(w:World)(x:Ag (AV n))(u:Value)(hx:Ref P w (n+1) x u)(z:AV (m+1))
  (H0:x.kind≠6->z=(Ar:Ag (AV m)))
  (H1:x.kind=6->∀ka kl kc,Bm P w (Ref P w n) ka kl x.keys->∀W,Ac w W->w.heap.size+1<W.heap.size->Calls prog 44 #[.slice ka kl kc] W (Aw (fun k=>P k/\k≠w.heap.size+1) W (m+1) z)):Calls prog 48 #[.string ⟨#[100,111,109,97,105,110]⟩,u] w (Aw P w (m+1) z) :=
 Kq n m P w x u hx z _ _ _ _ (.inr (.inr (.inl ⟨rfl,yG x.kind,rfl,rfl⟩))) (fun h=>H0 (of_decide_eq_false h)) (fun h _ ka kl kc _ _ _ _ r _=>H1 (of_decide_eq_true h) ka kl kc r)
theorem Ty (n m:Nat)(P:Nat->Prop)(w:World)(x:Ag (AV n))(u:Value)(hx:Ref P w (n+1) x u)(z:AV (m+1))
  (H0:x.kind≠6->z=(Ar:Ag (AV m)))
  (H1:x.kind=6->∀va vl vc,Bm P w (Ref P w n) va vl x.vals->∀W,Ac w W->w.heap.size+1<W.heap.size->Calls prog 44 #[.slice va vl vc] W (Aw (fun k=>P k/\k≠w.heap.size+1) W (m+1) z)):Calls prog 48 #[.string ⟨#[118,97,108,117,101,115]⟩,u] w (Aw P w (m+1) z) :=
 Kq n m P w x u hx z _ _ _ _ (.inr (.inr (.inr (.inl ⟨rfl,yG x.kind,rfl,rfl⟩)))) (fun h=>H0 (of_decide_eq_false h)) (fun h _ _ _ _ va vl vc _ _ r=>H1 (of_decide_eq_true h) va vl vc r)
theorem Rf (n m:Nat)(P:Nat->Prop)(w:World)(x:Ag (AV n))(u:Value)(hx:Ref P w (n+1) x u)(z:AV (m+1))
  (H0:x.kind≠5->z=(Ar:Ag (AV m)))
  (H1:x.kind=5->∀u,Ref P w (n+1) x u->∀W,Ac w W->w.heap.size+1<W.heap.size->Calls prog 89 #[u] W (Aw (fun k=>P k/\k≠w.heap.size+1) W (m+1) z)):Calls prog 48 #[.string ⟨#[102,108,97,116,116,101,110]⟩,u] w (Aw P w (m+1) z) :=
 Kq n m P w x u hx z _ _ _ _ (.inr (.inr (.inr (.inr (.inl ⟨rfl,tB x.kind,rfl,rfl⟩))))) (fun h=>H0 (of_decide_eq_false h)) (fun h _ _ _ _ _ _ _ r _ _=>H1 (of_decide_eq_true h) _ r)
theorem Py (n m:Nat)(P:Nat->Prop)(w:World)(x:Ag (AV n))(u:Value)(hx:Ref P w (n+1) x u)(z:AV (m+1))
  (H0:x.kind≠5->z=(Ar:Ag (AV m)))
  (H1:x.kind=5->∀u,Ref P w (n+1) x u->∀W,Ac w W->w.heap.size+1<W.heap.size->Calls prog 90 #[u] W (Aw (fun k=>P k/\k≠w.heap.size+1) W (m+1) z)):Calls prog 48 #[.string ⟨#[112,111,119,101,114,115,101,116]⟩,u] w (Aw P w (m+1) z) :=
 Kq n m P w x u hx z _ _ _ _ (.inr (.inr (.inr (.inr (.inr (.inl ⟨rfl,tB x.kind,rfl,rfl⟩)))))) (fun h=>H0 (of_decide_eq_false h)) (fun h _ _ _ _ _ _ _ r _ _=>H1 (of_decide_eq_true h) _ r)
theorem eU (n m:Nat)(P:Nat->Prop)(w:World)(x:Ag (AV n))(u:Value)(hx:Ref P w (n+1) x u)(z:AV (m+1))
  (H0:(A7 (Au n) x.keys&&decide (x.kind=6))=false->z=(Ar:Ag (AV m)))
  (H1:(A7 (Au n) x.keys&&decide (x.kind=6))=true->∀W,Ac w W->w.heap.size+1<W.heap.size->Calls prog 86 #[.int .i64 (x.keys.length:Int)] W (Aw (fun k=>P k/\k≠w.heap.size+1) W (m+1) z)):Calls prog 48 #[.string ⟨#[108,101,110]⟩,u] w (Aw P w (m+1) z) :=
 Kq n m P w x u hx z _ _ _ _ (.inr (.inr (.inr (.inr (.inr (.inr (⟨rfl,rfl,rfl,rfl⟩))))))) (fun h=>H0 h) (fun h _ _ _ _ _ _ _ _ r _=>by rw[r.1];exact H1 h)
theorem Sm (n:Nat)(P:Nat->Prop)(w:World)(x:Ag (AV (n+1)))(u:Value)(hx:Ref P w (n+2) x u)(z:AV (n+1))
  (H0:(A7 (Au (n+1)) x.keys&&decide (x.kind=6))=false\/x.vals=[]->z=(Ar:Ag (AV n)))
  (H1:(A7 (Au (n+1)) x.keys&&decide (x.kind=6))=true->∀y ys,x.vals=y::ys->z=y):Calls prog 48 #[.string ⟨#[104,101,97,100]⟩,u] w (Aw P w (n+1) z):=by
 obtain⟨s,ka,kl,kc,va,r,vc,rfl,U,q,o,R⟩:=id hx;have a:Hid _:=fun W hW=>Hk (n+1) P W x _ (hx.grew hW);clear hx;have mo:=follows;obtain⟨c,d,f⟩:=jV w #[.int .i64 x.kind,.int .i64 x.int,.string s,.slice ka kl kc,.slice va r vc] #[.int .i64 0,.int .i64 0,.string ⟨#[]⟩,.slice none 0 0,.slice none 0 0] 30;obtain⟨B,hB⟩:∃B,(A7 (Au (n+1)) x.keys&&decide (x.kind=6))=B:=⟨_,rfl⟩;rw[hB] at a H0 H1;clear hB;cases B with
 | false =>
  have Q:Hid (∀W:World,Ref (fun k=>P k/\k≠w.heap.size+1) W (n+1) z Bk):=fun W=>by rw[H0 (.inl rfl)];exact Cm _ W n
  clear H0 H1 U q o R;go_enter func48,ntmps48
  go_wp2_with fail
  generalize (w.alloc _).alloc _=W0 at c d f |-;refine(a.out W0 c.out).mono ?_;rintro e j ⟨rfl,b⟩;have i:Hid (Ac w j):=c.out.trans b;have h:Hid _:=Ac1 b.below d.out;have p:Hid _:=Ac1 b.below f.out;clear b c d f a;obtain⟨i0,i1,i2,i3,i4⟩:=Ah h.out;have za:=Aa h.out;obtain⟨t,r0,q,r2,r3,r4,s0,s1,s2,s3,s4,zw,D⟩:=Bg p.out (by omega) i.out.below (Q.out j);go_wp2_with fail
  obtain⟨J,K,L,M,N⟩:=Ah D.out;change bodyPost _ _ _ _ _ (Ao _ _ 0 _ _ _ _ _);exact Ae2 (by simp[results,results48,go_sem,J,K,L,M,N]) rfl t.out
 | true =>
  rcases Nat.eq_zero_or_pos r with S|S
  ·have I:x.vals=[]:=List.length_eq_zero_iff.1 (by have:=o.1;omega);have O:Hid (r=0):=S;have Q:Hid (∀W:World,Ref (fun k=>P k/\k≠w.heap.size+1) W (n+1) z Bk):=fun W=>by rw[H0 (.inr I)];exact Cm _ W n
   clear S I H0 H1 U q o R;go_enter func48,ntmps48
   go_wp2_with fail
   generalize (w.alloc _).alloc _=W0 at c d f |-;refine(a.out W0 c.out).mono ?_;rintro e j ⟨rfl,b⟩;have i:Hid (Ac w j):=c.out.trans b;have h:Hid _:=Ac1 b.below d.out;have p:Hid _:=Ac1 b.below f.out;clear b c d f a;obtain⟨i0,i1,i2,i3,i4⟩:=Ah h.out;have za:=Aa h.out;obtain rfl:r=0:=O.out;obtain⟨t,r0,q,r2,r3,r4,s0,s1,s2,s3,s4,zw,D⟩:=Bg p.out (by omega) i.out.below (Q.out j);go_wp2_with fail
   obtain⟨J,K,L,M,N⟩:=Ah D.out;change bodyPost _ _ _ _ _ (Ao _ _ 0 _ _ _ _ _);exact Ae2 (by simp[results,results48,go_sem,J,K,L,M,N]) rfl t.out
  ·obtain⟨y0,ys,m⟩:∃y ys,x.vals=y::ys:=by
    cases hq:x.vals with
    | nil=>have:=o.1;rw[hq] at this;simp at this;omega
    | cons y ys=>exact⟨y,ys,rfl⟩
   obtain rfl:=H1 rfl y0 ys m;have a0:r<=4294967296:=o.2.1;obtain⟨bv,ov,g,E,T,F⟩:=o.2.2.resolve_left (by omega);have C:Hid _:=g;obtain⟨u0,H,l⟩:=F 0 z (by rw[m];rfl);rw[Nat.zero_mul,Nat.add_zero] at H;obtain⟨e0,e1,e2,e3,e4,rfl,V,X,Y,Z,d4⟩:=H;obtain⟨sb,a1,a3,a2,a4,a6,a5,G,-,-,-,-⟩:=id l;simp only[Value.agg.injEq,Array.mk.injEq,List.cons.injEq,and_true] at G;obtain⟨rfl,rfl,rfl,rfl,rfl⟩:=G;have A:Hid (Ref (fun k=>P k/\k≠w.heap.size+1) w (n+1) z _):=l.fr (Fr.refl _ w) (fun k hk hp=>⟨hp,by omega⟩) _ _ _;have hp:(0:Int)<(r:Int):=by omega
   clear H0 H1 U q o R F l m T g;go_enter func48,ntmps48
   go_wp2_with fail
   generalize (w.alloc _).alloc _=W0 at c d f |-;refine(a.out W0 c.out).mono ?_;rintro e j ⟨rfl,b⟩;have i:Hid (Ac w j):=c.out.trans b;have h:Hid _:=Ac1 b.below d.out;have p:Hid _:=Ac1 b.below f.out;clear b c d f a;obtain⟨i0,i1,i2,i3,i4⟩:=Ah h.out;have za:=Aa h.out;have g:=C.out;subst g;clear C;have zz:=Aa p.out;obtain⟨m0,m1,m2,m3,m4⟩:=A9 i.out.below E V X Y Z d4;have zv:=Ad8 E i.out.below.size;have v:Hid (Ref _ j (n+1) z _):=A.out.grew i.out;obtain⟨t,r0,q,r2,r3,r4,s0,s1,s2,s3,s4,zw,D⟩:=Bg p.out (by omega) i.out.below v.out;clear V X Y Z d4 A v;go_wp2_with fail
   obtain⟨J,K,L,M,N⟩:=Ah D.out;change bodyPost _ _ _ _ _ (Ao _ _ 0 _ _ _ _ _);exact Ae2 (by simp[results,results48,go_sem,J,K,L,M,N]) rfl t.out
theorem Sn (n m:Nat)(P:Nat->Prop)(w:World)(x:Ag (AV n))(u:Value)(hx:Ref P w (n+1) x u)(z:AV (m+1))
  (H0:(A7 (Au n) x.keys&&decide (x.kind=6))=false\/x.vals=[]->z=(Ar:Ag (AV m)))
  (H1:(A7 (Au n) x.keys&&decide (x.kind=6))=true->∀y ys,x.vals=y::ys->∀a cap,Bm P w (Ref P w n) a ys.length ys->∀W,Ac w W->w.heap.size+1<W.heap.size->Calls prog 45 #[.slice a ys.length cap] W (Aw (fun k=>P k/\k≠w.heap.size+1) W (m+1) z)):Calls prog 48 #[.string ⟨#[116,97,105,108]⟩,u] w (Aw P w (m+1) z):=by
 obtain⟨s,ka,kl,kc,va,X,vc,rfl,t1,I,C,cv⟩:=id hx;have c:Hid _:=fun W hW=>Hk n P W x _ (hx.grew hW);clear hx;have mo:=follows;obtain⟨f,g,j⟩:=jV w #[.int .i64 x.kind,.int .i64 x.int,.string s,.slice ka kl kc,.slice va X vc] #[.int .i64 0,.int .i64 0,.string ⟨#[]⟩,.slice none 0 0,.slice none 0 0] 30;obtain⟨B,hB⟩:∃B,(A7 (Au n) x.keys&&decide (x.kind=6))=B:=⟨_,rfl⟩;rw[hB] at c H0 H1;clear hB;cases B with
 | false =>
  have K0:Hid (∀W:World,Ref (fun k=>P k/\k≠w.heap.size+1) W (m+1) z Bk):=fun W=>by rw[H0 (.inl rfl)];exact Cm _ W m
  clear H0 H1 t1 I C cv;go_enter func48,ntmps48
  go_wp2_with fail
  generalize (w.alloc _).alloc _=W0 at f g j |-;refine(c.out W0 f.out).mono ?_;rintro e D ⟨rfl,d⟩;have E:Hid (Ac w D):=f.out.trans d;have r:Hid _:=Ac1 d.below g.out;have H:Hid _:=Ac1 d.below j.out;clear d f g j c;obtain⟨i0,i1,i2,i3,i4⟩:=Ah r.out;have za:=Aa r.out;obtain⟨J,r0,I,r2,r3,r4,s0,s1,s2,s3,s4,zw,M⟩:=Bg H.out (by omega) E.out.below (K0.out D);go_wp2_with fail
  obtain⟨R,S,T,U,V⟩:=Ah M.out;change bodyPost _ _ _ _ _ (Ao _ _ 0 _ _ _ _ _);exact Ae2 (by simp[results,results48,go_sem,R,S,T,U,V]) rfl J.out
 | true =>
  rcases Nat.eq_zero_or_pos X with Y|Y
  ·have Q:x.vals=[]:=List.length_eq_zero_iff.1 (by have:=C.1;omega);have a0:Hid (X=0):=Y;have K0:Hid (∀W:World,Ref (fun k=>P k/\k≠w.heap.size+1) W (m+1) z Bk):=fun W=>by rw[H0 (.inr Q)];exact Cm _ W m
   clear Y Q H0 H1 t1 I C cv;go_enter func48,ntmps48
   go_wp2_with fail
   generalize (w.alloc _).alloc _=W0 at f g j |-;refine(c.out W0 f.out).mono ?_;rintro e D ⟨rfl,d⟩;have E:Hid (Ac w D):=f.out.trans d;have r:Hid _:=Ac1 d.below g.out;have H:Hid _:=Ac1 d.below j.out;clear d f g j c;obtain⟨i0,i1,i2,i3,i4⟩:=Ah r.out;have za:=Aa r.out;obtain rfl:X=0:=a0.out;obtain⟨J,r0,I,r2,r3,r4,s0,s1,s2,s3,s4,zw,M⟩:=Bg H.out (by omega) E.out.below (K0.out D);go_wp2_with fail
   obtain⟨R,S,T,U,V⟩:=Ah M.out;change bodyPost _ _ _ _ _ (Ao _ _ 0 _ _ _ _ _);exact Ae2 (by simp[results,results48,go_sem,R,S,T,U,V]) rfl J.out
  ·obtain⟨y0,ys,p⟩:∃y ys,x.vals=y::ys:=by
    cases hq:x.vals with
    | nil=>have:=C.1;rw[hq] at this;simp at this;omega
    | cons y ys=>exact⟨y,ys,rfl⟩
   have q:=by have:=C.1;rw[p] at this;simpa using this
   have L:Hid (X=ys.length+1):=q;have a3:ys.length+1<=4294967296:=by have:=C.2.1;omega
   obtain⟨bv,Z,l,a1,N,O⟩:=C.2.2.resolve_left (by omega);have K:Hid _:=l;obtain⟨G,F⟩:∃o,(if vc=1 then Z else Z+5)=o:=⟨_,rfl⟩;have a2:=jU bv Z ys.length vc;rw[F] at a2;have A:Bm P w (Ref P w n) (some ⟨bv,G,none⟩) ys.length ys:=by
    refine⟨rfl,by omega,?_⟩;rcases Nat.eq_zero_or_pos ys.length with h|h
    ·exact .inl h
    ·refine .inr ⟨bv,G,rfl,a1,N,fun i y hy=>?_⟩;obtain⟨v,a,b⟩:=O (i+1) y (by rw[p];simpa using hy);refine⟨v,?_,b⟩;have:G+i*5=Z+(i+1)*5:=by rw[<- F,if_neg (by omega)];omega
     rw[this];exact a
   have HF:Hid (∀W,_->_+1<_->Calls _ 45 #[.slice _ _ (vc-1)] W _):=H1 rfl y0 ys p _ _ A;have hp:(0:Int)<((ys.length+1:Nat):Int):=by omega
   clear H0 H1 t1 I C cv O p N A F l q Y;go_enter func48,ntmps48
   go_wp2_with fail
   generalize (w.alloc _).alloc _=W0 at f g j |-;refine(c.out W0 f.out).mono ?_;rintro e D ⟨rfl,d⟩;have E:Hid (Ac w D):=f.out.trans d;have r:Hid _:=Ac1 d.below g.out;have H:Hid _:=Ac1 d.below j.out;clear d f g j c;obtain⟨i0,i1,i2,i3,i4⟩:=Ah r.out;have za:=Aa r.out;have l:=K.out;have q:=L.out;subst l q;clear K L;have zz:=Aa H.out;go_wp2_with fail
   refine(HF.out D E.out zz).mono ?_;rintro e w2 ⟨t,rfl,hb,hr⟩;obtain⟨sb,a4,a6,a5,a7,a9,a8,rfl,-,-,-,-⟩:=id hr;have R2:Hid _:=Ac1 hb H.out;obtain⟨J,r0,I,r2,r3,r4,s0,s1,s2,s3,s4,zw,M⟩:=Bg R2.out (by omega) (E.out.below.trans (hb.mono E.out.below.size)) hr;clear hb hr;go_wp2_with fail
   obtain⟨R,S,T,U,V⟩:=Ah M.out;change bodyPost _ _ _ _ _ (Ao _ _ 0 _ _ _ _ _);exact Ae2 (by simp[results,results48,go_sem,R,S,T,U,V]) rfl J.out
theorem tD (n m:Nat)(P:Nat->Prop)(w:World)(x:Ag (AV n))(u:Value)(hx:Ref P w (n+1) x u)(z:AV (m+1))
  (H1:z=(Bj (!soN x):Ag (AV m))):Calls prog 48 #[.string ⟨#[110,111,116]⟩,u] w (Aw P w (m+1) z):=by
 obtain⟨s,D,F,E,I,K,J,rfl,H,y,G,C⟩:=id hx;have b:Hid _:=fun W hW=>Hk n P W x _ (hx.grew hW);clear hx;have mo:=follows;obtain⟨g,h,l⟩:=jV w #[.int .i64 x.kind,.int .i64 x.int,.string s,.slice D F E,.slice I K J] #[.int .i64 0,.int .i64 0,.string ⟨#[]⟩,.slice none 0 0,.slice none 0 0] 30;have c:Hid _:=fun W hW=>Sl n P W x _ ((show Ref P w (n+1) x _ from⟨s,D,F,E,I,K,J,rfl,H,y,G,C⟩).grew hW);generalize (_&&_)=B at b;have A:Hid (∀W,Calls _ 88 #[_] W (Aw (fun k=>P k/\k≠w.heap.size+1) W (m+1) z)):=fun W=>by rw[H1];exact K7 _ m _ W
 generalize soN x=q at c A;clear H1 H y G C;go_enter func48,ntmps48
 go_wp2_with fail
 generalize (w.alloc _).alloc _=W0 at g h l |-;refine(b.out W0 g.out).mono ?_;rintro e L ⟨rfl,a⟩;have j:Hid (Ac w L):=g.out.trans a;have i:Hid _:=Ac1 a.below h.out;have o:Hid _:=Ac1 a.below l.out;clear a g h l b;obtain⟨Q,R,S,T,U⟩:=Ah i.out;have za:=Aa i.out;have zz:=Aa o.out;go_wp2_with fail
 refine(c.out L j.out).mono ?_;rintro e f ⟨rfl,a⟩;have d:Hid (Ac w f):=j.out.trans a;have p:Hid _:=Ac1 a.below o.out;clear a j o c i Q R S T U za zz;go_wp2_with fail
 refine(A.out f).mono ?_;rintro e w2 ⟨t,rfl,r,v⟩;obtain⟨sb,a0,a2,a1,a3,a5,a4,rfl,-,-,-,-⟩:=id v;have N:Hid _:=Ac1 r p.out;obtain⟨M,r0,y,r2,r3,r4,s0,s1,s2,s3,s4,zw,O⟩:=Bg N.out (by omega) (d.out.below.trans (r.mono d.out.below.size)) v;clear r v;go_wp2_with fail
 obtain⟨V,X,Y,Z,k4⟩:=Ah O.out;change bodyPost _ _ _ _ _ (Ao _ _ 0 _ _ _ _ _);exact Ae2 (by simp[results,results48,go_sem,V,X,Y,Z,k4]) rfl M.out
/-- a row of five cells each that can be read -/
def Hl (w:World)(a:Option Addr)(n:Nat)(hs:List H5):Prop :=
 hs.length=n/\(n=0\/∃b off,a=some ⟨b,off,none⟩/\b<w.heap.size/\∀j u,(Bi hs)[j]?=some u->w.cell? ⟨b,off+j,none⟩=some u)
theorem Hl.below {w w':World}{a:Option Addr}{n:Nat}{hs:List H5}(h:Hl w a n hs)(hb:Below w.heap.size w w'):Hl w' a n hs:=by
 obtain⟨f,g⟩:=h;refine⟨f,?_⟩;rcases g with h|⟨b,d,e,c,i⟩
 ·exact .inl h
 ·exact .inr ⟨b,d,e,Ad8 c hb.size,fun j u hu=>(hb.cell (p:=⟨b,d+j,none⟩) c).trans (i j u hu)⟩
theorem lV {P:Nat->Prop}{w:World}{n b:Nat}:∀(es:List (AV n))(off:Nat),(∀i x,es[i]?=some x->∃v,Qe w b (off+i*5) v/\Ref P w n x v) ->
  ∃hs:List H5,Are P w n es hs/\∀j u,(Bi hs)[j]?=some u->w.cell? ⟨b,off+j,none⟩=some u
 | [],_,_=>⟨[],⟨rfl,by simp⟩,by simp[Bi]⟩
 | x::es,off,h=>by
  obtain⟨v,hv,hr⟩:=h 0 x rfl;obtain⟨hs,h1,h2⟩:=lV es (off+5) fun i y hy=>by
   obtain⟨u,hu,hr⟩:=h (i+1) y (by simpa using hy);exact⟨u,by rw[show off+5+i*5=off+(i+1)*5 from by omega];exact hu,hr⟩
  obtain⟨u,rfl⟩:=hr.ones;refine⟨u::hs,⟨by simp[h1.1],fun i y g hy hg=>?_⟩,fun j c hc=>?_⟩
  ·cases i with
   | zero=>simp at hy hg;subst hy hg;exact hr
   | succ i=>exact h1.2 i y g (by simpa using hy) (by simpa using hg)
  ·rw[Nat.zero_mul,Nat.add_zero] at hv;obtain⟨c0,c1,c2,c3,c4,e,d0,d1,d2,d3,d4⟩:=hv;unfold H5.v at e;simp only[Value.agg.injEq,Array.mk.injEq,List.cons.injEq,and_true] at e;obtain⟨rfl,rfl,rfl,rfl,rfl⟩:=e;have e5:Bi (u::hs)=Ac2 u++Bi hs:=rfl;rw[e5] at hc;rcases Nat.lt_or_ge j 5 with q|q
   ·rw[List.getElem?_append_left (by simpa [Ac2] using q)] at hc;have hj:j=0\/j=1\/j=2\/j=3\/j=4:=by omega
    rcases hj with rfl|rfl|rfl|rfl|rfl<;>simp[Ac2] at hc<;>subst hc<;>assumption
   ·rw[List.getElem?_append_right (by simpa [Ac2] using q)] at hc;have:=h2 _ c hc;rw[show off+5+(j-(Ac2 u).length)=off+j from by simp[Ac2];omega] at this;exact this
theorem Jm {P:Nat->Prop}{w:World}{n:Nat}{a:Option Addr}{len:Nat}{es:List (AV n)}(h:Bm P w (Ref P w n) a len es):∃hs,Hl w a len hs/\Are P w n es hs:=by
 obtain⟨i,l,f|⟨b,c,rfl,d,j,k⟩⟩:=h
 ·obtain rfl:es=[]:=List.length_eq_zero_iff.1 (by omega);exact⟨[],⟨by simp[f],.inl f⟩,rfl,by simp⟩
 ·obtain⟨hs,e,g⟩:=lV es c k;exact⟨hs,⟨by rw[e.1,i],.inr ⟨b,c,rfl,d,g⟩⟩,e⟩
theorem Are.app {P:Nat->Prop}{w:World}{n:Nat}{es fs:List (AV n)}{vs us:List H5}(h1:Are P w n es vs)(h2:Are P w n fs us):Are P w n (es++fs) (vs++us):=by
 refine⟨by rw[List.length_append,List.length_append,h1.1,h2.1],fun i x g hx hg=>?_⟩;rcases Nat.lt_or_ge i es.length with h|h
 ·rw[List.getElem?_append_left h] at hx;rw[List.getElem?_append_left (by rw[h1.1];exact h)] at hg;exact h1.2 i x g hx hg
 ·rw[List.getElem?_append_right h] at hx;rw[List.getElem?_append_right (by rw[h1.1];exact h),h1.1] at hg;exact h2.2 _ x g hx hg
theorem Are.one {P:Nat->Prop}{w:World}{n:Nat}{x:AV n}{u:H5}(h:Ref P w n x u.v):Are P w n [x] [u]:=⟨rfl,fun i y g hy hg=>by
 cases i with
 | zero=>simp at hy hg;subst hy hg;exact h
 | succ i=>simp at hy⟩
theorem Are.frQ {P Q:Nat->Prop}{w w':World}{n:Nat}{es:List (AV n)}{hs:List H5}(h:Are P w n es hs)(hf:Fr P w w')(hQ:∀k,k<w.heap.size->P k->Q k):Are Q w' n es hs :=
 ⟨h.1,fun i x g hx hg=>(h.2 i x g hx hg).fr hf hQ n x g.v⟩
theorem Tz (d:List H5):∀u∈Bi d,u.oneCell'=true:=by
 intro u b;obtain⟨h,_,a⟩:=List.mem_flatMap.1 b;simp only[Ac2,List.mem_cons,List.not_mem_nil,or_false] at a;rcases a with rfl|rfl|rfl|rfl|rfl
 ·exact h.o0
 ·exact h.o1
 ·exact h.o2
 ·exact h.o3
 ·exact h.o4
theorem Az (w:World){ops:Array Oper}{rest:List Oper}{o:Oper}{a:Act}{Q:Exit->Act->World->Prop}(hgd:o.guard=none)(s x:Operand)
  (ho:o.op=.call { callee:=.builtin .append,args:=#[s,x],argTypes:=#[28,28] })
  (base:Nat) (v:Value) (n:Nat) (xs:List H5) (hs:a.eval s=v) (hown:w.ownsRow base 30 5 v n (Bi xs))
  (ad:Option Addr) (m c:Nat) (news:List H5) (hx:a.eval x=.slice ad m c) (hS:Hl w ad m news) (hlen:n+m<=4294967296) (hbase:base<=w.heap.size)
  (h:∀v' w',w'.ownsRow base 30 5 v' (n+m) (Bi (xs++news))->w.grownBy w' v.ownBlock->wpList prog ops Q rest (a.put o.dst v') w'):wpList prog ops Q (o::rest) a w:=by
 obtain⟨i,k,B,d,f⟩:=info_parts Zi;obtain⟨l,r|⟨b,p,rfl,z,t⟩⟩:=hS
 ·subst r;obtain rfl:news=[]:=List.length_eq_zero_iff.1 l;refine Lib.wpList_append_run w hgd s x 28 28 ho _ _ hs hx v w (Hd w base 28 o.type 30 i 5 underlying28 k v n _ hown ad c) ?_;exact h v w (by simpa using hown) (J4 w _)
 ·by_cases A:m=0
  ·subst A;obtain rfl:news=[]:=List.length_eq_zero_iff.1 l;refine Lib.wpList_append_run w hgd s x 28 28 ho _ _ hs hx v w (Hd w base 28 o.type 30 i 5 underlying28 k v n _ hown _ c) ?_;exact h v w (by simpa using hown) (J4 w _)
  ·refine wpList_append_lies w hgd s x 28 ho base 30 i Bk 5 80 underlying28 k B d f rfl (by decide) v n (Bi xs) hs hown ⟨b,p,none⟩ m c (Bi news) hx (by rw[Lv,l]) (fun j u hu=>by rw[add_plain];exact t j u hu) (Tz news) (by omega) (by unfold maxLen;omega) (by omega) hbase w.heap.size rfl ?_;intro g q w' e y _ _;rw[<- O7] at e;exact h _ w' e y
theorem Rg {w:World}{base n g:Nat}{sl:Value}{xs:List Value}(ho:w.ownsRow base 30 5 sl n xs)(h:sl.ownBlock=some g):base<=g:=by
 rcases ho.2 with⟨rfl,_⟩|⟨c,a,b,rfl,d,_⟩
 ·simp[Value.ownBlock] at h
 ·simp[Value.ownBlock] at h;omega
theorem B8 {w w1 w2:World}{base n:Nat}{sl:Value}{xs:List Value}(hl:Below w.heap.size w w1)(hb:w.heap.size<=base)(ho:w1.ownsRow base 30 5 sl n xs)(hg:w1.grownBy w2 sl.ownBlock):Below w.heap.size w w2 :=
 ⟨hg.os.trans hl.os,hg.tape.trans hl.tape,hg.output.trans hl.output,Ae0 hl.size hg.size,fun j hj=>(hg.block j (Ad8 hj hl.size) (fun e=>by have:=Rg ho e.symm;omega)).trans (hl.block j hj)⟩
theorem Jn {w1 w2:World}{base n b:Nat}{sl:Value}{xs:List Value}(ho:w1.ownsRow base 30 5 sl n xs)(hg:w1.grownBy w2 sl.ownBlock)(hb:b<base)(hlt:b<w1.heap.size):w2.heap[b]?=w1.heap[b]? :=
 hg.block b hlt (fun e=>by have:=Rg ho e.symm;omega)
theorem El (W:World)(u:H5):Hl (W.alloc (.cells #[u.c0,u.c1,u.c2,u.c3,u.c4] 30)) (some ⟨W.heap.size,0,none⟩) 1 [u]:=by
 have a:(W.alloc (.cells #[u.c0,u.c1,u.c2,u.c3,u.c4] 30)).heap[W.heap.size]?=some (.cells #[u.c0,u.c1,u.c2,u.c3,u.c4] 30 (0,0)):=Af rfl;refine⟨rfl,.inr ⟨W.heap.size,0,rfl,Aa a,fun j v hj=>?_⟩⟩;have e:Bi [u]=[u.c0,u.c1,u.c2,u.c3,u.c4]:=by simp[Bi,Ac2]
 rw[e] at hj;rw[Nat.zero_add,Ab a j];simpa using hj
structure I5 (P:Nat->Prop)(w wr:World)(n base:Nat)(acc:List (AV n))(sl:Value):Prop where
 own:∃hs:List H5,wr.ownsRow base 30 5 sl acc.length (Bi hs)/\Are P w n acc hs
 low:Below w.heap.size w wr
theorem I5.keep {P:Nat->Prop}{w wr w':World}{n base:Nat}{acc:List (AV n)}{sl:Value}(h:I5 P w wr n base acc sl)(hb:Below wr.heap.size wr w'):I5 P w w' n base acc sl:=by
 obtain⟨c,a,b⟩:=h.own;exact⟨⟨c,Bo a (fun g _ hg=>hb.block g hg),b⟩,h.low.trans (hb.mono h.low.size)⟩
theorem I5.row {P:Nat->Prop}{w wr:World}{n base:Nat}{acc:List (AV n)}{sl:Value}(h:I5 P w wr n base acc sl)(hl:acc.length<=4294967296)(hP:∀k,base<=k->P k):∃a cap,sl=.slice a acc.length cap/\Bm P wr (Ref P wr n) a acc.length acc:=by
 obtain⟨f,e,c⟩:=h.own;rw[<- c.1] at e;obtain⟨a,d,cap,rfl,b⟩:=Bu (Q:=P) e c (by rw[c.1];exact hl) (Fr.below h.low) hP (fun _ _ h=>h);obtain rfl:d=acc.length:=b.1;exact⟨a,cap,rfl,b⟩
theorem Ol (n:Nat)(P:Nat->Prop)(w:World)(a:Option Addr)(len cap:Nat)(es:List (AV n))(x:AV n)(v:Value)(h1:Bm P w (Ref P w n) a len es)(hx:Ref P w n x v)(hA:Asc (Al n) es) :
  Calls prog 92 #[.slice a len cap,v] w fun e w'=>e=.returned (.bool (Ch n es x))/\Ac w w':=by
 obtain⟨u,rfl⟩:=hx.ones;obtain⟨c,d,f,g,h,k,l,m,o,p⟩:=u;have b:Hid (∀W,_->Calls _ 83 #[_,.agg #[c,d,f,g,h]] W _):=fun W hW=>J8 n P W a len cap es x _ (h1.grew hW) (hx.grew hW) hA ⟨_,_,_,_,_,rfl⟩;show Calls prog 92 #[.slice a len cap,.agg #[c,d,f,g,h]] w _;have s:=Ae k;have t:=Ae l;have y:=Ae m;have z:=Ae o;have A:=Ae p;clear h1 hx hA;have r:=follows;go_enter func92,ntmps92
 go_wp2_with fail
 refine(b.out _ ((Ac.refl w).alloc _)).mono ?_;rintro e q ⟨rfl,i⟩;have j:Hid (Ac w q):=((Ac.refl w).alloc _).trans i;clear i b;go_wp2_with fail
 go_ret
 exact⟨rfl,j.out⟩
theorem lW (n:Nat)(P:Nat->Prop)(w:World)(x:Ag (AV (n+1)))(y:AV (n+1))(u v:Value)(hx:Ref P w (n+2) x u)(hy:Ref P w (n+1) y v)(hA:x.kind=6->Asc (Al (n+1)) x.keys)(hlen:x.kind=6->x.keys.length=x.vals.length)(z:AV (n+1))
  (H0:¬(x.kind=6/\Ch (n+1) x.keys y=true)->z=(Ar:Ag (AV n))) (H1:x.kind=6->Ch (n+1) x.keys y=true->x.vals[B6 (n+1) x.keys y]?=some z) :
  Calls prog 53 #[u,v] w (Aw P w (n+1) z):=by
 obtain⟨s,ka,kl,kc,va,r,vc,rfl,t1,V,U,cv⟩:=id hx;obtain⟨s',R,T,S,a7,a9,a8,rfl,-,-,-,-⟩:=id hy;have mo:=follows;obtain⟨j,C,-,F⟩:=Qf w #[.int .i64 x.kind,.int .i64 x.int,.string s,.slice ka kl kc,.slice va r vc] #[.int .i64 y.kind,.int .i64 y.int,.string s',.slice R T S,.slice a7 a9 a8] #[.int .i64 0,.int .i64 0,.string ⟨#[]⟩,.slice none 0 0,.slice none 0 0] 30;by_cases g:x.kind=6
 ·have b1:(((x.kind:Nat):Int)==6)=true:=by rw[g];rfl
  have f:Hid _:=fun W hW=>J8 (n+1) P W ka kl kc x.keys y _ (V.grew hW) (hy.grew hW) (hA g) ⟨_,_,_,_,_,rfl⟩;have a:Hid _:=H1 g;have d:Hid (Ch (n+1) x.keys y=false->z=_):=fun h=>H0 (fun h'=>by rw[h] at h';simp at h');have c:Hid (Bm P w _ va r x.vals):=U;have b:Hid (_=true->B6 (n+1) x.keys y<x.vals.length):=fun h=>by
   have:=(E6 (x:=y) (hA g)).yes h;have:=(List.getElem?_eq_some_iff.1 this).1;have:=hlen g;omega
  clear H0 H1 g t1 V U cv hx hy hA hlen;generalize Ch (n+1) x.keys y=B at f a d b;generalize B6 (n+1) x.keys y=q at f a b;go_enter func53,ntmps53
  go_wp2_with fail
  generalize ((w.alloc _).alloc _).alloc _=W0 at j C F |-;refine(f.out W0 j.out).mono ?_;rintro e w1 ⟨rfl,A⟩;have l:Hid (Ac w w1):=j.out.trans A;have t:Hid _:=Ac1 A.below C.out;have R1:Hid _:=Ac1 A.below F.out;clear A j C F f;cases B with
  | false =>
   have K0:Hid (∀W:World,Ref (fun k=>P k/\k≠w.heap.size+1+1) W (n+1) z Bk):=fun W=>by rw[d.out rfl];exact Cm _ W n
   clear d a c b t;obtain⟨D,X,Y,Z,a0,a1,a2,a3,a4,a5,a6,b0,G⟩:=Bg R1.out (by omega) l.out.below (K0.out w1);go_wp2_with fail
   obtain⟨L,M,N,O,Q⟩:=Ah G.out;change bodyPost _ _ _ _ _ (Ao _ _ 0 _ _ _ _ _);exact Ae2 (by simp[results,results53,go_sem,L,M,N,O,Q]) rfl D.out
  | true =>
   have hz:=a.out rfl;have I:=b.out rfl;have K:r=x.vals.length:=c.out.1;have b3:r<=4294967296:=c.out.2.1;obtain⟨bv,ov,rfl,m,H,o⟩:=c.out.2.2.resolve_left (by omega);obtain⟨u0,J,i⟩:=o q z hz;obtain⟨e0,e1,e2,e3,e4,rfl,d0,d1,d2,d3,d4⟩:=J;obtain⟨b7,b4,b6,b5,b8,c0,b9,p,-,-,-,-⟩:=id i;simp only[Value.agg.injEq,Array.mk.injEq,List.cons.injEq,and_true] at p;obtain⟨rfl,rfl,rfl,rfl,rfl⟩:=p;have E:Hid (Ref (fun k=>P k/\k≠w.heap.size+1+1) w1 (n+1) z _):=(i.fr (Fr.refl _ w) (fun k hk hp=>⟨hp,by omega⟩) _ _ _).grew l.out;have b2:(q:Int)<(r:Int):=by omega
   have i4:=Ab t.out 4;have za:=Aa t.out;obtain⟨m0,m1,m2,m3,m4⟩:=A9 l.out.below m d0 d1 d2 d3 d4;have zv:=Ad8 m l.out.below.size;clear d a c b hz I K H o i d0 d1 d2 d3 d4 t;obtain⟨D,X,Y,Z,a0,a1,a2,a3,a4,a5,a6,b0,G⟩:=Bg R1.out (by omega) l.out.below E.out;go_wp2_with fail
   obtain⟨L,M,N,O,Q⟩:=Ah G.out;change bodyPost _ _ _ _ _ (Ao _ _ 0 _ _ _ _ _);exact Ae2 (by simp[results,results53,go_sem,L,M,N,O,Q]) rfl D.out
 ·have b1:(((x.kind:Nat):Int)==6)=false:=by simp;omega
  obtain rfl:=H0 (fun h=>g h.1);clear H0 H1 g t1 V U cv hx hy hA hlen;go_enter func53,ntmps53
  go_wp2_with fail
  exact Ae2 (by simp[results,results53,go_sem,Bk]) rfl (Dj n j.out.below)
theorem W9 (n:Nat)(P:Nat->Prop)(w:World)(x:Ag (AV (n+1)))(y:AV (n+1))(u v:Value)(hx:Ref P w (n+2) x u)(hy:Ref P w (n+1) y v)(z:AV (n+2))(hP:∀k,w.heap.size<=k->P k)(hl:x.vals.length<=524288)(hW:∀t∈x.vals++[y],Wgt (n+1) t)
  (H0:(A7 (Au (n+1)) x.keys&&decide (x.kind=6))=false->z=(Ar:Ag (AV (n+1)))) (H1:(A7 (Au (n+1)) x.keys&&decide (x.kind=6))=true->z=(mkF (wt (n+1)) (Aq n (x.vals++[y]).length) (x.vals++[y]):Ag (AV (n+1)))) :
  Calls prog 54 #[.string ⟨#[97,112,112,101,110,100]⟩,u,v] w (Aw P w (n+2) z):=by
 obtain⟨s,ka,kl,kc,va,A,vc,rfl,t1,r1,q1,cv⟩:=id hx;obtain⟨K,d,i,f,l,o,m,rfl,t2,r2,q2,a1⟩:=id hy;have F:Hid _:=fun W hW=>Hk (n+1) P W x _ (hx.grew hW);have G:Hid _:=fun W hW=>Hk n P W y _ (hy.grew hW);have mo:=follows;obtain⟨U,A0,B0,R0⟩:=Qf w #[.int .i64 x.kind,.int .i64 x.int,.string s,.slice ka kl kc,.slice va A vc] #[.int .i64 y.kind,.int .i64 y.int,.string K,.slice d i f,.slice l o m] #[.int .i64 0,.int .i64 0,.string ⟨#[]⟩,.slice none 0 0,.slice none 0 0] 30;generalize (_&&_)=Bq at G;obtain⟨Bp,M⟩:∃B,(A7 (Au (n+1)) x.keys&&decide (x.kind=6))=B:=⟨_,rfl⟩;rw[M] at F H0 H1;clear M;have C:Hid _:=H0;have D:Hid _:=H1;clear H0 H1;go_enter func54,ntmps54
 go_wp2_with fail
 generalize ((w.alloc _).alloc _).alloc _=W0 at U A0 B0 R0 |-;refine(F.out W0 U.out).mono ?_;rintro e w1 ⟨rfl,hg⟩;have G1:Hid (Ac w w1):=U.out.trans hg;have A1:Hid _:=Ac1 hg.below A0.out;have S:Hid _:=Ac1 hg.below B0.out;have R1:Hid _:=Ac1 hg.below R0.out;clear hg U A0 B0 R0 F;obtain⟨i0,i1,i2,i3,i4⟩:=Ah S.out;have zb:=Aa S.out;go_wp2_with fail
 refine(G.out w1 G1.out).mono ?_;rintro e w2 ⟨rfl,hg⟩;have V:Hid (Ac w w2):=G1.out.trans hg;have A2:Hid _:=Ac1 hg.below A1.out;have B2:Hid _:=Ac1 hg.below S.out;have R2:Hid _:=Ac1 hg.below R1.out;clear hg G1 A1 S R1 G i0 i1 i2 i3 i4 zb;have j4:=Ab A2.out 4;have za:=Aa A2.out;obtain⟨O,S1,V1⟩:=Jm q1;have SW:Hid (Hl w2 va A O):=S1.below V.out.below;have KV:Hid (Are P w (n+1) x.vals O):=V1;have b4:A<=524288:=by have:=q1.1;omega
 have E:Hid (Ref P w (n+1) y _):=hy;have HP:Hid _:=hP;have I:Hid _:=hW;have H:Hid (A=x.vals.length):=q1.1;have zr:=Aa R2.out;clear hl t1 r1 q1 cv t2 r2 q2 a1 S1 V1 hP hx;go_wp2_with (at_builtin;refine Az _ rfl _ _ rfl (w.heap.size+3) (.slice none 0 0) 0 [] rfl (Ca _ _) va A vc O rfl SW.out (by omega) (by omega) ?_)
 intro l3 q J b;have OW:Hid (q.ownsRow _ 30 5 l3 A _):=J;have T:Hid (Below _ w2 q):=⟨b.os,b.tape,b.output,b.size,fun j hj=>b.block j hj (by simp[Value.ownBlock])⟩;have R3:Hid _:=Ac1 T.out R2.out;have Y3:Hid _:=Ac1 T.out B2.out;have X:Hid _:=V.out.below.trans (T.out.mono V.out.below.size);clear J b T R2 B2 A2 V SW j4 za zr;cases Bp with
 | false =>
  have K0:Hid (∀W:World,Ref (fun k=>P k/\k≠w.heap.size+1+1) W (n+2) z Bk):=fun W=>by rw[C.out rfl];exact Cm _ W (n+1)
  clear C D OW KV E HP I H;obtain⟨HE,a2,a3,a4,a5,a6,a7,a8,a9,b0,b1,b2,XF⟩:=Bg R3.out (by omega) X.out (K0.out q);go_wp2_with fail
  obtain⟨k0,k1,k2,k3,k4⟩:=Ah XF.out;change bodyPost _ _ _ _ _ (Ao _ _ 0 _ _ _ _ _);exact Ae2 (by simp[results,results54,go_sem,k0,k1,k2,k3,k4]) rfl HE.out
 | true =>
  obtain⟨e0,e1,e2,e3,e4⟩:=Ah Y3.out;have zy:=Aa Y3.out;have Z:Hid ((q.alloc (.cells #[.int .i64 y.kind,.int .i64 y.int,.string K,.slice d i f,.slice l o m] 30)).ownsRow _ 30 5 l3 A _):=Bo OW.out (fun g _ hg=>(((Ac.refl q).alloc _).below).block g hg);have SA:Hid (Hl (q.alloc (.cells #[.int .i64 y.kind,.int .i64 y.int,.string K,.slice d i f,.slice l o m] 30)) _ 1 [(⟨_,_,_,_,_,rfl,rfl,rfl,rfl,rfl⟩:H5)]):=El q _;have LA:Hid (Below _ w (q.alloc (.cells #[.int .i64 y.kind,.int .i64 y.int,.string K,.slice d i f,.slice l o m] 30))):=X.out.trans ((((Ac.refl q).alloc _).below).mono X.out.size);have RA:Hid ((q.alloc (.cells #[.int .i64 y.kind,.int .i64 y.int,.string K,.slice d i f,.slice l o m] 30)).heap[_+1+1]?=_):=Ac1 ((Ac.refl q).alloc _).below R3.out;have b3:=Aa R3.out;go_wp2_with (at_builtin;refine Az _ rfl _ _ rfl _ l3 A O rfl Z.out _ 1 1 _ rfl SA.out (by omega) ?q1 ?_)
  case q1=>first|omega|(simp;omega)
  intro l4 w4 J b;have Y:Hid _:=B8 LA.out (by omega) Z.out b;have R4:Hid _:=(Jn Z.out b (by omega) (Aa RA.out)).trans RA.out;have c:=KV.out.app (Are.one (u:=⟨_,_,_,_,_,rfl,rfl,rfl,rfl,rfl⟩) E.out);have r:(O++[(⟨.int .i64 y.kind,.int .i64 y.int,.string K,.slice d i f,.slice l o m,rfl,rfl,rfl,rfl,rfl⟩:H5)]).length=A+1:=by rw[c.1];simp[H.out]
  rw[<- r] at J;obtain⟨a,R,L,rfl,p⟩:=Bu (Q:=fun k=>P k/\k≠w.heap.size+1+1) J c (by rw[r];omega) (Fr.below Y.out) (fun g hg=>⟨HP.out g (by omega),by omega⟩) (fun k hk hp=>⟨hp,by omega⟩);have N:=by have:=p.1;rw[<- c.1,r] at this;exact this
  have HN:Hid (Calls prog 45 #[.slice a R L] w4 (Aw (fun k=>P k/\k≠w.heap.size+1+1) w4 (n+2) z)):=by
   have:=Ja n _ w4 a R L _ p (by omega) I.out;rw[D.out (by simp)];refine Calls.mono this ?_;intro e w' h;exact Ek (fun k hk=>⟨HP.out k (by have:=Y.out.size;omega),by have:=Aa R4.out;omega⟩) h
  clear J b c p r N Z SA LA RA KV E I H D C OW R3 X Y3 e0 e1 e2 e3 e4 zy;go_wp2_with fail
  refine HN.out.mono ?_;rintro e w5 ⟨t,rfl,hb,hr⟩;obtain⟨b8,b5,b7,b6,b9,c1,c0,rfl,-,-,-,-⟩:=id hr;have RZ:Hid _:=Ac1 hb R4.out;have LZ:Hid _:=(Y.out).trans (hb.mono (Y.out).size);have a0:Hid (Ref _ w5 (n+2) z _):=hr;clear hb hr;obtain⟨HE,a2,a3,a4,a5,a6,a7,a8,a9,b0,b1,b2,XF⟩:=Bg RZ.out (by omega) LZ.out a0.out;go_wp2_with fail
  obtain⟨k0,k1,k2,k3,k4⟩:=Ah XF.out;change bodyPost _ _ _ _ _ (Ao _ _ 0 _ _ _ _ _);exact Ae2 (by simp[results,results54,go_sem,k0,k1,k2,k3,k4]) rfl HE.out
theorem bN (n:Nat)(P:Nat->Prop)(w:World)(x:Ag (AV (n+1)))(y:Ag (AV (n+1)))(u v:Value)(hx:Ref P w (n+2) x u)(hy:Ref P w (n+2) y v)(z:AV (n+2))(hP:∀k,w.heap.size<=k->P k)(hl:x.vals.length<=524288)(hl2:y.vals.length<=524288)(hW:∀t∈x.vals++y.vals,Wgt (n+1) t)
  (H0:¬((A7 (Au (n+1)) x.keys&&decide (x.kind=6))=true/\(A7 (Au (n+1)) y.keys&&decide (y.kind=6))=true)->z=(Ar:Ag (AV (n+1)))) (H1:(A7 (Au (n+1)) x.keys&&decide (x.kind=6))=true->(A7 (Au (n+1)) y.keys&&decide (y.kind=6))=true->z=(mkF (wt (n+1)) (Aq n (x.vals++y.vals).length) (x.vals++y.vals):Ag (AV (n+1)))) :
  Calls prog 54 #[.string ⟨#[43,43]⟩,u,v] w (Aw P w (n+2) z):=by
 obtain⟨s,ka,kl,kc,va,D,vc,rfl,t1,r1,q1,cv⟩:=id hx;obtain⟨s',b4,b6,b5,C,c,b0,rfl,t2,r2,q2,b3⟩:=id hy;have E:Hid _:=fun W hW=>Hk (n+1) P W x _ (hx.grew hW);have F:Hid _:=fun W hW=>Hk (n+1) P W y _ (hy.grew hW);have mo:=follows;obtain⟨G0,A0,B0,R0⟩:=Qf w #[.int .i64 x.kind,.int .i64 x.int,.string s,.slice ka kl kc,.slice va D vc] #[.int .i64 y.kind,.int .i64 y.int,.string s',.slice b4 b6 b5,.slice C c b0] #[.int .i64 0,.int .i64 0,.string ⟨#[]⟩,.slice none 0 0,.slice none 0 0] 30;obtain⟨Bq,O⟩:∃B,(A7 (Au (n+1)) y.keys&&decide (y.kind=6))=B:=⟨_,rfl⟩;rw[O] at F H0 H1;clear O;obtain⟨Bp,N⟩:∃B,(A7 (Au (n+1)) x.keys&&decide (x.kind=6))=B:=⟨_,rfl⟩;rw[N] at E H0 H1;clear N;have i:Hid _:=H0;have o:Hid _:=H1;clear H0 H1;go_enter func54,ntmps54
 go_wp2_with fail
 generalize ((w.alloc _).alloc _).alloc _=W0 at G0 A0 B0 R0 |-;refine(E.out W0 G0.out).mono ?_;rintro e w1 ⟨rfl,hg⟩;have G1:Hid (Ac w w1):=G0.out.trans hg;have A1:Hid _:=Ac1 hg.below A0.out;have B1:Hid _:=Ac1 hg.below B0.out;have R1:Hid _:=Ac1 hg.below R0.out;clear hg G0 A0 B0 R0 E;obtain⟨i0,i1,i2,i3,i4⟩:=Ah B1.out;have zb:=Aa B1.out;go_wp2_with fail
 refine(F.out w1 G1.out).mono ?_;rintro e w2 ⟨rfl,hg⟩;have G2:Hid (Ac w w2):=G1.out.trans hg;have A2:Hid _:=Ac1 hg.below A1.out;have B2:Hid _:=Ac1 hg.below B1.out;have R2:Hid _:=Ac1 hg.below R1.out;clear hg G1 A1 B1 R1 F i0 i1 i2 i3 i4 zb;have j4:=Ab A2.out 4;have za:=Aa A2.out;obtain⟨S,S1,V1⟩:=Jm q1;have SW:Hid (Hl w2 va D S):=S1.below G2.out.below;have KV:Hid (Are P w (n+1) x.vals S):=V1;have b9:D<=524288:=by have:=q1.1;omega
 obtain⟨m,S2,V2⟩:=Jm q2;have SB:Hid (Hl w C c m):=S2;have r:Hid (Are P w (n+1) y.vals m):=V2;have b7:c<=524288:=by have:=q2.1;omega
 have d:Hid (c=y.vals.length):=q2.1;have HP:Hid _:=hP;have q:Hid _:=hW;have p:Hid (D=x.vals.length):=q1.1;have zr:=Aa R2.out;clear hl hl2 t1 r1 q1 cv t2 r2 q2 b3 S1 V1 S2 V2 hP hx hy hW;go_wp2_with (at_builtin;refine Az _ rfl _ _ rfl (w.heap.size+3) (.slice none 0 0) 0 [] rfl (Ca _ _) va D vc S rfl SW.out (by omega) (by omega) ?_)
 intro l3 w3 I b;have G:Hid (w3.ownsRow _ 30 5 l3 D _):=I;have B3:Hid (Below _ w2 w3):=⟨b.os,b.tape,b.output,b.size,fun j hj=>b.block j hj (by simp[Value.ownBlock])⟩;have H:Hid _:=Ac1 B3.out R2.out;have Y3:Hid _:=Ac1 B3.out B2.out;have K:Hid _:=G2.out.below.trans (B3.out.mono G2.out.below.size);clear I b B3 R2 B2 A2 G2 SW j4 za zr;cases Bp with
 | false =>
  have K0:Hid (∀W:World,Ref (fun k=>P k/\k≠w.heap.size+1+1) W (n+2) z Bk):=fun W=>by rw[i.out (by simp)];exact Cm _ W (n+1)
  clear i o G KV SB r HP q p d;obtain⟨J,a0,a1,a2,a3,a4,a5,a6,a7,a8,a9,b1,L⟩:=Bg H.out (by omega) K.out (K0.out w3);go_wp2_with fail
  obtain⟨T,U,V,X,Y⟩:=Ah L.out;change bodyPost _ _ _ _ _ (Ao _ _ 0 _ _ _ _ _);exact Ae2 (by simp[results,results54,go_sem,T,U,V,X,Y]) rfl J.out
 | true =>
  cases Bq with
  | false =>
   have K0:Hid (∀W:World,Ref (fun k=>P k/\k≠w.heap.size+1+1) W (n+2) z Bk):=fun W=>by rw[i.out (by simp)];exact Cm _ W (n+1)
   clear i o G KV SB r HP q p d;obtain⟨J,a0,a1,a2,a3,a4,a5,a6,a7,a8,a9,b1,L⟩:=Bg H.out (by omega) K.out (K0.out w3);go_wp2_with fail
   obtain⟨T,U,V,X,Y⟩:=Ah L.out;change bodyPost _ _ _ _ _ (Ao _ _ 0 _ _ _ _ _);exact Ae2 (by simp[results,results54,go_sem,T,U,V,X,Y]) rfl J.out
  | true =>
   have e4:=Ab Y3.out 4;have zy:=Aa Y3.out;have SC:Hid (Hl w3 C c m):=SB.out.below K.out;have b8:=Aa H.out;go_wp2_with (at_builtin;refine Az _ rfl _ _ rfl _ l3 D S rfl G.out C c b0 m rfl SC.out (by omega) ?q1 ?_)
   case q1=>first|omega|(simp;omega)
   intro l4 w4 I b;have L4:Hid _:=B8 K.out (by omega) G.out b;have R4:Hid _:=(Jn G.out b (by omega) (Aa H.out)).trans H.out;have f:=KV.out.app r.out;have A:(S++m).length=D+c:=by rw[f.1];simp[p.out,d.out]
   rw[<- A] at I;obtain⟨a,Z,M,rfl,l⟩:=Bu (Q:=fun k=>P k/\k≠w.heap.size+1+1) I f (by rw[A];omega) (Fr.below L4.out) (fun g hg=>⟨HP.out g (by omega),by omega⟩) (fun k hk hp=>⟨hp,by omega⟩);have R:=by have:=l.1;rw[<- f.1,A] at this;exact this
   have HN:Hid (Calls prog 45 #[.slice a Z M] w4 (Aw (fun k=>P k/\k≠w.heap.size+1+1) w4 (n+2) z)):=by
    have:=Ja n _ w4 a Z M _ l (by omega) q.out;rw[o.out (by simp) (by simp)];refine Calls.mono this ?_;intro e w' h;exact Ek (fun k hk=>⟨HP.out k (by have:=L4.out.size;omega),by have:=Aa R4.out;omega⟩) h
   clear I b f l A R SB SC KV r q p d o i G H K Y3 e4 zy;go_wp2_with fail
   refine HN.out.mono ?_;rintro e w5 ⟨t,rfl,hb,hr⟩;obtain⟨c3,c0,c2,c1,c4,c6,c5,rfl,-,-,-,-⟩:=id hr;have RZ:Hid _:=Ac1 hb R4.out;have LZ:Hid _:=(L4.out).trans (hb.mono (L4.out).size);have b2:Hid (Ref _ w5 (n+2) z _):=hr;clear hb hr;obtain⟨J,a0,a1,a2,a3,a4,a5,a6,a7,a8,a9,b1,L⟩:=Bg RZ.out (by omega) LZ.out b2.out;go_wp2_with fail
   obtain⟨T,U,V,X,Y⟩:=Ah L.out;change bodyPost _ _ _ _ _ (Ao _ _ 0 _ _ _ _ _);exact Ae2 (by simp[results,results54,go_sem,T,U,V,X,Y]) rfl J.out
end Go.Proofs.YtdpeliifdlhhkaaGreatDoor.Sx
