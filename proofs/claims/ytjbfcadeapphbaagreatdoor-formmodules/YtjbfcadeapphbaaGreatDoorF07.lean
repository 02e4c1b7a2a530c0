/- Expressions as trees in memory, by what they are written once more to. -/
import Derived.Test.YtjbfcadeapphbaaGreatDoorF06
import Derived.Test.YtjbfcadeapphbaaGreatDoorF05
namespace Go.Proofs.YtjbfcadeapphbaaGreatDoor.Sx
set_option maxRecDepth 100000
set_option maxHeartbeats 8000000
open Go.RowKit Go.Sort
theorem Uf {β:Type}{f:List UInt8->β}{l v:List UInt8}{r k:β}(H:Hid (f l=r))(h:(l==v)=true)(hv:f v=k):r=k:=by
 have:=eq_of_beq h;subst this;rw[<- H.out];exact hv
theorem Rs (s:ByteArray)(w:World)(r:Nat)(H:Hid (C6 s.toList=r)):Calls Tryz.prog 65 #[.string s] w fun e w'=>e=.returned (.int .i64 r)/\w'=w:=by
 go_enter Tryz.func65,Tryz.ntmps65
 go_wp2_with fail
 all_goals first
  | (exact I8 ‹(s.toList==_)=true› ‹(s.toList==_)=false›)
  | (
   have q:=Uf (k:=0) H ‹(s.toList==_)=true› (by decide);subst q;go_ret
   exact⟨rfl,rfl⟩)
  | (
   have q:=Uf (k:=6) H ‹(s.toList==_)=true› (by decide);subst q;go_ret
   exact⟨rfl,rfl⟩)
  | (
   have q:=Uf (k:=12) H ‹(s.toList==_)=true› (by decide);subst q;go_ret
   exact⟨rfl,rfl⟩)
  | (
   have q:r=14:=by
    rw[<- H.out];simp only[C6,Es,Ek,Df,List.contains_cons,List.contains_nil,Bool.or_false, *,Bool.false_eq_true,if_false]
   subst q;go_ret
   exact⟨rfl,rfl⟩)
theorem Fh (s:ByteArray)(w:World):Calls Tryz.prog 65 #[.string s] w fun e w'=>e=.returned (.int .i64 (C6 s.data.toList))/\w'=w:=by
 refine Rs s w _ ?_;rw[ByteArray.toList_eq];exact rfl
def gJ:List (List UInt8):=[[97,108,119,97,121,115],[101,118,101,110,116,117,97,108,108,121],[117,110,116,105,108],[108,101,97,100,115,116,111]]
def Ks (l:List UInt8):Nat:=if gJ.contains l then 11 else 12
theorem Qa (s:ByteArray)(w:World)(r:Nat)(H:Hid (Ks s.toList=r)):Calls Tryz.prog 130 #[.string s] w fun e w'=>e=.returned (.int .i64 r)/\w'=w:=by
 go_enter Tryz.func130,Tryz.ntmps130
 go_wp2_with fail
 all_goals first
  | (exact I8 ‹(s.toList==_)=true› ‹(s.toList==_)=false›)
  | (
   have q:=Uf (k:=11) H ‹(s.toList==_)=true› (by decide);subst q;go_ret
   exact⟨rfl,rfl⟩)
  | (
   have q:r=12:=by
    rw[<- H.out];simp only[Ks,gJ,List.contains_cons,List.contains_nil,Bool.or_false, *,Bool.false_eq_true,if_false]
   subst q;go_ret
   exact⟨rfl,rfl⟩)
theorem Lm (s:ByteArray)(w:World):Calls Tryz.prog 130 #[.string s] w fun e w'=>e=.returned (.int .i64 (Ks s.data.toList))/\w'=w:=by
 refine Qa s w _ ?_;rw[ByteArray.toList_eq];exact rfl
def Kf (n:Nat):Value:=if n=0 then .agg #[.int .i64 (-1),.int .i64 0,.int .i64 0] else .agg #[.int .i64 (n:Int),.int .i64 (Cv n:Int),.int .i64 (Ca n:Int)]
theorem Zf (n:Int)(w:World)(hn:0<=n/\n<=14):Calls Tryz.prog 101 #[.int .i64 n] w fun e w'=>e=.returned (.agg #[.int .i64 n,.int .i64 (n+1),.int .i64 (n+1)])/\Ad w w':=by
 have a:=follows;go_enter Tryz.func101,Tryz.ntmps101
 go_wp2_with fail
 refine bodyPost_ret (v:=.agg #[.int .i64 n,.int .i64 (n+1),.int .i64 (n+1)]) (by simp[results,Tryz.results101,go_sem]) rfl ⟨rfl,(Ad.refl w).alloc _⟩
theorem Rt (n:Int)(w:World)(hn:0<=n/\n<=14):Calls Tryz.prog 102 #[.int .i64 n] w fun e w'=>e=.returned (.agg #[.int .i64 n,.int .i64 n,.int .i64 (n+1)])/\Ad w w':=by
 have a:=follows;go_enter Tryz.func102,Tryz.ntmps102
 go_wp2_with fail
 refine bodyPost_ret (v:=.agg #[.int .i64 n,.int .i64 n,.int .i64 (n+1)]) (by simp[results,Tryz.results102,go_sem]) rfl ⟨rfl,(Ad.refl w).alloc _⟩
theorem Qb (n:Int)(w:World)(hn:0<=n/\n<=14):Calls Tryz.prog 103 #[.int .i64 n] w fun e w'=>e=.returned (.agg #[.int .i64 n,.int .i64 (n+1),.int .i64 n])/\Ad w w':=by
 have a:=follows;go_enter Tryz.func103,Tryz.ntmps103
 go_wp2_with fail
 refine bodyPost_ret (v:=.agg #[.int .i64 n,.int .i64 (n+1),.int .i64 n]) (by simp[results,Tryz.results103,go_sem]) rfl ⟨rfl,(Ad.refl w).alloc _⟩
theorem Qc {w w':World}{o:Obj}{vs:Array Value}{T:TypeId}(ho:o=.cells vs T (0,0))(hg:Ad (w.alloc o) w'):w'.heap[w.heap.size]?=some (.cells vs T (0,0)):=by
 subst ho;exact((Fr.grew (P:=fun _=>True) hg).block _ (by simp) trivial).trans (Af rfl)
theorem Ru (s:ByteArray)(w:World)(h:s.data.toList∈E0.map Prod.fst):Calls Tryz.prog 67 #[.string s] w fun e w'=>e=.returned (Kf (Ak s.data.toList))/\Ad w w':=by
 have t:=follows;have p:Hid (∀(n:Int)(W:World),_):=Zf;have o:Hid (∀(n:Int)(W:World),_):=Rt;have q:Hid (∀(n:Int)(W:World),_):=Qb;simp only[E0,List.map_cons,List.map_nil,List.mem_cons,List.not_mem_nil,or_false] at h;obtain⟨v,c⟩:∃v,Kf (Ak s.data.toList)=v:=⟨_,rfl⟩;rw[c];have i:s=⟨⟨s.data.toList⟩⟩:=by cases s;rfl
 generalize s.data.toList=l at h i c;subst i;rcases h with rfl|rfl|rfl|rfl|rfl|rfl|rfl|rfl|rfl|rfl|rfl|rfl|rfl|rfl|rfl|rfl|rfl|rfl|rfl|rfl|rfl|rfl|rfl|rfl|rfl
 all_goals
  have r:Hid (_=v):=c;clear c;go_enter Tryz.func67,Tryz.ntmps67
  go_wp2_with (first
   | (go_at_call 101;refine(p.out _ _ (by decide)).mono ?_;rintro e w' ⟨rfl,b⟩;have a:Hid (w'.heap[w.heap.size]?=some _):=Qc rfl b;have G:Hid (Ad w w'):=((Ad.refl w).alloc _).trans b;obtain⟨j,k,m⟩:=Y2 a.out;obtain⟨z0,z1,z2⟩:=Kq a.out;clear b)
   | (go_at_call 102;refine(o.out _ _ (by decide)).mono ?_;rintro e w' ⟨rfl,b⟩;have a:Hid (w'.heap[w.heap.size]?=some _):=Qc rfl b;have G:Hid (Ad w w'):=((Ad.refl w).alloc _).trans b;obtain⟨j,k,m⟩:=Y2 a.out;obtain⟨z0,z1,z2⟩:=Kq a.out;clear b)
   | (go_at_call 103;refine(q.out _ _ (by decide)).mono ?_;rintro e w' ⟨rfl,b⟩;have a:Hid (w'.heap[w.heap.size]?=some _):=Qc rfl b;have G:Hid (Ad w w'):=((Ad.refl w).alloc _).trans b;obtain⟨j,k,m⟩:=Y2 a.out;obtain⟨z0,z1,z2⟩:=Kq a.out;clear b))
  have d:=fun x y z=>Aa (Ag (Ag (Ag a.out 0 x) 1 y) 2 z) 0;have f:=fun x y z=>Aa (Ag (Ag (Ag a.out 0 x) 1 y) 2 z) 1;have g:=fun x y z=>Aa (Ag (Ag (Ag a.out 0 x) 1 y) 2 z) 2;simp at d f g;refine bodyPost_ret (v:=v) (by simp[results,Tryz.results67,go_sem,d,f,g];exact r.out) rfl ⟨rfl,?_⟩;exact((G.out.setNew (Nat.le_refl _) _).setNew (Nat.le_refl _) _).setNew (Nat.le_refl _) _
theorem Rv (s:ByteArray)(w:World)(h:s.data.toList ∉ E0.map Prod.fst):Calls Tryz.prog 67 #[.string s] w fun e w'=>e=.returned (.agg #[.int .i64 (-1),.int .i64 0,.int .i64 0])/\Ad w w':=by
 have F:=follows;simp only[E0,List.map_cons,List.map_nil,List.mem_cons,List.not_mem_nil,or_false,not_or] at h;have E:s.toList=s.data.toList:=by rw[ByteArray.toList_eq]
 rw[<- E] at h;obtain⟨t,u,x,y,z,A,B,C,D,a,b,c,d,f,g,i,j,k,l,m,n,o,p,q,r⟩:=h;replace t:=beq_eq_false_iff_ne.2 t;replace u:=beq_eq_false_iff_ne.2 u;replace x:=beq_eq_false_iff_ne.2 x;replace y:=beq_eq_false_iff_ne.2 y;replace z:=beq_eq_false_iff_ne.2 z;replace A:=beq_eq_false_iff_ne.2 A;replace B:=beq_eq_false_iff_ne.2 B;replace C:=beq_eq_false_iff_ne.2 C;replace D:=beq_eq_false_iff_ne.2 D;replace a:=beq_eq_false_iff_ne.2 a;replace b:=beq_eq_false_iff_ne.2 b;replace c:=beq_eq_false_iff_ne.2 c;replace d:=beq_eq_false_iff_ne.2 d;replace f:=beq_eq_false_iff_ne.2 f;replace g:=beq_eq_false_iff_ne.2 g;replace i:=beq_eq_false_iff_ne.2 i;replace j:=beq_eq_false_iff_ne.2 j;replace k:=beq_eq_false_iff_ne.2 k;replace l:=beq_eq_false_iff_ne.2 l;replace m:=beq_eq_false_iff_ne.2 m;replace n:=beq_eq_false_iff_ne.2 n;replace o:=beq_eq_false_iff_ne.2 o;replace p:=beq_eq_false_iff_ne.2 p;replace q:=beq_eq_false_iff_ne.2 q;replace r:=beq_eq_false_iff_ne.2 r;clear E;go_enter Tryz.func67,Tryz.ntmps67
 go_wp2_with fail
 refine bodyPost_ret (v:=.agg #[.int .i64 (-1),.int .i64 0,.int .i64 0]) (by simp[results,Tryz.results67,go_sem]) rfl ⟨rfl,(Ad.refl w).alloc _⟩
theorem Gn {p:List UInt8}:∀(l:List (List UInt8×Nat)),p ∉ l.map Prod.fst->l.lookup p=none
 | [],_=>rfl
 | (a,b)::l,h=>by
  simp only[List.map_cons,List.mem_cons,not_or] at h;have e:(p==a)=false:=by simpa using h.1
  rw[List.lookup_cons,e];exact Gn l h.2
theorem H7 (s:ByteArray)(w:World):Calls Tryz.prog 67 #[.string s] w fun e w'=>e=.returned (Kf (Ak s.data.toList))/\Ad w w':=by
 by_cases h:s.data.toList∈E0.map Prod.fst
 ·exact Ru s w h
 ·have e:Ak s.data.toList=0:=by unfold Ak;rw[Gn _ h];rfl
  rw[e];exact Rv s w h
def gK:List UInt8:=[115,101,116]
def gL:List UInt8:=[115,101,113]
def Ki:List UInt8:=[102,117,110]
def oAt:List UInt8:=[97,116]
def Zg:List UInt8:=[112,117,116]
def Zh:List UInt8:=[110,101,103]
def Jj:List (List UInt8):=[[97,108,108],[115,111,109,101],[99,104,111,111,115,101],[102,117,110]]
def En:List (List UInt8):=[[110,111,116],[97,108,119,97,121,115],[101,118,101,110,116,117,97,108,108,121]]
def Dq:List (List UInt8):=[[100,111,109,97,105,110],[112,111,119,101,114,115,101,116],[102,108,97,116,116,101,110]]
def Mv (op:List UInt8)(kids:List PX)(x:PX):Prop :=
 (op∈E0.map Prod.fst/\∃a b,kids=[a,b]/\x=B8 op a b)\/(op=gK/\x=Jo kids)\/(op=gL/\x=Iz kids)\/(op=Ki/\x=Jh kids) \/
 (op=oAt/\∃f k,kids=[f,k]/\x=dAt f k)\/(op=Zg/\∃f k v,kids=[f,k,v]/\x=Gp f k v)\/(op=Zh/\∃a,kids=[a]/\x=Co 12 Lg a) \/
 (op∈En/\∃a,kids=[a]/\x=Co 6 op a)\/(op∈Dq/\∃a,kids=[a]/\x=Co 12 op a)\/(op∈Cs/\x=Ef op kids)
def Oi (sort:Nat)(op nm:List UInt8)(n:Int)(kids:List PX)(x:PX):Prop :=
 (sort=0/\-9223372036854775808<=n/\n<=9223372036854775807/\x=Cw (Lib.itoa n))\/(sort=1/\x=Fg nm)\/(sort=2/\x=Cw op)\/(sort=3/\x=Cw nm)\/(sort=4/\x=Cw (nm++[39])) \/
 (sort=5/\x=Ef nm kids)\/(sort=6/\x=Ed 12 Cc nm)\/(sort=7/\x=Ed 6 C5 nm)\/(sort=8/\∃a b c,kids=[a,b,c]/\x=dIf a b c) \/
 (sort=9/\∃a b,kids=[a,b]/\x=Kh nm a b)\/(sort=10/\(op∈Jj\/op∈Dr)/\∃a b,kids=[a,b]/\x=C7 op nm a b)\/((sort=11\/sort=12)/\Mv op kids x)
section
variable (P:Nat->Prop) (w:World)
def lA (R:PX->Value->Prop)(x:PX)(v:Value):Prop :=
 ∃(b sort:Nat)(op nm:ByteArray)(n:Int)(at':Nat)(pa:Option Addr)(len cap:Nat)(kids:List PX),
  v=.pointer (some ⟨b,0,none⟩)/\P b/\w.heap[b]?=some (.cells #[.int .i64 (sort:Int),.string op,.string nm,.int .i64 n,.int .i64 (at':Int),.slice pa len cap] 81 (0,0)) /\
  Bw P w R pa len kids/\Oi sort op.data.toList nm.data.toList n kids x
def Bt:Nat->PX->Value->Prop
 | 0,_,_=>False
 | n+1,x,v=>lA P w (Bt n) x v
def Ah (x:PX)(v:Value):Prop:=∃n,Bt P w n x v
end
theorem Bw.mono {P:Nat->Prop}{w:World}{R R':PX->Value->Prop}(hR:∀x v,R x v->R' x v){a:Option Addr}{len:Nat}{es:List PX}(h:Bw P w R a len es):Bw P w R' a len es:=by
 obtain⟨f,g,c⟩:=h;refine⟨f,g,?_⟩;rcases c with c|⟨b,d,e,j,k,c⟩
 ·exact .inl c
 ·exact .inr ⟨b,d,e,j,k,fun i x q=>by obtain⟨v,m,l⟩:=c i x q;exact⟨v,m,hR x v l⟩⟩
theorem Bt.up {P:Nat->Prop}{w:World}:∀(n m:Nat),n<=m->∀x v,Bt P w n x v->Bt P w m x v
 | 0,_,_,_,_,h=>absurd h id
 | n+1,0,hm,_,_,_=>absurd hm (by omega)
 | n+1,m+1,hm,x,v,h=>by
  obtain⟨b,sort,op,nm,i,a,pa,len,cap,kids,h1,h2,h3,h4,h5⟩:=h;exact⟨b,sort,op,nm,i,a,pa,len,cap,kids,h1,h2,h3,h4.mono (Bt.up n m (by omega)),h5⟩
theorem Bt.fr {P Q:Nat->Prop}{w w':World}(hf:Fr P w w')(hQ:∀k,k<w.heap.size->P k->Q k):∀(n:Nat) x v,Bt P w n x v->Bt Q w' n x v
 | 0,_,_,h=>absurd h id
 | n+1,x,v,h=>by
  obtain⟨b,sort,op,nm,i,a,pa,len,cap,kids,h1,h2,h3,h4,h5⟩:=h;exact⟨b,sort,op,nm,i,a,pa,len,cap,kids,h1,hQ b (Ac h3) h2,(hf.block b (Ac h3) h2).trans h3,Bw.fr hf (Bt.fr hf hQ n) hQ h4,h5⟩
theorem Ah.fr {P Q:Nat->Prop}{w w':World}(hf:Fr P w w')(hQ:∀k,k<w.heap.size->P k->Q k){x:PX}{v:Value}(h:Ah P w x v):Ah Q w' x v:=by
 obtain⟨n,h⟩:=h;exact⟨n,Bt.fr hf hQ n x v h⟩
theorem Ah.ptr {P:Nat->Prop}{w:World}{x:PX}{v:Value}(h:Ah P w x v):∃b,v=.pointer (some ⟨b,0,none⟩)/\P b/\b<w.heap.size:=by
 obtain⟨n,h⟩:=h;cases n with
 | zero=>exact absurd h id
 | succ n =>
  obtain⟨b,d,p,o,i,a,q,k,e,c,f,g,j,l,m⟩:=h;exact⟨b,f,g,Ac j⟩
theorem Ah.node {P:Nat->Prop}{w:World}{x:PX}{v:Value}(h:lA P w (Ah P w) x v):Ah P w x v:=by
 obtain⟨b,p,M,L,i,a,z,f,r,c,D,E,F,⟨A,B,k⟩,G⟩:=h;have s:∃n,Bw P w (Bt P w n) z f c:=by
  rcases k with k|⟨g,j,e,H,J,k⟩
  ·exact⟨0,A,B,.inl k⟩
  ·have:∀(l:List PX)(o:Nat),(∀i x,l[i]?=some x->∃v,w.cell? ⟨g,o+i,none⟩=some v/\Ah P w x v)->∃n,∀i x,l[i]?=some x->∃v,w.cell? ⟨g,o+i,none⟩=some v/\Bt P w n x v:=by
    intro l
    induction l with
    | nil=>intro o _;exact⟨0,fun i x q=>by simp at q⟩
    | cons y l ih =>
     intro o t;obtain⟨N,C,m,I⟩:=t 0 y rfl;obtain⟨n,d⟩:=ih (o+1) fun i x q=>by
      have:=t (i+1) x (by simpa using q);rw[show o+(i+1)=o+1+i from by omega] at this;exact this
     refine⟨max m n,fun i x q=>?_⟩;cases i with
     | zero=>simp at q;subst q;exact⟨N,C,Bt.up m _ (by omega) _ _ I⟩
     | succ i =>
      obtain⟨v,u,K⟩:=d i x (by simpa using q);rw[show o+1+i=o+(i+1) from by omega] at u;exact⟨v,u,Bt.up n _ (by omega) _ _ K⟩
   obtain⟨n,d⟩:=this c j k;exact⟨n,A,B,.inr ⟨g,j,e,H,J,d⟩⟩
 obtain⟨n,d⟩:=s;exact⟨n+1,b,p,M,L,i,a,z,f,r,c,D,E,F,d,G⟩
theorem Hd {P:Nat->Prop}{w:World}{R:PX->Value->Prop}(a:Option Addr):Bw P w R a 0 []:=⟨rfl,by omega,.inl rfl⟩
def Dd (w:World)(br:Nat)(t:ByteArray)(d:Nat)(r:Except (Nat×Nat) (PX×Nat))(e:Ending)(w':World):Prop :=
 Fr (·≠br) w w'/\match r with
  | .ok (x,j)=>(∃v,e=.returned v/\Ah (fun k=>w.heap.size<=k) w' x v)/\RdF w' br t j d
  | .error (c,p)=>e=Flt c p
theorem Ax {β γ:Type}{a:RX β}{k:β->Nat->RX γ}{r:Except (Nat×Nat) (γ×Nat)}(h:bX a k=some r):(∃e,a=some (.error e)/\r=.error e)\/∃x j,a=some (.ok (x,j))/\k x j=some r:=by
 rcases a with _|(e|⟨x,j⟩)
 ·simp[bX] at h
 ·simp only[bX,Option.some.injEq] at h;exact .inl ⟨e,rfl,h.symm⟩
 ·exact .inr ⟨x,j,rfl,h⟩
end Go.Proofs.YtjbfcadeapphbaaGreatDoor.Sx
