/- Expressions as trees in memory, by what they are written once more to. -/
import Derived.Test.YtjbfcadeapphbaaGreatDoorK07
import Derived.Test.YtjbfcadeapphbaaGreatDoorK05
namespace Go.Proofs.YtjbfcadeapphbaaGreatDoor.Sx
set_option maxRecDepth 100000
set_option maxHeartbeats 8000000
open Go.RowKit Go.Sort
theorem Qq (s:ByteArray)(w:World)(h:s.data.toList∈Eu.map Prod.fst):Calls Tryz.prog 67 #[.string s] w fun e w'=>e=.returned (Jn (Ae s.data.toList))/\Ag w w':=by
 have t:=follows;have p:Hid (∀(n:Int)(W:World),_):=Xa;have o:Hid (∀(n:Int)(W:World),_):=Qp;have q:Hid (∀(n:Int)(W:World),_):=Oy;simp only[Eu,List.map_cons,List.map_nil,List.mem_cons,List.not_mem_nil,or_false] at h;obtain⟨v,c⟩:∃v,Jn (Ae s.data.toList)=v:=⟨_,rfl⟩;rw[c];have i:s=⟨⟨s.data.toList⟩⟩:=by cases s;rfl
 generalize s.data.toList=l at h i c;subst i;rcases h with rfl|rfl|rfl|rfl|rfl|rfl|rfl|rfl|rfl|rfl|rfl|rfl|rfl|rfl|rfl|rfl|rfl|rfl|rfl|rfl|rfl|rfl|rfl|rfl|rfl
 all_goals
  have r:Hid (_=v):=c;clear c;go_enter Tryz.func67,Tryz.ntmps67
  go_wp2_with (first
   | (go_at_call 101;refine(p.out _ _ (by decide)).mono ?_;rintro e w' ⟨rfl,b⟩;have a:Hid (w'.heap[w.heap.size]?=some _):=Oz rfl b;have G:Hid (Ag w w'):=((Ag.refl w).alloc _).trans b;obtain⟨j,k,m⟩:=Ws a.out;obtain⟨z0,z1,z2⟩:=Jw a.out;clear b)
   | (go_at_call 102;refine(o.out _ _ (by decide)).mono ?_;rintro e w' ⟨rfl,b⟩;have a:Hid (w'.heap[w.heap.size]?=some _):=Oz rfl b;have G:Hid (Ag w w'):=((Ag.refl w).alloc _).trans b;obtain⟨j,k,m⟩:=Ws a.out;obtain⟨z0,z1,z2⟩:=Jw a.out;clear b)
   | (go_at_call 103;refine(q.out _ _ (by decide)).mono ?_;rintro e w' ⟨rfl,b⟩;have a:Hid (w'.heap[w.heap.size]?=some _):=Oz rfl b;have G:Hid (Ag w w'):=((Ag.refl w).alloc _).trans b;obtain⟨j,k,m⟩:=Ws a.out;obtain⟨z0,z1,z2⟩:=Jw a.out;clear b))
  have d:=fun x y z=>Aa (Ah (Ah (Ah a.out 0 x) 1 y) 2 z) 0;have f:=fun x y z=>Aa (Ah (Ah (Ah a.out 0 x) 1 y) 2 z) 1;have g:=fun x y z=>Aa (Ah (Ah (Ah a.out 0 x) 1 y) 2 z) 2;simp at d f g;refine bodyPost_ret (v:=v) (by simp[results,Tryz.results67,go_sem,d,f,g];exact r.out) rfl ⟨rfl,?_⟩;exact((G.out.setNew (Nat.le_refl _) _).setNew (Nat.le_refl _) _).setNew (Nat.le_refl _) _
theorem Qr (s:ByteArray)(w:World)(h:s.data.toList ∉ Eu.map Prod.fst):Calls Tryz.prog 67 #[.string s] w fun e w'=>e=.returned (.agg #[.int .i64 (-1),.int .i64 0,.int .i64 0])/\Ag w w':=by
 have F:=follows;simp only[Eu,List.map_cons,List.map_nil,List.mem_cons,List.not_mem_nil,or_false,not_or] at h;have E:s.toList=s.data.toList:=by rw[ByteArray.toList_eq]
 rw[<- E] at h;obtain⟨t,u,x,y,z,A,B,C,D,a,b,c,d,f,g,i,j,k,l,m,n,o,p,q,r⟩:=h;replace t:=beq_eq_false_iff_ne.2 t;replace u:=beq_eq_false_iff_ne.2 u;replace x:=beq_eq_false_iff_ne.2 x;replace y:=beq_eq_false_iff_ne.2 y;replace z:=beq_eq_false_iff_ne.2 z;replace A:=beq_eq_false_iff_ne.2 A;replace B:=beq_eq_false_iff_ne.2 B;replace C:=beq_eq_false_iff_ne.2 C;replace D:=beq_eq_false_iff_ne.2 D;replace a:=beq_eq_false_iff_ne.2 a;replace b:=beq_eq_false_iff_ne.2 b;replace c:=beq_eq_false_iff_ne.2 c;replace d:=beq_eq_false_iff_ne.2 d;replace f:=beq_eq_false_iff_ne.2 f;replace g:=beq_eq_false_iff_ne.2 g;replace i:=beq_eq_false_iff_ne.2 i;replace j:=beq_eq_false_iff_ne.2 j;replace k:=beq_eq_false_iff_ne.2 k;replace l:=beq_eq_false_iff_ne.2 l;replace m:=beq_eq_false_iff_ne.2 m;replace n:=beq_eq_false_iff_ne.2 n;replace o:=beq_eq_false_iff_ne.2 o;replace p:=beq_eq_false_iff_ne.2 p;replace q:=beq_eq_false_iff_ne.2 q;replace r:=beq_eq_false_iff_ne.2 r;clear E;go_enter Tryz.func67,Tryz.ntmps67
 go_wp2_with fail
 refine bodyPost_ret (v:=.agg #[.int .i64 (-1),.int .i64 0,.int .i64 0]) (by simp[results,Tryz.results67,go_sem]) rfl ⟨rfl,(Ag.refl w).alloc _⟩
theorem Jz {p:List UInt8}:∀(l:List (List UInt8×Nat)),p ∉ l.map Prod.fst->l.lookup p=none
 | [],_=>rfl
 | (a,b)::l,h=>by
  simp only[List.map_cons,List.mem_cons,not_or] at h;have e:(p==a)=false:=by simpa using h.1
  rw[List.lookup_cons,e];exact Jz l h.2
theorem Hd (s:ByteArray)(w:World):Calls Tryz.prog 67 #[.string s] w fun e w'=>e=.returned (Jn (Ae s.data.toList))/\Ag w w':=by
 by_cases h:s.data.toList∈Eu.map Prod.fst
 ·exact Qq s w h
 ·have e:Ae s.data.toList=0:=by unfold Ae;rw[Jz _ h];rfl
  rw[e];exact Qr s w h
def dG:List UInt8:=[115,101,116]
def dH:List UInt8:=[115,101,113]
def Uu:List UInt8:=[102,117,110]
def oAt:List UInt8:=[97,116]
def Xb:List UInt8:=[112,117,116]
def Xc:List UInt8:=[110,101,103]
def Iu:List (List UInt8):=[[97,108,108],[115,111,109,101],[99,104,111,111,115,101],[102,117,110]]
def Hf:List (List UInt8):=[[110,111,116],[97,108,119,97,121,115],[101,118,101,110,116,117,97,108,108,121]]
def Gr:List (List UInt8):=[[100,111,109,97,105,110],[112,111,119,101,114,115,101,116],[102,108,97,116,116,101,110]]
def Lk (op:List UInt8)(kids:List PX)(x:PX):Prop :=
 (op∈Eu.map Prod.fst/\∃a b,kids=[a,b]/\x=I0 op a b)\/(op=dG/\x=Kt kids)\/(op=dH/\x=Jq kids)\/(op=Uu/\x=Kl kids) \/
 (op=oAt/\∃f k,kids=[f,k]/\x=dAt f k)\/(op=Xb/\∃f k v,kids=[f,k,v]/\x=Ht f k v)\/(op=Xc/\∃a,kids=[a]/\x=Em 12 Ks a) \/
 (op∈Hf/\∃a,kids=[a]/\x=Em 6 op a)\/(op∈Gr/\∃a,kids=[a]/\x=Em 12 op a)\/(op∈Cz/\x=Ed op kids)
def M5 (sort:Nat)(op nm:List UInt8)(n:Int)(kids:List PX)(x:PX):Prop :=
 (sort=0/\-9223372036854775808<=n/\n<=9223372036854775807/\x=Ct (Lib.itoa n))\/(sort=1/\x=Ee nm)\/(sort=2/\x=Ct op)\/(sort=3/\x=Ct nm)\/(sort=4/\x=Ct (nm++[39])) \/
 (sort=5/\x=Ed nm kids)\/(sort=6/\x=Gm 12 Cd nm)\/(sort=7/\x=Gm 6 C8 nm)\/(sort=8/\∃a b c,kids=[a,b,c]/\x=dIf a b c) \/
 (sort=9/\∃a b,kids=[a,b]/\x=L7 nm a b)\/(sort=10/\(op∈Iu\/op∈Cp)/\∃a b,kids=[a,b]/\x=Ds op nm a b)\/((sort=11\/sort=12)/\Lk op kids x)
section
variable (P:Nat->Prop) (w:World)
def gR (R:PX->Value->Prop)(x:PX)(v:Value):Prop :=
 ∃(b sort:Nat)(op nm:ByteArray)(n:Int)(at':Nat)(pa:Option Addr)(len cap:Nat)(kids:List PX),
  v=.pointer (some ⟨b,0,none⟩)/\P b/\w.heap[b]?=some (.cells #[.int .i64 (sort:Int),.string op,.string nm,.int .i64 n,.int .i64 (at':Int),.slice pa len cap] 81 (0,0)) /\
  Ca P w R pa len kids/\M5 sort op.data.toList nm.data.toList n kids x
def A7:Nat->PX->Value->Prop
 | 0,_,_=>False
 | n+1,x,v=>gR P w (A7 n) x v
def Af (x:PX)(v:Value):Prop:=∃n,A7 P w n x v
end
theorem Ca.mono {P:Nat->Prop}{w:World}{R R':PX->Value->Prop}(hR:∀x v,R x v->R' x v){a:Option Addr}{len:Nat}{es:List PX}(h:Ca P w R a len es):Ca P w R' a len es:=by
 obtain⟨f,g,c⟩:=h;refine⟨f,g,?_⟩;rcases c with c|⟨b,d,e,j,k,c⟩
 ·exact .inl c
 ·exact .inr ⟨b,d,e,j,k,fun i x q=>by obtain⟨v,m,l⟩:=c i x q;exact⟨v,m,hR x v l⟩⟩
theorem A7.up {P:Nat->Prop}{w:World}:∀(n m:Nat),n<=m->∀x v,A7 P w n x v->A7 P w m x v
 | 0,_,_,_,_,h=>absurd h id
 | n+1,0,hm,_,_,_=>absurd hm (by omega)
 | n+1,m+1,hm,x,v,h=>by
  obtain⟨b,sort,op,nm,i,a,pa,len,cap,kids,h1,h2,h3,h4,h5⟩:=h;exact⟨b,sort,op,nm,i,a,pa,len,cap,kids,h1,h2,h3,h4.mono (A7.up n m (by omega)),h5⟩
theorem A7.fr {P Q:Nat->Prop}{w w':World}(hf:Fr P w w')(hQ:∀k,k<w.heap.size->P k->Q k):∀(n:Nat) x v,A7 P w n x v->A7 Q w' n x v
 | 0,_,_,h=>absurd h id
 | n+1,x,v,h=>by
  obtain⟨b,sort,op,nm,i,a,pa,len,cap,kids,h1,h2,h3,h4,h5⟩:=h;exact⟨b,sort,op,nm,i,a,pa,len,cap,kids,h1,hQ b (Ab h3) h2,(hf.block b (Ab h3) h2).trans h3,Ca.fr hf (A7.fr hf hQ n) hQ h4,h5⟩
theorem Af.fr {P Q:Nat->Prop}{w w':World}(hf:Fr P w w')(hQ:∀k,k<w.heap.size->P k->Q k){x:PX}{v:Value}(h:Af P w x v):Af Q w' x v:=by
 obtain⟨n,h⟩:=h;exact⟨n,A7.fr hf hQ n x v h⟩
theorem Af.ptr {P:Nat->Prop}{w:World}{x:PX}{v:Value}(h:Af P w x v):∃b,v=.pointer (some ⟨b,0,none⟩)/\P b/\b<w.heap.size:=by
 obtain⟨n,h⟩:=h;cases n with
 | zero=>exact absurd h id
 | succ n =>
  obtain⟨b,d,p,o,i,a,q,k,e,c,f,g,j,l,m⟩:=h;exact⟨b,f,g,Ab j⟩
theorem Af.node {P:Nat->Prop}{w:World}{x:PX}{v:Value}(h:gR P w (Af P w) x v):Af P w x v:=by
 obtain⟨b,p,M,L,i,a,z,f,r,c,D,E,F,⟨A,B,k⟩,G⟩:=h;have s:∃n,Ca P w (A7 P w n) z f c:=by
  rcases k with k|⟨g,j,e,H,J,k⟩
  ·exact⟨0,A,B,.inl k⟩
  ·have:∀(l:List PX)(o:Nat),(∀i x,l[i]?=some x->∃v,w.cell? ⟨g,o+i,none⟩=some v/\Af P w x v)->∃n,∀i x,l[i]?=some x->∃v,w.cell? ⟨g,o+i,none⟩=some v/\A7 P w n x v:=by
    intro l
    induction l with
    | nil=>intro o _;exact⟨0,fun i x q=>by simp at q⟩
    | cons y l ih =>
     intro o t;obtain⟨N,C,m,I⟩:=t 0 y rfl;obtain⟨n,d⟩:=ih (o+1) fun i x q=>by
      have:=t (i+1) x (by simpa using q);rw[show o+(i+1)=o+1+i from by omega] at this;exact this
     refine⟨max m n,fun i x q=>?_⟩;cases i with
     | zero=>simp at q;subst q;exact⟨N,C,A7.up m _ (by omega) _ _ I⟩
     | succ i =>
      obtain⟨v,u,K⟩:=d i x (by simpa using q);rw[show o+1+i=o+(i+1) from by omega] at u;exact⟨v,u,A7.up n _ (by omega) _ _ K⟩
   obtain⟨n,d⟩:=this c j k;exact⟨n,A,B,.inr ⟨g,j,e,H,J,d⟩⟩
 obtain⟨n,d⟩:=s;exact⟨n+1,b,p,M,L,i,a,z,f,r,c,D,E,F,d,G⟩
theorem Ih {P:Nat->Prop}{w:World}{R:PX->Value->Prop}(a:Option Addr):Ca P w R a 0 []:=⟨rfl,by omega,.inl rfl⟩
def Cr (w:World)(br:Nat)(t:ByteArray)(d:Nat)(r:Except (Nat×Nat) (PX×Nat))(e:Ending)(w':World):Prop :=
 Fr (·≠br) w w'/\match r with
  | .ok (x,j)=>(∃v,e=.returned v/\Af (fun k=>w.heap.size<=k) w' x v)/\RdF w' br t j d
  | .error (c,p)=>e=Flt c p
theorem Aq {β γ:Type}{a:RX β}{k:β->Nat->RX γ}{r:Except (Nat×Nat) (γ×Nat)}(h:bX a k=some r):(∃e,a=some (.error e)/\r=.error e)\/∃x j,a=some (.ok (x,j))/\k x j=some r:=by
 rcases a with _|(e|⟨x,j⟩)
 ·simp[bX] at h
 ·simp only[bX,Option.some.injEq] at h;exact .inl ⟨e,rfl,h.symm⟩
 ·exact .inr ⟨x,j,rfl,h⟩
end Go.Proofs.YtjbfcadeapphbaaGreatDoor.Sx
