/- Plain: a module that was written is read to the same: all of it. -/
import Derived.Test.YtjbfcadeapphbaaGreatDoorK04
import Derived.Test.YtjbfcadeapphbaaGreatDoorK00
import Derived.Test.YtjbfcadeapphbaaGreatDoorK37
import Derived.Test.YtjbfcadeapphbaaGreatDoorK16
namespace Go.Proofs.YtjbfcadeapphbaaGreatDoor.Sx
abbrev TK:=Nat×List UInt8
def spell:List (List UInt8×TK)->List UInt8
 | []=>[]
 | p::l=>p.1++p.2.2++spell l
theorem Ap:∀a b:List (List UInt8×TK),spell (a++b)=spell a++spell b
 | [],b=>rfl
 | p::a,b=>by simp[spell,Ap a b]
def Ek (t:TK)(r:List UInt8):Bool:=match r with
 | []=>true
 | c::_=>if t.1=1\/t.1=2 then !Ba c else if t.1=4/\t.2.length=1 then !Cb.contains (t.2++[c]) else true
def I4 (t:TK):Prop:=(∃c r,t.2=c::r/\Df c=false/\c≠35)/\t.1≠0/\t.1≠5/\∀r,Ek t r=true->Dr (t.2++r)=(t.1,t.2.length)
def Blk (b:List UInt8):Prop:=∀c∈b,Df c=true
def Bz:List (List UInt8×TK)->List UInt8->Prop
 | [],_=>True
 | p::l,r=>Blk p.1/\I4 p.2/\Ek p.2 (spell l++r)=true/\Bz l r
theorem Bz.append {r:List UInt8}:∀{a b:List (List UInt8×TK)},Bz a (spell b++r)->Bz b r->Bz (a++b) r
 | [],_,_,h=>h
 | _::a,b,h,k=>⟨h.1,h.2.1,by show Ek _ (spell (a++b)++_)=true;rw[Ap,List.append_assoc];exact h.2.2.1,Bz.append h.2.2.2 k⟩
theorem Tx {c:UInt8}{x:List UInt8}(hc:Df c=false)(h35:c≠35):∀b:List UInt8,Blk b->btw false (b++c::x)=b.length
 | [],_=>by simp[btw,hc,h35]
 | d::b,h=>by
  have hd:Df d=true:=h d (by simp);have h3:(d==35)=false:=by
   rw[beq_eq_false_iff_ne];intro e;rw[e] at hd;exact absurd hd (by decide)
  have a:=Tx (x:=x) hc h35 b fun e he=>h e (by simp[he]);simp only[List.cons_append,btw,hd,h3,if_true,Bool.or_false,Bool.false_and,List.length_cons];rw[a];omega
theorem Ty {r:List UInt8}(T:List UInt8):∀(b a:List (List UInt8×TK)),T=spell (a++b)++r->Bz b r->Dp T a.length=(spell a).length->∀k,k<=b.length->Dp T (a.length+k)=(spell (a++b.take k)).length
 | _,a,_,_,h,0,_=>by simpa using h
 | [],a,_,_,_,k+1,hk=>by simp at hk
 | p::b,a,hT,hc,h,k+1,hk=>by
  have hd:T.drop (Dp T a.length)=p.1++(p.2.2++(spell b++r)):=by
   rw[h,hT,Ap,List.append_assoc,List.drop_left];simp[spell]
  obtain⟨⟨c,y,l,e,f⟩,-,-,d⟩:=hc.2.1;have g:btw false (T.drop (Dp T a.length))=p.1.length:=by
   rw[hd,l,List.cons_append];exact Tx e f _ hc.1
  have i:T.drop (Dp T a.length+p.1.length)=p.2.2++(spell b++r):=by
   rw[<- List.drop_drop,hd,List.drop_left]
  have j:Dp T (a.length+1)=(spell (a++[p])).length:=by
   rw[Dp,g,i,d _ hc.2.2.1,h,Ap];simp[spell];omega
  have:=Ty T b (a++[p]) (by rw[hT];simp) hc.2.2.2 (by rw[List.length_append];exact j) k (by simpa using hk);rw[List.length_append] at this;rw[show a.length+(k+1)=a.length+[p].length+k from by simp;omega,this];simp
theorem iU {l:List (List UInt8×TK)}{r:List UInt8}(h:Bz l r){k:Nat}{p:List UInt8×TK}(hk:l[k]?=some p):(tkF (spell l++r) k).cl=p.2.1/\(tkF (spell l++r) k).tx=p.2.2:=by
 have j:=(List.getElem?_eq_some_iff.1 hk).1;have u:=Ty (r:=r) (spell l++r) l [] rfl h rfl k (by omega);have t:l=l.take k++p::l.drop (k+1):=by
  have e:l[k]=p:=(List.getElem?_eq_some_iff.1 hk).2;rw[<- e,<- List.drop_eq_getElem_cons j,List.take_append_drop]
 have m:Dp (spell l++r) k=(spell (l.take k)).length:=by simpa using u
 have i:Bz (p::l.drop (k+1)) r:=by
  have n:∀(a b:List (List UInt8×TK)),Bz (a++b) r->Bz b r:=by
   intro a
   induction a with
   | nil=>intro b h;exact h
   | cons x a ih=>intro b h;exact ih b h.2.2.2
  exact n (l.take k) _ (t ▸ h)
 have s:(spell l++r).drop (Dp (spell l++r) k)=p.1++(p.2.2++(spell (l.drop (k+1))++r)):=by
  have e:spell l=spell (l.take k)++spell (p::l.drop (k+1)):=by rw[<- Ap,<- t]
  rw[m,e,List.append_assoc,List.drop_left];simp[spell]
 obtain⟨⟨c,y,w,f,g⟩,-,-,d⟩:=i.2.1;have v:btw false ((spell l++r).drop (Dp (spell l++r) k))=p.1.length:=by
  rw[s,w,List.cons_append];exact Tx f g _ i.1
 have o:(spell l++r).drop (atF (spell l++r) k)=p.2.2++(spell (l.drop (k+1))++r):=by
  unfold atF;rw[v,<- List.drop_drop,s,List.drop_left]
 have q:=d _ i.2.2.1;constructor
 ·show(Dr ((spell l++r).drop (atF (spell l++r) k))).1=_;rw[o,q]
 ·show((spell l++r).drop (atF (spell l++r) k)).take (Dr ((spell l++r).drop (atF (spell l++r) k))).2=_;rw[o,q];simp
theorem Zm {l:List (List UInt8×TK)}{r:List UInt8}(h:Bz l r)(hr:btw false r=r.length):(tkF (spell l++r) l.length).cl=0:=by
 have a:=Ty (r:=r) (spell l++r) l [] rfl h rfl l.length (Nat.le_refl _);have b:Dp (spell l++r) l.length=(spell l).length:=by simpa using a
 show(Dr ((spell l++r).drop (atF (spell l++r) l.length))).1=0;unfold atF;rw[b,List.drop_left,hr,List.drop_of_length_le (by simp)];rfl
def At (K:Nat->Tk)(i:Nat)(ts:List TK):Prop:=∀k t,ts[k]?=some t->(K (i+k)).cl=t.1/\(K (i+k)).tx=t.2
theorem At.left {K:Nat->Tk}{i:Nat}{a b:List TK}(h:At K i (a++b)):At K i a:=fun k t hk=>h k t (by rw[List.getElem?_append_left (List.getElem?_eq_some_iff.1 hk).1];exact hk)
theorem At.right {K:Nat->Tk}{i:Nat}{a b:List TK}(h:At K i (a++b)):At K (i+a.length) b:=fun k t hk=>by
 have:=h (a.length+k) t (by rw[List.getElem?_append_right (by omega),Nat.add_sub_cancel_left];exact hk)
 rwa [Nat.add_assoc]
theorem At.head {K:Nat->Tk}{i:Nat}{t:TK}{b:List TK}(h:At K i (t::b)):(K i).cl=t.1/\(K i).tx=t.2:=h 0 t rfl
theorem At.tail {K:Nat->Tk}{i:Nat}{t:TK}{b:List TK}(h:At K i (t::b)):At K (i+1) b:=h.right (a:=[t])
theorem G6 (c:UInt8)(l:List UInt8):Dr (c::l)=(if A8 c then(1,Bx (c::l)) else if Ba c then(if Ju (c::l) then 2 else 5,Bx (c::l)) else if c.toNat=34 then Cc l 1 else if Fj (c::l)=0 then(5,0) else(4,Fj (c::l))):=by
 have a:Cw (c::l) 0=c:=rfl;unfold Dr;rw[if_neg (by simp),a];rfl
def N2 (r:List UInt8):Bool:=match r with | []=>true|c::_=>!Ba c
theorem K8:∀(w r:List UInt8),w.all Ba=true->N2 r=true->Bx (w++r)=w.length
 | [],[],_,_=>rfl
 | [],c::r,_,h=>by
  have h':Ba c=false:=by simpa [N2] using h
  simp[Bx,h']
 | d::w,r,hw,h=>by
  simp only[List.all_cons,Bool.and_eq_true] at hw;have a:=K8 w r hw.2 h;unfold Bx at a |-;simp only[List.cons_append,List.takeWhile_cons,hw.1,if_true,List.length_cons];rw[a]
theorem Vl {t:TK}{r:List UInt8}(h1:t.1=1\/t.1=2)(h:Ek t r=true):N2 r=true:=by
 cases r with
 | nil=>rfl
 | cons c r=>unfold Ek at h;simpa [h1,N2] using h
theorem P0 {c:UInt8}(h:Ba c=true):Df c=false/\c≠35:=by
 refine⟨?_,?_⟩
 ·cases a:Df c with
  | false=>rfl
  | true =>
   unfold Df at a;simp only[Bool.or_eq_true,beq_iff_eq] at a;rcases a with(rfl|rfl)|rfl<;>exact absurd h (by decide)
 ·rintro rfl;exact absurd h (by decide)
def Gu (w:List UInt8):Prop:=(∃c r,w=c::r/\A8 c=true)/\w.all Ba=true
theorem Gu.tok {w:List UInt8}(h:Gu w):I4 (1,w):=by
 obtain⟨⟨c,r,rfl,a⟩,d⟩:=h;have b:Ba c=true:=by simp[Ba,a]
 refine⟨⟨c,r,rfl,P0 b⟩,by simp,by simp,fun x hx=>?_⟩;have:=K8 (c::r) x d (Vl (.inl rfl) hx);show Dr (c::(r++x))=_;rw[G6,if_pos a];rw[List.cons_append] at this;rw[this]
def Vm (w:List UInt8):Prop:=w≠[]/\w.all Bn=true/\(w.length=1\/Cw w 0≠48)
theorem Vm.tok {w:List UInt8}(h:Vm w):I4 (2,w):=by
 obtain⟨l,d,a⟩:=h;cases w with
 | nil=>exact absurd rfl l
 | cons c r =>
  have b:Bn c=true:=by simp at d;exact d.1
  have k:Ba c=true:=by simp[Ba,b]
  have n:A8 c=false:=by
   cases q:A8 c with
   | false=>rfl
   | true =>
    unfold A8 at q;unfold Bn at b;simp only[Bool.or_eq_true,Bool.and_eq_true,decide_eq_true_eq] at q b;have j:c.toNat<=57:=by have:=b.2;exact this
    rcases q with q|q
    ·have:97<=c.toNat:=q.1;omega
    ·have:65<=c.toNat:=q.1;omega
  have g:(c::r).all Ba=true:=List.all_eq_true.2 fun x hx=>by
   have:=List.all_eq_true.1 d x hx;simp[Ba,this]
  refine⟨⟨c,r,rfl,P0 k⟩,by simp,by simp,fun x hx=>?_⟩;have i:=K8 (c::r) x g (Vl (.inr rfl) hx);show Dr (c::(r++x))=_;rw[List.cons_append] at i;have o:Ju (c::(r++x))=true:=by
   unfold Ju;rw[i];have e:(c::(r++x)).take (c::r).length=c::r:=by simp
   rw[e,d];have m:Cw (c::(r++x)) 0=c:=rfl;rw[m];rcases a with a|a
   ·simp[a]
   ·have f:c≠48:=a;have j:c.toNat≠48:=fun e=>f (by rw[<- UInt8.toNat_inj];exact e);simp only[Bool.true_and,j,decide_false,Bool.not_false,Bool.and_true];simp only[List.length_cons];rcases Nat.eq_zero_or_pos r.length with q|q
    ·simp[q]
    ·have:decide (1<r.length+1)=true:=decide_eq_true (by omega);rw[this];simp
  rw[G6,if_neg (by simp[n]),if_pos k,o,if_pos rfl,i]
theorem Ru:∀(n r:List UInt8)(i:Nat),(∀c∈n,(c==34)=false/\Hq c=true)->Cc (n++34::r) i=(3,i+n.length+1)
 | [],r,i,_=>by simp[Cc]
 | c::n,r,i,h=>by
  have hc:=h c (by simp);have ih:=Ru n r (i+1) fun d hd=>h d (by simp[hd]);simp only[List.cons_append,Cc,hc.1,hc.2,if_true,Bool.false_eq_true,if_false,List.length_cons];rw[ih]
  congr 1;omega
def Rv (n:List UInt8):Prop:=∀c∈n,(c==34)=false/\Hq c=true
theorem Rv.tok {n:List UInt8}(h:Rv n):I4 (3,34::(n++[34])):=by
 refine⟨⟨34,_,rfl,by decide,by decide⟩,by simp,by simp,fun x _=>?_⟩;show Dr (34::((n++[34])++x))=_;rw[G6,if_neg (by decide),if_neg (by decide),if_pos (by decide),List.append_assoc];show Cc (n++34::x) 1=_;rw[Ru n x 1 h];simp;omega
theorem I5:∀s∈Cb,I4 (4,s):=by
 intro s hs;have c:Cb.all (fun s=>match s with | [a,b]=>!Df a&&a != 35&&!A8 a&&!Ba a&&decide (a.toNat≠34)|_=>false)=true:=by decide
 have h:=List.all_eq_true.1 c s hs
 match s,hs,h with
 | [a,b],hs,h =>
  simp only[Bool.and_eq_true,Bool.not_eq_true',bne_iff_ne,decide_eq_true_eq] at h;obtain⟨⟨⟨⟨d,e⟩,f⟩,g⟩,i⟩:=h;refine⟨⟨a,[b],rfl,d,e⟩,by simp,by simp,fun x _=>?_⟩;show Dr (a::b::x)=_;have j:Fj (a::b::x)=2:=by
   unfold Fj;rw[if_pos];rw[Bool.and_eq_true];exact⟨decide_eq_true (by simp),by simpa using hs⟩
  rw[G6,if_neg (by simp[f]),if_neg (by simp[g]),if_neg i,j,if_neg (by decide)];rfl
theorem B7:∀a∈Su,I4 (4,[a]):=by
 intro a e;have d:Su.all (fun a=>!Df a&&a != 35&&!A8 a&&!Ba a&&decide (a.toNat≠34))=true:=by decide
 have h:=List.all_eq_true.1 d a e;simp only[Bool.and_eq_true,Bool.not_eq_true',bne_iff_ne,decide_eq_true_eq] at h;obtain⟨⟨⟨⟨f,g⟩,i⟩,j⟩,k⟩:=h;refine⟨⟨a,[],rfl,f,g⟩,by simp,by simp,fun x hx=>?_⟩;show Dr (a::x)=_;have m:Fj (a::x)=1:=by
  unfold Fj;have l:Cw (a::x) 0=a:=rfl;rw[if_neg,l,if_pos (by simpa using e)];intro q;rw[Bool.and_eq_true] at q;cases x with
  | nil=>simp at q
  | cons c x =>
   have b:(!Cb.contains [a,c])=true:=by simpa [Ek] using hx
   have n:Cb.contains [a,c]=true:=q.2;rw[n] at b;simp at b
 rw[G6,if_neg (by simp[i]),if_neg (by simp[j]),if_neg k,m,if_neg (by decide)];rfl
section
variable (K:Nat->Tk)
def Nj (n d i:Nat)(y:PX)(j:Nat):Prop:=∃F,A3 K F n d i=some (.ok (y,j))
def H6 (n d h:Nat)(x:PX)(i:Nat)(y:PX)(j:Nat):Prop:=∃F h',Bb K (A3 K F) n d F h x i=some (.ok ((y,h'),j))
def Il (n d i:Nat)(y:PX)(j:Nat):Prop:=∃F h',Fa K (A3 K F) F n d i=some (.ok ((y,h'),j))
def Dq (d:Nat)(x:PX)(i:Nat)(y:PX)(j:Nat):Prop:=∃F,Bs K (A3 K F) F d F x i=some (.ok (y,j))
def Gz (d i:Nat)(y:PX)(j:Nat):Prop:=∃F,Eo K (A3 K F) F d i=some (.ok (y,j))
def Yg (d i:Nat)(y:PX)(j:Nat):Prop:=∃F,C7 K (A3 K F) F d i=some (.ok (y,j))
def gY (d i:Nat)(y:PX)(j:Nat):Prop:=∃F,Cn K (A3 K F) d i=some (.ok (y,j))
def iV (r d i:Nat)(y:PX)(j:Nat):Prop:=∃F,Dn K (A3 K F) r d i=some (.ok (y,j))
end
section
variable {K:Nat->Tk}
theorem les (K:Nat->Tk){F G:Nat}(h:F<=G):LeS (A3 K F) (A3 K G):=fun n d i=>Gw K F G h n d i
theorem Fb {F G n d i:Nat}(h:F<=G){r}(e:A3 K F n d i=some r):A3 K G n d i=some r:=(Gw K F G h n d i).some e
theorem P3 {F G n d h i:Nat}{x:PX}(hf:F<=G){r}(e:Bb K (A3 K F) n d F h x i=some r):Bb K (A3 K G) n d G h x i=some r:=(Fg (les K hf) n d F G hf h x i).some e
theorem bK {F G d i:Nat}{x:PX}(hf:F<=G){r}(e:Bs K (A3 K F) F d F x i=some r):Bs K (A3 K G) G d G x i=some r:=(Dt (les K hf) F G d F G hf x i).some e
theorem Il.prog {n d i j:Nat}{y:PX}(hn:n<=12)(h:Il K n d i y j):Nj K n d i y j:=by
 obtain⟨F,a,e⟩:=h;refine⟨F+1,?_⟩;rw[A3,Nat.min_eq_left hn,e];rfl
theorem Gz.of {d i j k:Nat}{x y:PX}(h:Yg K d i x j)(b:Dq K d x j y k):Gz K d i y k:=by
 obtain⟨F,e⟩:=h;obtain⟨G,a⟩:=b;refine⟨max F G,?_⟩;unfold Eo;rw[(Mx (les K (Nat.le_max_left F G)) (Nat.le_max_left F G) d i).some e];exact bK (Nat.le_max_right F G) a
theorem Il.tight {n d i j k:Nat}{x y:PX}(hn:n<=12)(ho:Bd (K i).tx=14)(h:Gz K d i x j)(c:H6 K n d 14 x j y k):Il K n d i y k:=by
 obtain⟨F,e⟩:=h;obtain⟨G,b,a⟩:=c;refine⟨max F G,b,?_⟩;unfold Fa;rw[ho,if_neg (by omega)];unfold Ep;rw[if_neg (by decide),if_neg (by decide),(Ib (les K (Nat.le_max_left F G)) (Nat.le_max_left F G) d i).some e];exact P3 (Nat.le_max_right F G) a
theorem Il.ahead {n d i j k r:Nat}{x y:PX}(hr:r=6\/r=12)(hn:n<=r)(ho:Bd (K i).tx=r)(h:iV K r d i x j)(c:H6 K n d r x j y k):Il K n d i y k:=by
 obtain⟨F,e⟩:=h;obtain⟨G,b,a⟩:=c;refine⟨max F G,b,?_⟩;unfold Fa;rw[ho,if_neg (by omega)];unfold Ep;rw[if_neg (by omega),if_pos hr,(Ia (les K (Nat.le_max_left F G)) r d i).some e];exact P3 (Nat.le_max_right F G) a
theorem Il.bind {d i j k:Nat}{x y:PX}(ho:Bd (K i).tx=0)(h:gY K d i x j)(c:H6 K 0 d 0 x j y k):Il K 0 d i y k:=by
 obtain⟨F,e⟩:=h;obtain⟨G,b,a⟩:=c;refine⟨max F G,b,?_⟩;unfold Fa;rw[ho,if_neg (by omega)];unfold Ep;rw[if_pos rfl,(Ir (les K (Nat.le_max_left F G)) d i).some e];exact P3 (Nat.le_max_right F G) a
theorem H6.stop {n d h i:Nat}{x:PX}(hs:Ae (K i).tx=0\/Ae (K i).tx<n\/h<Bh (Ae (K i).tx)):H6 K n d h x i x i:=⟨1,h,by rw[Bb,if_pos hs];rfl⟩
theorem H6.step {n d h i j k:Nat}{x b y:PX}(h0:Ae (K i).tx≠0)(hn:n<=Ae (K i).tx)(hh:Bh (Ae (K i).tx)<=h)(p:Nj K (Bg (Ae (K i).tx)) d (i+1) b j)(c:H6 K n d (Ae (K i).tx) (I0 (K i).tx x b) j y k):H6 K n d h x i y k:=by
 obtain⟨F,e⟩:=p;obtain⟨G,f,a⟩:=c;refine⟨max F G+1,f,?_⟩;rw[Bb,if_neg (by omega),Fb (Nat.le_trans (Nat.le_max_left F G) (Nat.le_succ _)) e];exact(Fg (les K (Nat.le_trans (Nat.le_max_right F G) (Nat.le_succ _))) n d G (max F G) (Nat.le_max_right F G) _ _ _).some a
theorem Dq.stop {d i:Nat}{x:PX}(h1:(K i).tx≠[91])(h2:(K i).tx≠[46]):Dq K d x i x i:=⟨1,by
 rw[Bs,if_neg (by simpa using h1),if_neg (by simpa using h2)];rfl⟩
theorem Dq.at {d i j k:Nat}{x q y:PX}(hd:d<24)(h1:(K i).tx=[91])(p:Nj K 0 (d+1) (i+1) q j)(h2:(K j).tx=[93])(b:Dq K d (dAt x q) (j+1) y k):Dq K d x i y k:=by
 obtain⟨F,e⟩:=p;obtain⟨G,a⟩:=b;refine⟨max F G+1,?_⟩;rw[Bs,h1,if_pos (by decide)];unfold Bw;rw[if_neg (by omega)];show bX (A3 K (max F G+1) 0 (d+1) (i+1)) _=_;rw[Fb (Nat.le_trans (Nat.le_max_left F G) (Nat.le_succ _)) e];show(if (K j).tx==[58,61] then _ else _)=_;rw[h2,if_neg (by decide)];unfold Bv;rw[h2,if_pos (by decide)];exact(Dt (les K (Nat.le_trans (Nat.le_max_right F G) (Nat.le_succ _))) _ _ d G (max F G) (Nat.le_max_right F G) _ _).some a
theorem Dq.put {d i j j2 k:Nat}{x q v y:PX}(hd:d<24)(h1:(K i).tx=[91])(p:Nj K 0 (d+1) (i+1) q j)(h2:(K j).tx=[58,61])(p2:Nj K 0 (d+1) (j+1) v j2)(h3:(K j2).tx=[93])(b:Dq K d (Ht x q v) (j2+1) y k):Dq K d x i y k:=by
 obtain⟨F,e⟩:=p;obtain⟨a,f⟩:=p2;obtain⟨G,c⟩:=b;refine⟨max (max F a) G+1,?_⟩;rw[Bs,h1,if_pos (by decide)];unfold Bw;rw[if_neg (by omega)];show bX (A3 K (max (max F a) G+1) 0 (d+1) (i+1)) _=_;rw[Fb (G:=max (max F a) G+1) (by omega) e];show(if (K j).tx==[58,61] then _ else _)=_;rw[h2,if_pos (by decide),Fb (G:=max (max F a) G+1) (by omega) f];show Bv K [93] j2 _=_;unfold Bv;rw[h3,if_pos (by decide)];exact(Dt (les K (by omega)) _ _ d G (max (max F a) G) (by omega) _ _).some c
theorem Dq.dot {d i k:Nat}{x y:PX}{n:List UInt8}(h1:(K i).tx=[46])(hn:Bo K (i+1)=okX n (i+2))(b:Dq K d (dAt x (Ee n)) (i+2) y k):Dq K d x i y k:=by
 obtain⟨G,a⟩:=b;refine⟨G+1,?_⟩;rw[Bs,h1,if_neg (by decide),if_pos (by decide),hn];exact(Dt (les K (Nat.le_succ G)) _ _ d G G (Nat.le_refl _) _ _).some a
end
def kK:List UInt8:=[32,10,41,44,93,125,58,91,46,62]
def Ji (r:List UInt8):Prop:=r=[]\/∃c r',r=c::r'/\c∈kK
def A6 (l:List (List UInt8×TK)):List TK:=l.map Prod.snd
theorem Gh (a b:List (List UInt8×TK)):A6 (a++b)=A6 a++A6 b:=List.map_append
theorem Bf (l:List (List UInt8×TK)):(A6 l).length=l.length:=List.length_map _
def Gb (s:List UInt8):Prop:=s≠[39]/\s≠[40]/\s≠[91]/\s≠[46]
def gZ (q:Nat)(s:List UInt8):Prop:=Ae s=0\/Ae s<q\/(Ae s=q/\q≠3)
def Lu (q:Nat):Nat:=if 13<=q then 14 else q
def St (t:TK):Prop:=t.2≠[125]/\Cp.contains t.2=false
structure Gd (x:PX)(q D:Nat)(l:List (List UInt8×TK)):Prop where
 head:∃t l' c r,l=([],t)::l'/\t.2=c::r/\c≠62/\(13<=q->Bd t.2=14)/\St t
 chain:∀r,Ji r->Bz l r
 tight:13<=q->∀K i d,At K i (A6 l)->d+D<=24->(K (i+l.length)).tx≠[39]->(K (i+l.length)).tx≠[40]->∀y k,Dq K d x (i+l.length) y k->Gz K d i y k
 hold:∀K i d n,At K i (A6 l)->d+D<=24->n<=12->n<=q->Gb (K (i+l.length)).tx->gZ q (K (i+l.length)).tx->∀y k,H6 K n d (Lu q) x (i+l.length) y k->Il K n d i y k
theorem Gd.of_tight {x:PX}{q D:Nat}{l:List (List UInt8×TK)}(hq:13<=q)(head:∃t l' c r,l=([],t)::l'/\t.2=c::r/\c≠62/\Bd t.2=14/\St t)(chain:∀r,Ji r->Bz l r)
  (tight:∀K i d,At K i (A6 l)->d+D<=24->(K (i+l.length)).tx≠[39]->(K (i+l.length)).tx≠[40]->∀y k,Dq K d x (i+l.length) y k->Gz K d i y k):Gd x q D l:=by
 obtain⟨t,l',c,r,b,e,f,a⟩:=head;refine⟨⟨t,l',c,r,b,e,f,fun _=>a.1,a.2⟩,chain,fun _=>tight,fun K i d n ha hd hn _ hx _ y k hc=>?_⟩;have h:Bd (K i).tx=14:=by
  rw[b] at ha;rw[(At.head (show At K i (t::A6 l') from ha)).2];exact a.1
 have g:Lu q=14:=if_pos hq;rw[g] at hc;exact Il.tight hn h (tight K i d ha hd hx.1 hx.2.1 x _ (Dq.stop hx.2.2.1 hx.2.2.2)) hc
theorem Gd.prog {x:PX}{q D:Nat}{l:List (List UInt8×TK)}(h:Gd x q D l){K:Nat->Tk}{i d n:Nat}(ha:At K i (A6 l))(hd:d+D<=24)(hn:n<=12)(hq:n<=q)(hx:Gb (K (i+l.length)).tx)(hs:gZ q (K (i+l.length)).tx)(hs2:Ae (K (i+l.length)).tx=0\/Ae (K (i+l.length)).tx<n):Nj K n d i x (i+l.length) :=
 Il.prog hn (h.hold K i d n ha hd hn hq hx hs _ _ (H6.stop (hs2.imp id .inl)))
theorem Gd.prog0 {x:PX}{q D:Nat}{l:List (List UInt8×TK)}(h:Gd x q D l){K:Nat->Tk}{i d n:Nat}(ha:At K i (A6 l))(hd:d+D<=24)(hn:n<=12)(hq:n<=q)(hx:Gb (K (i+l.length)).tx)(hs:Ae (K (i+l.length)).tx=0):Nj K n d i x (i+l.length):=h.prog ha hd hn hq hx (.inl hs) (.inl hs)
theorem Gd.up {x:PX}{q D D':Nat}{l:List (List UInt8×TK)}(h:Gd x q D l)(hd:D<=D'):Gd x q D' l :=
 ⟨h.head,h.chain,fun hq K i d ha hD=>h.tight hq K i d ha (by omega),fun K i d n ha hD=>h.hold K i d n ha (by omega)⟩
theorem Gd.first {x:PX}{q D:Nat}{l:List (List UInt8×TK)}(h:Gd x q D l)(r:List UInt8):∃c y,spell l++r=c::y/\c≠62:=by
 obtain⟨t,e,c,y,a,b,d,-⟩:=h.head;exact⟨c,y++spell e++r,by rw[a];simp[spell,b],d⟩
theorem hH (r:List UInt8):Ji (41::r):=.inr ⟨41,r,rfl,by decide⟩
theorem Et {a:UInt8}{r:List UInt8}(h:∀c y,r=c::y->Cb.contains [a,c]=false):Ek (4,[a]) r=true:=by
 cases r with
 | nil=>rfl
 | cons c y=>have:=h c y rfl;simp[Ek];simpa using this
theorem N6 {a b:UInt8}(r:List UInt8):Ek (4,[a,b]) r=true:=by
 cases r with
 | nil=>rfl
 | cons c y=>simp[Ek]
theorem bL {K:Nat->Tk}{d i j:Nat}{x:PX}(h0:(K i).cl=4)(h1:(K i).tx=[40])(hd:d<24)(p:Nj K 0 (d+1) (i+1) x j)(h2:(K j).tx=[41]):Yg K d i x (j+1):=by
 obtain⟨F,e⟩:=p;refine⟨F,?_⟩;unfold C7;rw[if_neg (by omega),if_neg (by omega),if_neg (by omega)];unfold Bp Bw;rw[h1,if_pos (by decide),if_neg (by omega)];show bX (A3 K F 0 (d+1) (i+1)) _=_;rw[e];show Bv K [41] j _=_;unfold Bv;rw[h2,if_pos (by decide)];rfl
def Vn (l:List (List UInt8×TK)):List (List UInt8×TK):=([],(4,[40]))::(l++[([],(4,[41]))])
theorem Yh (l:List (List UInt8×TK)):spell (Vn l)=40::(spell l++[41]):=by simp[Vn,spell,Ap]
theorem fX:Gb [41]:=by unfold Gb;decide
theorem Gd.par {x:PX}{q D:Nat}{l:List (List UInt8×TK)}(h:Gd x q D l):Gd x 14 (D+1) (Vn l):=by
 refine Gd.of_tight (by omega) ⟨(4,[40]),_,40,[],rfl,rfl,by decide,by decide,by unfold St;decide⟩ (fun r hr=>?_) (fun K i d ha hd h39 h40 y k hb=>?_)
 ·refine⟨fun c hc=>by simp at hc,B7 40 (by decide),Et fun c y _=>?_,?_⟩
  ·have b:∀c:UInt8,Cb.contains [40,c]=false:=by
    intro c;simp[Cb]
   exact b c
  ·refine Bz.append (h.chain _ ?_) ⟨fun c hc=>by simp at hc,B7 41 (by decide),Et fun c y _=>by simp[Cb],trivial⟩;simp only[spell,List.nil_append,List.cons_append,List.append_nil];exact hH _
 ·have e:A6 (Vn l)=(4,[40])::(A6 l++[(4,[41])]):=by simp[Vn,A6]
  rw[e] at ha;have o:(Vn l).length=l.length+2:=by simp[Vn]
  rw[o] at hb;obtain⟨g,j⟩:=ha.head;have f:=ha.tail;have a:=(f.right).head;rw[Bf] at a;have p:=h.prog0 (n:=0) (d:=d+1) f.left (by omega) (by omega) (by omega) (by rw[a.2];exact fX) (by rw[a.2];decide);have m:=bL g j (by omega) p a.2;refine Gz.of m ?_;rw[show i+1+l.length+1=i+(l.length+2) from by omega];exact hb
theorem kL (r:List UInt8):Ji (32::r):=.inr ⟨32,r,rfl,by decide⟩
def spc (l:List (List UInt8×TK)):List (List UInt8×TK):=match l with | []=>[]|p::l=>([32],p.2)::l
theorem Dx (l:List (List UInt8×TK)):A6 (spc l)=A6 l:=by cases l<;>rfl
theorem Ec (l:List (List UInt8×TK)):(spc l).length=l.length:=by cases l<;>rfl
theorem Gd.spc_spell {x:PX}{q D:Nat}{l:List (List UInt8×TK)}(h:Gd x q D l):spell (spc l)=32::spell l:=by
 obtain⟨t,b,c,r,a,-⟩:=h.head;rw[a];simp[spc,spell]
theorem Gd.spc_chain {x:PX}{q D:Nat}{l:List (List UInt8×TK)}(h:Gd x q D l){r:List UInt8}(hr:Ji r):Bz (spc l) r:=by
 have a:=h.chain r hr;obtain⟨t,e,c,y,b,-⟩:=h.head;rw[b] at a |-;exact⟨fun d hd=>by simp at hd;rw[hd];decide,a.2.1,a.2.2.1,a.2.2.2⟩
theorem Gd.part {x:PX}{D:Nat}{l:List (List UInt8×TK)}(h:Gd x x.rk D l)(hx:x.tx=spell l)(n:Nat)(hn:n<=14):∃q l',spell l'=A9 x n/\n<=q/\Gd x q (if x.rk<n then D+1 else D) l':=by
 unfold A9;by_cases a:x.rk<n
 ·rw[if_pos a,if_pos a];exact⟨14,Vn l,by rw[Yh,hx],hn,h.par⟩
 ·rw[if_neg a,if_neg a];exact⟨x.rk,l,hx.symm,by omega,h⟩
def opK (op:List UInt8):Nat:=match op with | []=>0|c::_=>if A8 c then 1 else 4
theorem Ml:∀op,Ae op≠0->I4 (opK op,op)/\(∀r,Ek (opK op,op) (32::r)=true)/\Gb op/\Ae op<=11:=by
 intro op h;have n:∃p∈Eu,p.1=op:=by
  unfold Ae at h;cases f:Eu.lookup op with
  | none=>rw[f] at h;simp at h
  | some v =>
   have:∀(js:List (List UInt8×Nat)),js.lookup op=some v->∃p∈js,p.1=op:=by
    intro js
    induction js with
    | nil=>intro e;simp at e
    | cons p js ih =>
     intro e;rw[List.lookup_cons] at e;by_cases b:op==p.1
     ·exact⟨p,by simp,(by simpa using b:op=p.1).symm⟩
     ·rw[show(op==p.1)=false from by simpa using b] at e;obtain⟨q,d,i⟩:=ih e;exact⟨q,by simp[d],i⟩
   exact this Eu f
 obtain⟨p,b,rfl⟩:=n;have l:∀p∈Eu,(opK p.1=1/\p.1.all Ba=true/\(∃c r,p.1=c::r/\A8 c=true))\/(opK p.1=4/\(p.1∈Cb\/∃a∈Su,p.1=[a]/\Cb.contains [a,32]=false)):=by
  intro p b;simp only[Eu,List.mem_cons,List.not_mem_nil,or_false] at b;rcases b with rfl|rfl|rfl|rfl|rfl|rfl|rfl|rfl|rfl|rfl|rfl|rfl|rfl|rfl|rfl|rfl|rfl|rfl|rfl|rfl|rfl|rfl|rfl|rfl|rfl
  all_goals first
   | exact .inl ⟨by decide,by decide,_,_,rfl,by decide⟩
   | exact .inr ⟨by decide,.inl (by decide)⟩
   | exact .inr ⟨by decide,.inr ⟨_,by decide,rfl,by decide⟩⟩
 have o:Eu.all (fun p=>decide (p.1≠[39]/\p.1≠[40]/\p.1≠[91]/\p.1≠[46])&&decide (Ae p.1<=11))=true:=by decide
 have j:=List.all_eq_true.1 o p b;rw[Bool.and_eq_true] at j;refine⟨?_,?_,(of_decide_eq_true j.1:p.1≠[39]/\p.1≠[40]/\p.1≠[91]/\p.1≠[46]),of_decide_eq_true j.2⟩
 ·rcases l p b with⟨e,d,i⟩|⟨e,d|⟨a,k,g,-⟩⟩
  ·rw[e];exact Gu.tok ⟨i,d⟩
  ·rw[e];exact I5 _ d
  ·rw[e,g];exact B7 a k
 ·intro r;rcases l p b with⟨e,-⟩|⟨e,d|⟨a,k,g,m⟩⟩
  ·rw[e];simp[Ek];decide
  ·rw[e];have f:Cb.all (fun s=>s.length==2)=true:=by decide
   have:=List.all_eq_true.1 f _ d;simp[Ek,(by simpa using this:p.1.length=2)]
  ·rw[e,g];simp[Ek];simpa using m
theorem Gd.bin {a b:PX}{qa qb Da Db:Nat}{la lb:List (List UInt8×TK)}{op:List UInt8}(h0:Ae op≠0)(ha:Gd a qa Da la)(hb:Gd b qb Db lb)(hqa:Bh (Ae op)<=qa)(hqb:Bg (Ae op)<=qb) :
  Gd (I0 op a b) (Ae op) (max Da Db) (la++([32],(opK op,op))::spc lb):=by
 obtain⟨E,F,G,H⟩:=Ml op h0;have C:Ae op<=Bh (Ae op):=by unfold Bh;split<;>omega
 have h:Bg (Ae op)<=12/\Ae op<=Bg (Ae op)/\(Ae op≠3->Bg (Ae op)=Ae op+1):=by unfold Bg;split<;>omega
 have s:Ae op=Bh (Ae op)->Ae op≠3:=by
  intro e q;rw[q] at e;exact absurd e (by decide)
 refine⟨?_,fun r hr=>?_,fun hq=>by omega,fun K i d n hA hd hn hq hx hs y k hc=>?_⟩
 ·obtain⟨t,D,c,r,w,o,x,-,z⟩:=ha.head;exact⟨t,D++([32],(opK op,op))::spc lb,c,r,by rw[w];rfl,o,x,fun q=>by omega,z⟩
 ·refine Bz.append (ha.chain _ ?_) ⟨fun c hc=>by simp at hc;rw[hc];decide,E,?_,hb.spc_chain hr⟩
  ·simp only[spell,List.cons_append,List.nil_append];exact kL _
  ·rw[hb.spc_spell];exact F _
 ·have e:A6 (la++([32],(opK op,op))::spc lb)=A6 la++(opK op,op)::A6 lb:=by rw[Gh];show A6 la++_::A6 (spc lb)=_;rw[Dx]
  rw[e] at hA;have m:(la++([32],(opK op,op))::spc lb).length=la.length+(lb.length+1):=by simp[Ec]
  rw[m] at hx hs hc;have p:=hA.right;rw[Bf] at p;have f:(K (i+la.length)).tx=op:=p.head.2;have v:=p.tail;have A:Lu (Ae op)=Ae op:=if_neg (by omega);rw[A] at hc;have B:qa<=Lu qa\/13<=qa:=by unfold Lu;split<;>omega
  have g:Bh (Ae op)<=Lu qa:=by
   unfold Lu;split
   ·have:Bh (Ae op)<=12:=by unfold Bh;split<;>omega
    omega
   ·exact hqa
  refine ha.hold K i d n hA.left (by omega) hn (by omega) (by rw[f];exact G) ?_ y k ?_
  ·rw[f];rcases Nat.lt_or_ge (Ae op) qa with q|q
   ·exact .inr (.inl q)
   ·have o:Ae op=qa:=by omega
    exact .inr (.inr ⟨o,by rw[<- o];exact s (by omega)⟩)
  ·have l:i+(la.length+(lb.length+1))=i+la.length+1+lb.length:=by omega
   rw[l] at hx hs hc;refine H6.step (j:=i+la.length+1+lb.length) (b:=b) (by rw[f];exact h0) (by rw[f];exact hq) (by rw[f];exact g) ?_ (by rw[f];exact hc);rw[f];refine hb.prog v (by omega) h.1 hqb hx ?_ ?_
   ·rcases hs with q|q|⟨q,u⟩
    ·exact .inl q
    ·exact .inr (.inl (by omega))
    ·have:=h.2.2 u;exact .inr (.inl (by omega))
   ·rcases hs with q|q|⟨q,u⟩
    ·exact .inl q
    ·exact .inr (by omega)
    ·have:=h.2.2 u;exact .inr (by omega)
theorem bM:∀c∈kK,Ba c=false:=by decide
theorem Ji.part {r:List UInt8}(h:Ji r){t:TK}(ht:t.1=1\/t.1=2\/t.1=3):Ek t r=true:=by
 rcases h with rfl|⟨c,b,rfl,a⟩
 ·rfl
 ·have:=bM c a;unfold Ek;simp only[this,Bool.not_false];split
  ·rfl
  ·rw[if_neg (by omega)]
theorem Gd.one {x:PX}{t:TK}(ht:I4 t)(h1:t.1=1\/t.1=2\/t.1=3)(ho:Bd t.2=14)(hst:St t)(hc:∀c r,t.2=c::r->c≠62)
  (hf:∀K i d,(K i).cl=t.1->(K i).tx=t.2->(K (i+1)).tx≠[39]->(K (i+1)).tx≠[40]->Yg K d i x (i+1)):Gd x 14 0 [([],t)]:=by
 obtain⟨c,r,e,-,-⟩:=ht.1;refine Gd.of_tight (by omega) ⟨t,[],c,r,rfl,e,hc c r e,ho,hst⟩ (fun r hr=>⟨fun c hc=>by simp at hc,ht,by simpa [spell] using hr.part h1,trivial⟩) (fun K i d ha hd h39 h40 y k hb=>?_);obtain⟨a,b⟩:=At.head (show At K i [t] from ha);exact Gz.of (hf K i d a b h39 h40) hb
theorem P6 {p:List UInt8}(h0:Dm.contains p=false)(h6:De.contains p=false)(h12:Cf.contains p=false):Bd p=14:=by
 unfold Bd;rw[h0,h6,h12];rfl
theorem bN:(Dm++De++Cf.drop 1++Gv++Cz++Cp).all Bm=true:=by decide +kernel
theorem Mm {p:List UInt8}(h:Bm p=false){q:List UInt8}(hq:q∈Dm++De++Cf.drop 1++Gv++Cz++Cp):p≠q:=by
 rintro rfl;have:=List.all_eq_true.1 bN p hq;rw[h] at this;exact absurd this (by simp)
theorem J6 {p:List UInt8}{l:List (List UInt8)}(h:∀q∈l,p≠q):l.contains p=false:=by
 cases a:l.contains p with
 | false=>rfl
 | true=>exact absurd rfl (h p (by simpa using a))
theorem H7 {c:UInt8}{r:List UInt8}(h:A8 c=true):c::r≠[45]/\c≠62:=by
 refine⟨?_,?_⟩
 ·intro e;have:c=45:=by simp at e;exact e.1
  rw[this] at h;exact absurd h (by decide)
 ·rintro rfl;exact absurd h (by decide)
structure Cg (n:List UInt8):Prop where
 word:Gu n
 free:Bm n=false
 len:n.length<=16
theorem Cg.open {n:List UInt8}(h:Cg n):Bd n=14:=by
 refine P6 (J6 fun q hq=>Mm h.free (by simp[hq])) (J6 fun q hq=>Mm h.free (by simp[hq])) (J6 fun q hq=>?_);have a:q=[45]\/q∈Cf.drop 1:=by simpa [Cf] using hq
 rcases a with rfl|a
 ·obtain⟨⟨c,r,rfl,b⟩,-⟩:=h.word;exact(H7 b).1
 ·exact Mm h.free (List.mem_append_left _ (List.mem_append_left _ (List.mem_append_left _ (List.mem_append_right _ a))))
theorem Cg.read {n:List UInt8}(h:Cg n){K:Nat->Tk}{i:Nat}(h1:(K i).cl=1)(h2:(K i).tx=n):Bo K i=okX n (i+1):=by
 unfold Bo;have:=h.len;rw[h1,h2,h.free,if_neg (by simp),if_neg (by omega)]
theorem Cg.word3 {n:List UInt8}(h:Cg n):Gv.contains n=false/\Cz.contains n=false :=
 ⟨J6 fun q hq=>Mm h.free (by simp[hq]),J6 fun q hq=>Mm h.free (by simp[hq])⟩
theorem Cg.st {n:List UInt8}(h:Cg n):St (1,n):=by
 refine⟨?_,J6 fun q hq=>Mm h.free (by simp[hq])⟩;obtain⟨⟨c,r,rfl,a⟩,-⟩:=h.word;intro e;have:c=125:=by simp at e;exact e.1
 rw[this] at a;exact absurd a (by decide)
theorem Cg.gd {n:List UInt8}(h:Cg n):Gd (Ct n) 14 0 [([],(1,n))]:=by
 refine Gd.one h.word.tok (.inl rfl) h.open h.st (fun c r e=>?_) (fun K i d h1 h2 h39 h40=>⟨0,?_⟩)
 ·obtain⟨⟨g,l,j,k⟩,-⟩:=h.word;have f:c::r=g::l:=e.symm.trans j;simp at f;rw[f.1];exact(H7 (r:=r) k).2
 ·have a:(K i).cl=1:=h1;have b:(K i).tx=n:=h2;unfold C7;rw[a,if_neg (by decide),if_neg (by decide),if_pos rfl];unfold Gp;rw[b,h.word3.1,h.word3.2,if_neg (by simp),if_neg (by simp)];unfold Fe;rw[h.read a b];show(if (K (i+1)).tx==[39] then _ else _)=_;rw[if_neg (by simpa using h39),if_neg (by simpa using h40)];rfl
theorem eL {n:List UInt8}(h:Cg n):Gd (Ct (n++[39])) 14 0 [([],(1,n)),([],(4,[39]))]:=by
 obtain⟨⟨c,r,e,hc⟩,m⟩:=h.word;refine Gd.of_tight (by omega) ⟨(1,n),_,c,r,rfl,e,(H7 (r:=r) hc).2,h.open,h.st⟩ (fun r hr=>⟨fun c hc=>by simp at hc,h.word.tok,by simp[spell,Ek];decide,fun c hc=>by simp at hc,B7 39 (by decide),Et fun c y _=>by simp[Cb],trivial⟩) (fun K i d ha hd h39 h40 y k hb=>?_);have a:At K i [(1,n),(4,[39])]:=ha;obtain⟨b,f⟩:=a.head;obtain⟨l,g⟩:=a.tail.head;refine Gz.of (x:=Ct (n++[39])) (j:=i+2) ⟨0,?_⟩ hb;unfold C7;rw[show(K i).cl=1 from b,if_neg (by decide),if_neg (by decide),if_pos rfl];unfold Gp;rw[show(K i).tx=n from f,h.word3.1,h.word3.2,if_neg (by simp),if_neg (by simp)];unfold Fe;rw[h.read b f];show(if (K (i+1)).tx==[39] then _ else _)=_;rw[show(K (i+1)).tx=[39] from g,if_pos (by decide)];rfl
theorem eM {n:List UInt8}(h:n∈Gv):Gd (Ct n) 14 0 [([],(1,n))]:=by
 have a:∀n∈Gv,(Gu n)/\Bd n=14/\(∀c r,n=c::r->c≠62)/\St (1,n):=by
  intro n b;simp only[Gv,List.mem_cons,List.not_mem_nil,or_false] at b;rcases b with rfl|rfl|rfl<;>exact⟨⟨⟨_,_,rfl,by decide⟩,by decide⟩,by decide,fun c r e=>by simp at e;rw[<- e.1];decide,by unfold St;decide⟩
 obtain⟨f,g,j,k⟩:=a n h;refine Gd.one f.tok (.inl rfl) g k j (fun K i d a1 a2 _ _=>⟨0,?_⟩);unfold C7;rw[show(K i).cl=1 from a1,if_neg (by decide),if_neg (by decide),if_pos rfl];unfold Gp;rw[show(K i).tx=n from a2,if_pos (by simpa using h)];rfl
theorem iW {n:List UInt8}{v:Int}(h:Vm n)(hv:Lib.parseIntB 64 n=.ok v):Gd (Ct (Lib.itoa v)) 14 0 [([],(2,n))]:=by
 have b:∀c r,n=c::r->Bn c=true:=fun c r e=>by
  have:=h.2.1;rw[e] at this;simp at this;exact this.1
 have a:∀(l:List (List UInt8)),(l.all fun q=>match q with | []=>false|c::_=>!Bn c)=true->l.contains n=false:=fun l hl=>J6 fun q hq e=>by
  have f:=List.all_eq_true.1 hl q hq;rw[<- e] at f;cases n with
  | nil=>exact absurd rfl h.1
  | cons c r =>
   have g:=b c r rfl;simp[g] at f
 refine Gd.one h.tok (.inr (.inl rfl)) (P6 (a _ (by decide)) (a _ (by decide)) (a _ (by decide))) ⟨fun e=>absurd (b _ _ e) (by decide),a _ (by decide)⟩ (fun c r e=>?_) (fun K i d a1 a2 _ _=>⟨0,?_⟩)
 ·rintro rfl;have:=b _ _ e;exact absurd this (by decide)
 ·unfold C7;rw[show(K i).cl=2 from a1,if_pos rfl,show(K i).tx=n from a2,hv];rfl
theorem fY {n:List UInt8}(h:Rv n):Gd (Ee n) 14 0 [([],(3,34::(n++[34])))]:=by
 have a:∀(l:List (List UInt8)),(l.all fun q=>match q with | []=>false|c::_=>c != 34)=true->l.contains (34::(n++[34]))=false:=fun l hl=>J6 fun q hq e=>by
  have b:=List.all_eq_true.1 hl q hq;rw[<- e] at b;simp at b
 refine Gd.one h.tok (.inr (.inr rfl)) (P6 (a _ (by decide)) (a _ (by decide)) (a _ (by decide))) ⟨fun e=>by simp at e,a _ (by decide)⟩ (fun c r e=>by simp at e;rw[<- e.1];decide) (fun K i d a1 a2 _ _=>⟨0,?_⟩);unfold C7;rw[show(K i).cl=3 from a1,if_neg (by decide),if_pos rfl,show(K i).tx=34::(n++[34]) from a2];have e:((34::(n++[34])).take ((34::(n++[34])).length-1)).drop 1=n:=by simp
 rw[e];rfl
def N7:List (List UInt8):=[[110,111,116],[97,108,119,97,121,115],[101,118,101,110,116,117,97,108,108,121]]
def Lv:List (List UInt8):=[[45],[100,111,109,97,105,110],[112,111,119,101,114,115,101,116],[102,108,97,116,116,101,110]]
theorem bO (s:List UInt8):Ae s≠6/\Ae s≠12:=by
 unfold Ae;cases d:Eu.lookup s with
 | none=>simp
 | some v =>
  have:∀(js:List (List UInt8×Nat)),js.lookup s=some v->∃p∈js,p.2=v:=by
   intro js
   induction js with
   | nil=>intro e;simp at e
   | cons p js ih =>
    intro e;rw[List.lookup_cons] at e;by_cases a:s==p.1
    ·rw[a] at e;exact⟨p,by simp,by simpa using e⟩
    ·rw[show(s==p.1)=false from by simpa using a] at e;obtain⟨g,b,c⟩:=ih e;exact⟨g,by simp[b],c⟩
  obtain⟨p,a,f⟩:=this Eu d;have k:Eu.all (fun p=>decide (p.2≠6/\p.2≠12))=true:=by decide
  have:=of_decide_eq_true (List.all_eq_true.1 k p a);rw[f] at this;simpa using this
theorem Bc (w r:List UInt8):Ek (1,w) (32::r)=true:=by simp[Ek];decide
theorem Fx:Blk [32]:=fun c hc=>by simp at hc;rw[hc];decide
theorem Fz:Blk []:=fun c hc=>by simp at hc
theorem bP {r:Nat}{op n:List UInt8}(h:op=C8/\r=6\/op=Cd/\r=12)(hn:Cg n):Gd (Gm r op n) r 0 [([],(1,op)),([32],(1,n))]:=by
 have v:Gu op/\Bd op=r/\(∃c y,op=c::y/\c≠62)/\((op==C8||op==Cd)=true)/\(r=6\/r=12)/\St (1,op):=by
  rcases h with⟨rfl,rfl⟩|⟨rfl,rfl⟩<;>exact⟨⟨⟨_,_,rfl,by decide⟩,by decide⟩,by decide,⟨_,_,rfl,by decide⟩,by decide,by decide,by unfold St;decide⟩
 obtain⟨l,o,⟨c,y,g,j⟩,p,s,t⟩:=v;have u:Lu r=r:=if_neg (by omega);refine⟨⟨(1,op),_,c,y,rfl,g,j,fun q=>by omega,t⟩,fun r hr=>⟨Fz,l.tok,Bc _ _,Fx,hn.word.tok,by simpa [spell] using hr.part (.inl rfl),trivial⟩,fun q=>by omega,fun K i d m ha hd hm hq hx hs z k hc=>?_⟩;have a:At K i [(1,op),(1,n)]:=ha;obtain⟨w,b⟩:=a.head;obtain⟨e,f⟩:=a.tail.head;rw[u] at hc;refine Il.ahead s hq (by rw[show(K i).tx=op from b];exact o) ⟨0,?_⟩ hc;unfold Dn;rw[show(K i).tx=op from b,if_pos p,hn.read e f];rfl
theorem eN {r q D:Nat}{op:List UInt8}{x:PX}{l:List (List UInt8×TK)}(h:op∈N7/\r=6\/op∈Lv/\r=12)(hx:Gd x q D l)(hq:r<=q) :
  Gd (Em r op x) r (D+1) (([],(opK op,op))::(if op=Ks then l else spc l)):=by
 have M:I4 (opK op,op)/\Bd op=r/\(∃c y,op=c::y/\c≠62)/\((op==C8||op==Cd)=false)/\(r=6\/r=12)/\(op≠Ks->opK op=1)/\St (opK op,op):=by
  rcases h with⟨h,rfl⟩|⟨h,rfl⟩
  ·simp only[N7,List.mem_cons,List.not_mem_nil,or_false] at h;rcases h with rfl|rfl|rfl<;>exact⟨Gu.tok ⟨⟨_,_,rfl,by decide⟩,by decide⟩,by decide,⟨_,_,rfl,by decide⟩,by decide,by decide,fun _=>by decide,by unfold St;decide⟩
  ·simp only[Lv,List.mem_cons,List.not_mem_nil,or_false] at h;rcases h with rfl|rfl|rfl|rfl
   ·exact⟨B7 45 (by decide),by decide,⟨_,_,rfl,by decide⟩,by decide,by decide,fun q=>absurd rfl q,by unfold St;decide⟩
   all_goals exact⟨Gu.tok ⟨⟨_,_,rfl,by decide⟩,by decide⟩,by decide,⟨_,_,rfl,by decide⟩,by decide,by decide,fun _=>by decide,by unfold St;decide⟩
 obtain⟨p,A,⟨c,y,v,w⟩,B,C,E,G⟩:=M;have I:Lu r=r:=if_neg (by omega);have L:A6 (if op=Ks then l else spc l)=A6 l:=by split<;>simp[Dx]
 have J:(if op=Ks then l else spc l).length=l.length:=by split<;>simp[Ec]
 refine⟨⟨(opK op,op),_,c,y,rfl,v,w,fun q=>by omega,G⟩,fun s hs=>?_,fun q=>by omega,fun K i d m ha hd hm hqm hxx hs z k hc=>?_⟩
 ·by_cases a:op=Ks
  ·rw[if_pos a];refine⟨Fz,p,?_,hx.chain s hs⟩;rw[a];obtain⟨O,P,u,j⟩:=hx.first s;refine Et fun c2 y2 e3=>?_;rw[u] at e3;simp at e3;rw[<- e3.1];simp only[Cb,List.contains_cons,List.contains_nil,Bool.or_false];simp[j]
  ·rw[if_neg a];refine⟨Fz,p,?_,hx.spc_chain hs⟩;rw[hx.spc_spell,show((opK op,op):TK)=(1,op) from by rw[E a]];exact Bc _ _
 ·have f:(([],(opK op,op))::(if op=Ks then l else spc l):List (List UInt8×TK)).length=l.length+1:=by rw[List.length_cons,J]
  rw[f] at hxx hs hc;have b:At K i ((opK op,op)::A6 l):=by rw[<- L];exact ha
  obtain⟨N,o⟩:=b.head;have t:=b.tail;have H:i+(l.length+1)=i+1+l.length:=by omega
  rw[H] at hxx hs hc;rw[I] at hc;have g:Ae (K (i+1+l.length)).tx=0\/Ae (K (i+1+l.length)).tx<r:=by
   have:=bO (K (i+1+l.length)).tx;rcases hs with q|q|⟨q,-⟩
   ·exact .inl q
   ·exact .inr q
   ·omega
  obtain⟨F,e⟩:=hx.prog (n:=r) (d:=d+1) t (by omega) (by omega) hq hxx (g.imp id (fun q=>.inl (by omega))) g;refine Il.ahead C hqm (by rw[show(K i).tx=op from o];exact A) ⟨F,?_⟩ hc;unfold Dn Bw;rw[show(K i).tx=op from o,B,if_neg (by simp),if_neg (by omega)];show bX (A3 K F r (d+1) (i+1)) _=_;rw[e];rfl
theorem kM {f k:PX}{q D qk Dk:Nat}{l lk:List (List UInt8×TK)}(hf:Gd f q D l)(hq:13<=q)(hk:Gd k qk Dk lk):Gd (dAt f k) 13 (max D (Dk+1)) (l++([],(4,[91]))::(lk++[([],(4,[93]))])):=by
 obtain⟨t,w,c,y,s,u,v,p⟩:=hf.head;refine Gd.of_tight (by omega) ⟨t,_,c,y,by rw[s];rfl,u,v,p.1 hq,p.2⟩ (fun r hr=>?_) (fun K i d ha hd h39 h40 z j hb=>?_)
 ·refine Bz.append (hf.chain _ (.inr ⟨91,_,rfl,by decide⟩)) ⟨Fz,B7 91 (by decide),Et fun c y _=>by simp[Cb],Bz.append (hk.chain _ (.inr ⟨93,_,rfl,by decide⟩)) ⟨Fz,B7 93 (by decide),Et fun c y _=>by simp[Cb],trivial⟩⟩
 ·have a:At K i (A6 l++(4,[91])::(A6 lk++[(4,[93])])):=by simpa [A6] using ha
  have e:=a.right;rw[Bf] at e;have g:(K (i+l.length)).tx=[91]:=e.head.2;have m:=e.tail;have o:=m.right;rw[Bf] at o;have h:(K (i+l.length+1+lk.length)).tx=[93]:=o.head.2;have b:(l++([],(4,[91]))::(lk++[([],(4,[93]))]):List (List UInt8×TK)).length=l.length+1+lk.length+1:=by simp;omega
  rw[b] at hb;refine hf.tight hq K i d a.left (by omega) (by rw[g];decide) (by rw[g];decide) z j ?_;refine Dq.at (by omega) g (hk.prog0 (n:=0) m.left (by omega) (by omega) (by omega) (by rw[h];unfold Gb;decide) (by rw[h];decide)) h ?_;rw[show i+l.length+1+lk.length+1=i+(l.length+1+lk.length+1) from by omega];exact hb
theorem eO {f:PX}{q D:Nat}{l:List (List UInt8×TK)}{n:List UInt8}(hf:Gd f q D l)(hq:13<=q)(hn:Cg n):Gd (dAt f (Ee n)) 13 D (l++[([],(4,[46])),([],(1,n))]):=by
 obtain⟨t,C,c,y,w,x,A,p⟩:=hf.head;refine Gd.of_tight (by omega) ⟨t,_,c,y,by rw[w];rfl,x,A,p.1 hq,p.2⟩ (fun r hr=>?_) (fun K i d ha hd h39 h40 z j hb=>?_)
 ·refine Bz.append (hf.chain _ (.inr ⟨46,_,rfl,by decide⟩)) ⟨Fz,B7 46 (by decide),Et fun c y e=>?_,Fz,hn.word.tok,by simpa [spell] using hr.part (.inl rfl),trivial⟩;obtain⟨⟨o,E,v,m⟩,-⟩:=hn.word;have B:c=o:=by
   rw[v] at e;simp[spell] at e;exact e.1.symm
  have k:o≠46:=by rintro rfl;exact absurd m (by decide)
  rw[B];simp only[Cb,List.contains_cons,List.contains_nil,Bool.or_false];simp[k]
 ·have a:At K i (A6 l++[(4,[46]),(1,n)]):=by simpa [A6] using ha
  have g:=a.right;rw[Bf] at g;have h:(K (i+l.length)).tx=[46]:=g.head.2;obtain⟨s,u⟩:=g.tail.head;have b:(l++[([],(4,[46])),([],(1,n))]:List (List UInt8×TK)).length=l.length+2:=by simp
  rw[b] at hb;refine hf.tight hq K i d a.left hd (by rw[h];decide) (by rw[h];decide) z j ?_;refine Dq.dot h (hn.read s u) ?_;rw[show i+l.length+2=i+(l.length+2) from by omega];exact hb
theorem iX {f k v:PX}{q D qk Dk qv Dv:Nat}{l lk lv:List (List UInt8×TK)}(hf:Gd f q D l)(hq:13<=q)(hk:Gd k qk Dk lk)(hv:Gd v qv Dv lv) :
  Gd (Ht f k v) 13 (max D (max (Dk+1) (Dv+1))) (l++([],(4,[91]))::(lk++([32],(4,[58,61]))::(spc lv++[([],(4,[93]))]))):=by
 obtain⟨t,E,c,y,A,B,C,x⟩:=hf.head;refine Gd.of_tight (by omega) ⟨t,_,c,y,by rw[A];rfl,B,C,x.1 hq,x.2⟩ (fun r hr=>?_) (fun K i d ha hd h39 h40 z j hb=>?_)
 ·refine Bz.append (hf.chain _ (.inr ⟨91,_,rfl,by decide⟩)) ⟨Fz,B7 91 (by decide),Et fun c y _=>by simp[Cb],Bz.append (hk.chain _ (.inr ⟨32,_,rfl,by decide⟩)) ⟨Fx,I5 [58,61] (by decide),N6 _,Bz.append (hv.spc_chain (.inr ⟨93,_,rfl,by decide⟩)) ⟨Fz,B7 93 (by decide),Et fun c y _=>by simp[Cb],trivial⟩⟩⟩
 ·have a:At K i (A6 l++(4,[91])::(A6 lk++(4,[58,61])::(A6 lv++[(4,[93])]))):=by
   have e:A6 (l++([],(4,[91]))::(lk++([32],(4,[58,61]))::(spc lv++[([],(4,[93]))])))=A6 l++(4,[91])::(A6 lk++(4,[58,61])::(A6 lv++[(4,[93])])):=by
    rw[<- Dx lv];simp[A6]
   rw[<- e];exact ha
  have g:=a.right;rw[Bf] at g;have m:(K (i+l.length)).tx=[91]:=g.head.2;have s:=g.tail;have h:=s.right;rw[Bf] at h;have o:(K (i+l.length+1+lk.length)).tx=[58,61]:=h.head.2;have u:=h.tail;have w:=u.right;rw[Bf] at w;have p:(K (i+l.length+1+lk.length+1+lv.length)).tx=[93]:=w.head.2;have b:(l++([],(4,[91]))::(lk++([32],(4,[58,61]))::(spc lv++[([],(4,[93]))])):List (List UInt8×TK)).length=l.length+1+lk.length+1+lv.length+1:=by simp[Ec];omega
  rw[b] at hb;refine hf.tight hq K i d a.left (by omega) (by rw[m];decide) (by rw[m];decide) z j ?_;refine Dq.put (by omega) m (hk.prog0 (n:=0) s.left (by omega) (by omega) (by omega) (by rw[o];unfold Gb;decide) (by rw[o];decide)) o (hv.prog0 (n:=0) u.left (by omega) (by omega) (by omega) (by rw[p];unfold Gb;decide) (by rw[p];decide)) p ?_;rw[show i+l.length+1+lk.length+1+lv.length+1=i+(l.length+1+lk.length+1+lv.length+1) from by omega];exact hb
def Nk:List UInt8:=[116,104,101,110]
def Nl:List UInt8:=[101,108,115,101]
def wIn:List UInt8:=[105,110]
theorem J7:∀w∈[wIf,Qj,Nk,Nl,wIn],Gu w:=by
 intro w a;simp only[List.mem_cons,List.not_mem_nil,or_false] at a;rcases a with rfl|rfl|rfl|rfl|rfl<;>exact⟨⟨_,_,rfl,by decide⟩,by decide⟩
theorem bXs {β γ:Type}(x:β)(i:Nat)(k:β->Nat->RX γ):bX (some (.ok (x,i))) k=k x i:=rfl
theorem bXo {β γ:Type}(x:β)(i:Nat)(k:β->Nat->RX γ):bX (okX x i) k=k x i:=rfl
theorem Fw {γ:Type}{K:Nat->Tk}{m:List UInt8}{i:Nat}(k:Nat->RX γ)(h:(K i).tx=m):Bv K m i k=k (i+1):=by
 unfold Bv;rw[h,if_pos (by simp)]
def I6 (s:List UInt8):Prop:=Gb s/\Ae s=0
theorem Vo:I6 Nk:=⟨by unfold Gb;decide,by decide⟩
theorem Vp:I6 Nl:=⟨by unfold Gb;decide,by decide⟩
theorem Ho:I6 [58]:=⟨by unfold Gb;decide,by decide⟩
theorem Mn:I4 (4,[58]):=B7 58 (by decide)
theorem Yi:I4 (4,[61]):=B7 61 (by decide)
theorem Mo (r:List UInt8):Ek (4,[58]) (32::r)=true:=Et fun c y e=>by simp at e;rw[<- e.1];decide
theorem Yj (r:List UInt8):Ek (4,[61]) (32::r)=true:=Et fun c y e=>by simp at e;rw[<- e.1];decide
theorem Gd.of_bind {x:PX}{D:Nat}{op:List UInt8}{l:List (List UInt8×TK)}(ho:Bd op=0)(hst:St (1,op))(hw:Gu op)(chain:∀r,Ji r->Bz (([],(1,op))::l) r)
  (bind:∀K i d,At K i ((1,op)::A6 l)->d+D<=24->I6 (K (i+(l.length+1))).tx->gY K d i x (i+(l.length+1))):Gd x 0 D (([],(1,op))::l):=by
 obtain⟨⟨c,r,e,f⟩,-⟩:=hw;refine⟨⟨(1,op),l,c,r,rfl,e,(H7 (r:=r) f).2,fun q=>by omega,hst⟩,chain,fun q=>by omega,fun K i d n ha hd hn hq hx hs y k hcl=>?_⟩;have a:At K i ((1,op)::A6 l):=ha;obtain rfl:n=0:=by omega
 have b:Ae (K (i+(l.length+1))).tx=0:=by
  rcases hs with q|q|⟨q,-⟩
  ·exact q
  ·omega
  ·exact q
 exact Il.bind (by rw[show(K i).tx=op from a.head.2];exact ho) (bind K i d a hd ⟨hx,b⟩) hcl
theorem kN {a b c:PX}{qa qb qc Da Db Dc:Nat}{la lb lc:List (List UInt8×TK)}(ha:Gd a qa Da la)(hb:Gd b qb Db lb)(hc:Gd c qc Dc lc) :
  Gd (dIf a b c) 0 (max Da (max Db Dc)+1) (([],(1,wIf))::(spc la++([32],(1,Nk))::(spc lb++([32],(1,Nl))::spc lc))):=by
 refine Gd.of_bind (by decide) (by unfold St;decide) (J7 _ (by simp)) (fun r hr=>?_) (fun K i d hA hd hx=>?_)
 ·refine⟨Fz,(J7 _ (by simp)).tok,?_,Bz.append (ha.spc_chain (.inr ⟨32,_,rfl,by decide⟩)) ⟨Fx,(J7 _ (by simp)).tok,?_,Bz.append (hb.spc_chain (.inr ⟨32,_,rfl,by decide⟩)) ⟨Fx,(J7 _ (by simp)).tok,?_,hc.spc_chain hr⟩⟩⟩
  ·rw[Ap,ha.spc_spell];exact Bc _ _
  ·rw[Ap,hb.spc_spell];exact Bc _ _
  ·rw[hc.spc_spell];exact Bc _ _
 ·have e:A6 (spc la++([32],(1,Nk))::(spc lb++([32],(1,Nl))::spc lc))=A6 la++(1,Nk)::(A6 lb++(1,Nl)::A6 lc):=by
   rw[<- Dx la,<- Dx lb,<- Dx lc];simp[A6]
  rw[e] at hA;have k:(spc la++([32],(1,Nk))::(spc lb++([32],(1,Nl))::spc lc):List (List UInt8×TK)).length+1=1+la.length+1+lb.length+1+lc.length:=by simp[Ec];omega
  rw[k] at hx |-;have y:(K i).tx=wIf:=hA.head.2;have s:=hA.tail;have l:=s.right;rw[Bf] at l;have p:(K (i+1+la.length)).tx=Nk:=l.head.2;have t:=l.tail;have o:=t.right;rw[Bf] at o;have q:(K (i+1+la.length+1+lb.length)).tx=Nl:=o.head.2;have u:=o.tail;have j:i+(1+la.length+1+lb.length+1+lc.length)=i+1+la.length+1+lb.length+1+lc.length:=by omega
  rw[j] at hx |-;obtain⟨f,v⟩:=ha.prog0 (n:=0) (d:=d+1) s.left (by omega) (by omega) (by omega) (by rw[p];exact Vo.1) (by rw[p];exact Vo.2);obtain⟨g,w⟩:=hb.prog0 (n:=0) (d:=d+1) t.left (by omega) (by omega) (by omega) (by rw[q];exact Vp.1) (by rw[q];exact Vp.2);obtain⟨h,x⟩:=hc.prog0 (n:=0) (d:=d+1) u (by omega) (by omega) (by omega) hx.1 hx.2;refine⟨f+g+h,?_⟩;unfold Cn Bw;rw[if_neg (by omega),y];show Fs K (A3 K (f+g+h)) (d+1) (i+1)=_;unfold Fs;rw[Fb (G:=f+g+h) (by omega) v,bXs];rw[Fw (m:=[116,104,101,110]) _ p,Fb (G:=f+g+h) (by omega) w,bXs,Fw (m:=[101,108,115,101]) _ q,Fb (G:=f+g+h) (by omega) x];rfl
theorem iY {a b:PX}{n:List UInt8}{qa qb Da Db:Nat}{la lb:List (List UInt8×TK)}(hn:Cg n)(ha:Gd a qa Da la)(hb:Gd b qb Db lb) :
  Gd (L7 n a b) 0 (max Da Db+1) (([],(1,Qj))::([32],(1,n))::([32],(4,[61]))::(spc la++([32],(4,[58]))::spc lb)):=by
 refine Gd.of_bind (by decide) (by unfold St;decide) (J7 _ (by simp)) (fun r hr=>?_) (fun K i d hA hd hx=>?_)
 ·refine⟨Fz,(J7 _ (by simp)).tok,Bc _ _,Fx,hn.word.tok,Bc _ _,Fx,Yi,?_,Bz.append (ha.spc_chain (.inr ⟨32,_,rfl,by decide⟩)) ⟨Fx,Mn,?_,hb.spc_chain hr⟩⟩
  ·rw[Ap,ha.spc_spell];exact Yj _
  ·rw[hb.spc_spell];exact Mo _
 ·have e:A6 (([32],(1,n))::([32],(4,[61]))::(spc la++([32],(4,[58]))::spc lb))=(1,n)::(4,[61])::(A6 la++(4,[58])::A6 lb):=by
   rw[<- Dx la,<- Dx lb];simp[A6]
  rw[e] at hA;have h:(([32],(1,n))::([32],(4,[61]))::(spc la++([32],(4,[58]))::spc lb):List (List UInt8×TK)).length+1=1+1+1+la.length+1+lb.length:=by simp[Ec];omega
  rw[h] at hx |-;have v:(K i).tx=Qj:=hA.head.2;have l:=hA.tail;have c:=hn.read l.head.1 l.head.2;have f:=l.tail;have s:(K (i+1+1)).tx=[61]:=f.head.2;have p:=f.tail;have m:=p.right;rw[Bf] at m;have o:(K (i+1+1+1+la.length)).tx=[58]:=m.head.2;have q:=m.tail;have g:i+(1+1+1+la.length+1+lb.length)=i+1+1+1+la.length+1+lb.length:=by omega
  rw[g] at hx |-;obtain⟨j,t⟩:=ha.prog0 (n:=0) (d:=d+1) p.left (by omega) (by omega) (by omega) (by rw[o];exact Ho.1) (by rw[o];exact Ho.2);obtain⟨k,u⟩:=hb.prog0 (n:=0) (d:=d+1) q (by omega) (by omega) (by omega) hx.1 hx.2;refine⟨j+k,?_⟩;unfold Cn Bw;rw[if_neg (by omega),v];show Ft K (A3 K (j+k)) (d+1) (i+1)=_;unfold Ft;rw[c,bXo];rw[Fw _ s,Fb (G:=j+k) (by omega) t,bXs,Fw _ o,Fb (G:=j+k) (by omega) u];rfl
def P7:List (List UInt8):=[[97,108,108],[115,111,109,101],[99,104,111,111,115,101],[102,117,110]]
def Gf (n:List UInt8)(la lb:List (List UInt8×TK)):List (List UInt8×TK):=([32],(1,n))::([32],(1,wIn))::(spc la++([32],(4,[58]))::spc lb)
theorem P8 {a b:PX}{n op:List UInt8}{qa qb Da Db:Nat}{la lb:List (List UInt8×TK)}(hn:Cg n)(ha:Gd a qa Da la)(hq:8<=qa)(hb:Gd b qb Db lb){K:Nat->Tk}{i d:Nat}(hA:At K i (A6 (Gf n la lb)))(hd:d+max Da Db<=24)(hx:I6 (K (i+(1+1+la.length+1+lb.length))).tx) :
  ∃F,Fd K (A3 K F) op d i=some (.ok (Ds op n a b,i+(1+1+la.length+1+lb.length))):=by
 have e:A6 (Gf n la lb)=(1,n)::(1,wIn)::(A6 la++(4,[58])::A6 lb):=by
  rw[<- Dx la,<- Dx lb];simp[A6,Gf]
 rw[e] at hA;have c:=hn.read hA.head.1 hA.head.2;have f:=hA.tail;have q:(K (i+1)).tx=wIn:=f.head.2;have o:=f.tail;have k:=o.right;rw[Bf] at k;have l:(K (i+1+1+la.length)).tx=[58]:=k.head.2;have p:=k.tail;have g:i+(1+1+la.length+1+lb.length)=i+1+1+la.length+1+lb.length:=by omega
 rw[g] at hx |-;obtain⟨h,r⟩:=ha.prog0 (n:=8) (d:=d) o.left (by omega) (by omega) hq (by rw[l];exact Ho.1) (by rw[l];exact Ho.2);obtain⟨j,s⟩:=hb.prog0 (n:=0) (d:=d) p (by omega) (by omega) (by omega) hx.1 hx.2;refine⟨h+j,?_⟩;unfold Fd;rw[c,bXo];rw[Fw (m:=[105,110]) _ q,Fb (G:=h+j) (by omega) r,bXs,Fw _ l,Fb (G:=h+j) (by omega) s];rfl
theorem Nm {a b:PX}{n:List UInt8}{qa qb Da Db:Nat}{la lb:List (List UInt8×TK)}(hn:Cg n)(ha:Gd a qa Da la)(hb:Gd b qb Db lb){r:List UInt8}(hr:Ji r):Bz (Gf n la lb) r:=by
 refine⟨Fx,hn.word.tok,Bc _ _,Fx,(J7 wIn (by simp)).tok,?_,Bz.append (ha.spc_chain (.inr ⟨32,_,rfl,by decide⟩)) ⟨Fx,Mn,?_,hb.spc_chain hr⟩⟩
 ·rw[Ap,ha.spc_spell];exact Bc _ _
 ·rw[hb.spc_spell];exact Mo _
theorem fZ {a b:PX}{n op:List UInt8}{qa qb Da Db:Nat}{la lb:List (List UInt8×TK)}(ho:op∈P7)(hn:Cg n)(ha:Gd a qa Da la)(hq:8<=qa)(hb:Gd b qb Db lb) :
  Gd (Ds op n a b) 0 (max Da Db+1) (([],(1,op))::Gf n la lb):=by
 have c:Gu op/\Bd op=0/\(op==wIf)=false/\(op==Qj)=false/\St (1,op):=by
  simp only[P7,List.mem_cons,List.not_mem_nil,or_false] at ho;rcases ho with rfl|rfl|rfl|rfl<;>exact⟨⟨⟨_,_,rfl,by decide⟩,by decide⟩,by decide,by decide,by decide,by unfold St;decide⟩
 refine Gd.of_bind c.2.1 c.2.2.2.2 c.1 (fun r hr=>⟨Fz,c.1.tok,Bc _ _,Nm hn ha hb hr⟩) (fun K i d hA hd hx=>?_);have e:(Gf n la lb).length+1=1+(1+1+la.length+1+lb.length):=by simp[Gf,Ec];omega
 rw[e,<- Nat.add_assoc] at hx |-;obtain⟨F,f⟩:=P8 (op:=op) hn ha hq hb hA.tail (d:=d+1) (by omega) hx;refine⟨F,?_⟩;unfold Cn Bw;rw[if_neg (by omega),show(K i).tx=op from hA.head.2,c.2.2.1,c.2.2.2.1];exact f
abbrev SL:=List (List UInt8×TK)
structure Sp (l:SL):Prop where
 head:∃t l',l=([],t)::l'
 chain:∀r,Ji r->Bz l r
theorem Gd.sp {x:PX}{q D:Nat}{l:SL}(h:Gd x q D l):Sp l:=by
 obtain⟨t,a,c,r,e,-⟩:=h.head;exact⟨⟨t,a,e⟩,h.chain⟩
theorem Sp.spell {l:SL}(h:Sp l):spell (spc l)=32::spell l:=by
 obtain⟨t,a,e⟩:=h.head;rw[e];simp[spc,Sx.spell]
theorem Sp.spc {l:SL}(h:Sp l){r:List UInt8}(hr:Ji r):Bz (spc l) r:=by
 have a:=h.chain r hr;obtain⟨t,b,e⟩:=h.head;rw[e] at a |-;exact⟨Fx,a.2.1,a.2.2.1,a.2.2.2⟩
def Hb:List SL->SL
 | []=>[]
 | l::ls=>([],(4,[44]))::(spc l++Hb ls)
def A2:List SL->SL
 | []=>[]
 | l::ls=>l++Hb ls
theorem bQ (l:SL)(ls:List SL):A6 (Hb (l::ls))=(4,[44])::A6 (A2 (l::ls)):=by
 show _::A6 (spc l++Hb ls)=_::A6 (l++Hb ls);rw[Gh,Gh,Dx]
theorem bR:I4 (4,[44]):=B7 44 (by decide)
theorem bS (r:List UInt8):Ek (4,[44]) r=true:=Et fun c y _=>by simp[Cb]
theorem Vq:∀(ls:List SL){r:List UInt8},Ji r->Ji (spell (Hb ls)++r)
 | [],_,h=>h
 | l::ls,r,_=>.inr ⟨44,spell (spc l++Hb ls)++r,rfl,by decide⟩
theorem P9:∀(ls:List SL),(∀l∈ls,Sp l)->∀r,Ji r->Bz (Hb ls) r
 | [],_,_,_=>trivial
 | l::ls,h,r,hr=>⟨Fz,bR,bS _,Bz.append ((h l (by simp)).spc (Vq ls hr)) (P9 ls (fun x hx=>h x (by simp[hx])) r hr)⟩
theorem Gi {ls:List SL}(h:∀l∈ls,Sp l){r:List UInt8}(hr:Ji r):Bz (A2 ls) r:=by
 cases ls with
 | nil=>exact trivial
 | cons l ls=>exact Bz.append ((h l (by simp)).chain _ (Vq ls hr)) (P9 ls (fun x hx=>h x (by simp[hx])) r hr)
theorem bT:I6 [44]:=⟨by unfold Gb;decide,by decide⟩
theorem Kj {β:Type}{K:Nat->Tk}(item:Nat->Nat->RX β)(hm:∀F G,F<=G->∀i,leX (item F i) (item G i)){cl:List UInt8}(hcl:I6 cl)(hc:cl≠[44]):∀(ps:List (β×SL))(acc:List β)(i:Nat),ps≠[] ->
  (∀p∈ps,∀i,At K i (A6 p.2)->I6 (K (i+p.2.length)).tx->∃F,item F i=some (.ok (p.1,i+p.2.length)))->At K i (A6 (A2 (ps.map Prod.snd))++[(4,cl)]) ->
  ∃F,Bj K cl (item F) F acc i=some (.ok (acc++ps.map Prod.fst,i+(A2 (ps.map Prod.snd)).length+1))
 | [],_,_,h,_,_=>absurd rfl h
 | [p],acc,i,_,hp,hA=>by
  have e:A2 ([p].map Prod.snd)=p.2:=by simp[A2,Hb]
  rw[e] at hA |-;have b:=hA.right;rw[Bf] at b;have a:(K (i+p.2.length)).tx=cl:=b.head.2;obtain⟨F,f⟩:=hp p (by simp) i hA.left (by rw[a];exact hcl);refine⟨F+1,?_⟩;rw[Bj,(hm F (F+1) (Nat.le_succ F) i).some f,bXs,a,if_pos (by simp)];rfl
 | p::p2::ps,acc,i,_,hp,hA=>by
  have e:A6 (A2 ((p::p2::ps).map Prod.snd))=A6 p.2++(4,[44])::A6 (A2 ((p2::ps).map Prod.snd)):=by
   show A6 (p.2++Hb (p2.2::ps.map Prod.snd))=_;rw[Gh,bQ];rfl
  have c:(A2 ((p::p2::ps).map Prod.snd)).length=p.2.length+1+(A2 ((p2::ps).map Prod.snd)).length:=by
   have:=congrArg List.length e;rw[Bf,List.length_append,List.length_cons,Bf,Bf] at this;omega
  rw[e,List.append_assoc] at hA;have b:=hA.right;rw[Bf] at b;have a:(K (i+p.2.length)).tx=[44]:=b.head.2;obtain⟨F,f⟩:=hp p (by simp) i hA.left (by rw[a];exact bT);obtain⟨G,g⟩:=Kj item hm hcl hc (p2::ps) (acc++[p.1]) (i+p.2.length+1) (by simp) (fun q hq=>hp q (List.mem_cons_of_mem _ hq)) b.tail;refine⟨F+G+1,?_⟩;rw[Bj,(hm F (F+G+1) (by omega) i).some f,bXs,a,if_neg (by simpa using fun e=>hc e.symm),Fw _ a,(Ff (fun k=>hm G (F+G+1) (by omega) k) G (F+G) (by omega) _ _).some g,c];simp;omega
def Mp (D:Nat)(ps:List (PX×SL)):Prop:=∀p∈ps,(∃q,Gd p.1 q D p.2)/\p.1.tx=spell p.2
theorem Yk (ps:List (PX×SL))(D:Nat)(h:Mp D ps):∀k,0<k->spell (Hb (ps.map Prod.snd))=Bq Cm k ((ps.map Prod.fst).map PX.tx):=by
 induction ps with
 | nil=>intro k _;rfl
 | cons p ps ih =>
  intro k d;obtain⟨⟨q,b⟩,c⟩:=h p (by simp);have a:Cm k=[44,32]:=by unfold Cm;rw[if_neg (by omega)]
  have:=ih (fun x hx=>h x (by simp[hx])) (k+1) (by omega);simp only[List.map_cons,Hb,spell,Bq,a,Ap,b.sp.spell,this,c];simp
theorem Im {ps:List (PX×SL)}{D:Nat}(h:Mp D ps):spell (A2 (ps.map Prod.snd))=C0 (ps.map Prod.fst):=by
 unfold C0;cases ps with
 | nil=>rfl
 | cons p ps =>
  have:=Yk ps D (fun x hx=>h x (by simp[hx])) 1 (by omega);simp only[List.map_cons,A2,Bq,Ap,this,(h p (by simp)).2];rfl
theorem Mp.sp {D:Nat}{ps:List (PX×SL)}(h:Mp D ps):∀l∈ps.map Prod.snd,Sp l:=by
 intro l b;obtain⟨p,c,rfl⟩:=List.mem_map.1 b;obtain⟨⟨q,a⟩,-⟩:=h p c;exact a.sp
theorem Qa {K:Nat->Tk}{D d:Nat}{ps:List (PX×SL)}(h:Mp D ps)(hd:d+D<=24){cl:List UInt8}(hcl:I6 cl)(hc:cl≠[44])(hne:ps≠[]){i:Nat}(hA:At K i (A6 (A2 (ps.map Prod.snd))++[(4,cl)])) :
  ∃F,Bj K cl (A3 K F 0 d) F [] i=some (.ok (ps.map Prod.fst,i+(A2 (ps.map Prod.snd)).length+1)):=by
 have:=Kj (fun F i=>A3 K F 0 d i) (fun F G hf i=>Gw K F G hf 0 d i) hcl hc ps [] i hne (fun p hp i ha hx=>by
  obtain⟨⟨q,a⟩,-⟩:=h p hp;exact a.prog0 (n:=0) ha hd (by omega) (by omega) hx.1 hx.2) hA
 simpa using this
theorem Nn {D:Nat}{p:PX×SL}{ps:List (PX×SL)}(h:Mp D (p::ps)):∃t ts,A6 (A2 ((p::ps).map Prod.snd))=t::ts/\St t/\∃c r,t.2=c::r/\c≠62:=by
 obtain⟨⟨q,f⟩,-⟩:=h p (by simp);obtain⟨t,g,c,r,a,b,d,-,e⟩:=f.head;refine⟨t,A6 (g++Hb (ps.map Prod.snd)),?_,e,c,r,b,d⟩;show A6 (p.2++Hb (ps.map Prod.snd))=_;rw[a];rfl
theorem Vr {K:Nat->Tk}{D d:Nat}{ps:List (PX×SL)}(h:Mp D ps)(hd:d+D<=24){cl:List UInt8}(hcl:I6 cl)(hc:cl≠[44])(hst:∀t:TK,St t->(∃c r,t.2=c::r/\c≠62)->t.2≠cl){i:Nat}(hA:At K i (A6 (A2 (ps.map Prod.snd))++[(4,cl)])) :
  ∃F,Km K cl (A3 K F 0 d) F i=some (.ok (ps.map Prod.fst,i+(A2 (ps.map Prod.snd)).length+1)):=by
 unfold Km;cases ps with
 | nil =>
  refine⟨0,?_⟩;have b:(K i).tx=cl:=(At.head (show At K i [(4,cl)] from hA)).2;rw[b,if_pos (by simp)];rfl
 | cons p ps =>
  obtain⟨t,k,e,g,j⟩:=Nn h;obtain⟨F,f⟩:=Qa h hd hcl hc (by simp) hA;refine⟨F,?_⟩;have a:=hA;rw[e] at a;have b:(K i).tx=t.2:=(At.head (show At K i (t::(k++[(4,cl)])) from a)).2;rw[if_neg (by rw[b];simpa using hst t g j)];exact f
theorem hJ:I6 [41]:=⟨by unfold Gb;decide,by decide⟩
theorem Yl:I6 [125]:=⟨by unfold Gb;decide,by decide⟩
theorem kO:I6 [93]:=⟨by unfold Gb;decide,by decide⟩
theorem kP:I6 [62,62]:=⟨by unfold Gb;decide,by decide⟩
theorem Qb {a:UInt8}(ha:a∈[(41:UInt8),93,125])(r:List UInt8):Bz [([],(4,[a]))] r:=by
 simp only[List.mem_cons,List.not_mem_nil,or_false] at ha;rcases ha with rfl|rfl|rfl<;>exact⟨Fz,B7 _ (by decide),Et fun c y _=>by simp[Cb],trivial⟩
theorem I7 {a:UInt8}(ha:a∈[(40:UInt8),91,123])(r:List UInt8):Ek (4,[a]) r=true:=by
 simp only[List.mem_cons,List.not_mem_nil,or_false] at ha;rcases ha with rfl|rfl|rfl<;>exact Et fun c y _=>by simp[Cb]
def Rw (n:List UInt8)(ls:List SL):SL:=([],(1,n))::([],(4,[40]))::(A2 ls++[([],(4,[41]))])
theorem bU {K:Nat->Tk}{D d:Nat}{n:List UInt8}{ps:List (PX×SL)}(h:Mp D ps)(hne:ps≠[]){i:Nat}(hA:At K i ((4,[40])::(A6 (A2 (ps.map Prod.snd))++[(4,[41])])))(hd:d+(D+1)<=24) :
  ∃F,G0 K (A3 K F) F n d i=some (.ok (Ed n (ps.map Prod.fst),i+1+(A2 (ps.map Prod.snd)).length+1)):=by
 obtain⟨F,f⟩:=Qa (d:=d+1) h (by omega) hJ (by decide) hne hA.tail;refine⟨F,?_⟩;unfold G0 Bw;rw[if_neg (by omega)];show bX (Bj K [41] (A3 K F 0 (d+1)) F [] (i+1)) _=_;rw[f];rfl
theorem gA {D:Nat}{n:List UInt8}{ps:List (PX×SL)}(hn:Cg n\/n∈Cz)(h:Mp D ps)(hne:ps≠[]):Gd (Ed n (ps.map Prod.fst)) 14 (D+1) (Rw n (ps.map Prod.snd)):=by
 have b:Gu n/\Bd n=14/\St (1,n):=by
  rcases hn with hn|hn
  ·exact⟨hn.word,hn.open,hn.st⟩
  ·simp only[Cz,List.mem_cons,List.not_mem_nil,or_false] at hn;rcases hn with rfl|rfl|rfl|rfl|rfl|rfl|rfl<;>exact⟨⟨⟨_,_,rfl,by decide⟩,by decide⟩,by decide,by unfold St;decide⟩
 obtain⟨⟨c,r,e,s⟩,-⟩:=b.1;refine Gd.of_tight (by omega) ⟨(1,n),_,c,r,rfl,e,(H7 (r:=r) s).2,b.2.1,b.2.2⟩ (fun r hr=>?_) (fun K i d hA hd h39 h40 y k hb=>?_)
 ·refine⟨Fz,b.1.tok,by simp[Sx.spell,Ek];decide,Fz,B7 40 (by decide),I7 (by simp) _,Bz.append (Gi h.sp (hH _)) (Qb (by simp) r)⟩
 ·have p:A6 (Rw n (ps.map Prod.snd))=(1,n)::(4,[40])::(A6 (A2 (ps.map Prod.snd))++[(4,[41])]):=by simp[Rw,A6]
  rw[p] at hA;have a:(Rw n (ps.map Prod.snd)).length=1+1+(A2 (ps.map Prod.snd)).length+1:=by simp[Rw];omega
  rw[a] at hb;obtain⟨g,l⟩:=hA.head;have m:=hA.tail;have o:(K (i+1)).tx=[40]:=m.head.2;obtain⟨F,f⟩:=bU (d:=d) (n:=n) h hne m hd;refine Gz.of (x:=Ed n (ps.map Prod.fst)) (j:=i+1+1+(A2 (ps.map Prod.snd)).length+1) ⟨F,?_⟩ (by rw[show i+1+1+(A2 (ps.map Prod.snd)).length+1=i+(1+1+(A2 (ps.map Prod.snd)).length+1) from by omega];exact hb);unfold C7;rw[show(K i).cl=1 from g,if_neg (by decide),if_neg (by decide),if_pos rfl];unfold Gp;rw[show(K i).tx=n from l];rcases hn with hn|hn
  ·rw[hn.word3.1,hn.word3.2,if_neg (by simp),if_neg (by simp)];unfold Fe;rw[hn.read g l,bXo,o,if_neg (by decide),if_pos (by decide)];exact f
  ·have q:Gv.contains n=false:=by
    simp only[Cz,List.mem_cons,List.not_mem_nil,or_false] at hn;rcases hn with rfl|rfl|rfl|rfl|rfl|rfl|rfl<;>decide
   rw[q,if_neg (by simp),if_pos (by simpa using hn),o,if_pos (by decide)];exact f
theorem Jj {K:Nat->Tk}{d i:Nat}(h0:(K i).cl=4)(F:Nat):C7 K (A3 K F) F d i=Bp K (A3 K F) F d i:=by
 unfold C7;rw[if_neg (by omega),if_neg (by omega),if_neg (by omega)]
theorem iZ {D:Nat}{ps:List (PX×SL)}(h:Mp D ps):Gd (Kt (ps.map Prod.fst)) 14 (D+1) (([],(4,[123]))::(A2 (ps.map Prod.snd)++[([],(4,[125]))])):=by
 refine Gd.of_tight (by omega) ⟨(4,[123]),_,123,[],rfl,rfl,by decide,by decide,by unfold St;decide⟩ (fun r hr=>?_) (fun K i d hA hd h39 h40 y k hb=>?_)
 ·exact⟨Fz,B7 123 (by decide),I7 (by simp) _,Bz.append (Gi h.sp (.inr ⟨125,_,rfl,by decide⟩)) (Qb (by simp) r)⟩
 ·have a:At K i ((4,[123])::(A6 (A2 (ps.map Prod.snd))++[(4,[125])])):=by simpa [A6] using hA
  have b:(([],(4,[123]))::(A2 (ps.map Prod.snd)++[([],(4,[125]))]):SL).length=1+(A2 (ps.map Prod.snd)).length+1:=by simp;omega
  rw[b] at hb;obtain⟨l,m⟩:=a.head;have c:=a.tail;obtain⟨F,f⟩:=Vr (d:=d+1) h (by omega) Yl (by decide) (fun t ht _=>ht.1) c;refine Gz.of (x:=Kt (ps.map Prod.fst)) (j:=i+1+(A2 (ps.map Prod.snd)).length+1) ⟨F,?_⟩ (by rw[show i+1+(A2 (ps.map Prod.snd)).length+1=i+(1+(A2 (ps.map Prod.snd)).length+1) from by omega];exact hb);rw[Jj l];unfold Bp Bw;rw[show(K i).tx=[123] from m,if_neg (by decide),if_pos (by decide),if_neg (by omega)];show Jr K (A3 K F) F (d+1) (i+1)=_;unfold Jr;have g:Cp.contains (K (i+1)).tx=false:=by
   cases ps with
   | nil=>rw[show(K (i+1)).tx=[125] from(At.head (show At K (i+1) [(4,[125])] from c)).2];decide
   | cons p ps =>
    obtain⟨t,o,e,n,-⟩:=Nn h;rw[e] at c;rw[(At.head (show At K (i+1) (t::(o++[(4,[125])])) from c)).2];exact n.2
  rw[g,if_neg (by simp),f];rfl
theorem jA {D:Nat}{ps:List (PX×SL)}(h:Mp D ps):Gd (Jq (ps.map Prod.fst)) 14 (D+1) (([],(4,[60,60]))::(A2 (ps.map Prod.snd)++[([],(4,[62,62]))])):=by
 refine Gd.of_tight (by omega) ⟨(4,[60,60]),_,60,[60],rfl,rfl,by decide,by decide,by unfold St;decide⟩ (fun r hr=>?_) (fun K i d hA hd h39 h40 y k hb=>?_)
 ·exact⟨Fz,I5 [60,60] (by decide),N6 _,Bz.append (Gi h.sp (.inr ⟨62,_,rfl,by decide⟩)) ⟨Fz,I5 [62,62] (by decide),N6 _,trivial⟩⟩
 ·have a:At K i ((4,[60,60])::(A6 (A2 (ps.map Prod.snd))++[(4,[62,62])])):=by simpa [A6] using hA
  have b:(([],(4,[60,60]))::(A2 (ps.map Prod.snd)++[([],(4,[62,62]))]):SL).length=1+(A2 (ps.map Prod.snd)).length+1:=by simp;omega
  rw[b] at hb;obtain⟨g,l⟩:=a.head;have m:=a.tail;obtain⟨F,f⟩:=Vr (d:=d+1) h (by omega) kP (by decide) (fun t _ hc=>by
   obtain⟨c,r,e,hc⟩:=hc;rw[e];intro q;simp at q;exact hc q.1) m
  refine Gz.of (x:=Jq (ps.map Prod.fst)) (j:=i+1+(A2 (ps.map Prod.snd)).length+1) ⟨F,?_⟩ (by rw[show i+1+(A2 (ps.map Prod.snd)).length+1=i+(1+(A2 (ps.map Prod.snd)).length+1) from by omega];exact hb);rw[Jj g];unfold Bp Bw;rw[show(K i).tx=[60,60] from l,if_neg (by decide),if_neg (by decide),if_pos (by decide),if_neg (by omega)];show bX (Km K [62,62] (A3 K F 0 (d+1)) F (i+1)) _=_;rw[f];rfl
theorem gB {a b:PX}{n op:List UInt8}{qa qb Da Db:Nat}{la lb:SL}(ho:op∈Cp)(hn:Cg n)(ha:Gd a qa Da la)(hq:8<=qa)(hb:Gd b qb Db lb) :
  Gd (Ds op n a b) 14 (max Da Db+1) (([],(4,[123]))::([],(1,op))::(Gf n la lb++[([],(4,[125]))])):=by
 have t:Gu op:=by
  simp only[Cp,List.mem_cons,List.not_mem_nil,or_false] at ho;rcases ho with rfl|rfl<;>exact⟨⟨_,_,rfl,by decide⟩,by decide⟩
 refine Gd.of_tight (by omega) ⟨(4,[123]),_,123,[],rfl,rfl,by decide,by decide,by unfold St;decide⟩ (fun r hr=>?_) (fun K i d hA hd h39 h40 y k hbb=>?_)
 ·exact⟨Fz,B7 123 (by decide),I7 (by simp) _,Fz,t.tok,Bc _ _,Bz.append (Nm hn ha hb (.inr ⟨125,_,rfl,by decide⟩)) (Qb (by simp) r)⟩
 ·have c:At K i ((4,[123])::(1,op)::(A6 (Gf n la lb)++[(4,[125])])):=by simpa [A6] using hA
  have e:(Gf n la lb).length=1+1+la.length+1+lb.length:=by simp[Gf,Ec];omega
  have g:(([],(4,[123]))::([],(1,op))::(Gf n la lb++[([],(4,[125]))]):SL).length=1+1+(1+1+la.length+1+lb.length)+1:=by simp[e];omega
  rw[g] at hbb;obtain⟨p,q⟩:=c.head;have h:=c.tail;have s:(K (i+1)).tx=op:=h.head.2;have l:=h.tail;have m:=l.right;rw[Bf,e] at m;have o:(K (i+1+1+(1+1+la.length+1+lb.length))).tx=[125]:=m.head.2;obtain⟨F,f⟩:=P8 (op:=op) (d:=d+1) hn ha hq hb l.left (by omega) (by rw[o];exact Yl);refine Gz.of (x:=Ds op n a b) (j:=i+1+1+(1+1+la.length+1+lb.length)+1) ⟨F,?_⟩ (by rw[show i+1+1+(1+1+la.length+1+lb.length)+1=i+(1+1+(1+1+la.length+1+lb.length)+1) from by omega];exact hbb);rw[Jj p];unfold Bp Bw;rw[show(K i).tx=[123] from q,if_neg (by decide),if_pos (by decide),if_neg (by omega)];show Jr K (A3 K F) F (d+1) (i+1)=_;unfold Jr;rw[s,if_pos (by simpa using ho),f,bXs,Fw _ o];rfl
def Ei (p:(PX×SL)×(PX×SL)):SL:=p.1.2++([],(4,[58]))::spc p.2.2
def gC (D:Nat)(ps:List ((PX×SL)×(PX×SL))):Prop:=∀p∈ps,((∃q,Gd p.1.1 q D p.1.2)/\p.1.1.tx=spell p.1.2)/\(∃q,Gd p.2.1 q D p.2.2)/\p.2.1.tx=spell p.2.2
def Lw (p:(PX×SL)×(PX×SL)):PX×PX:=(p.1.1,p.2.1)
theorem Zn {D:Nat}{p:(PX×SL)×(PX×SL)}(h1:∃q,Gd p.1.1 q D p.1.2)(h2:∃q,Gd p.2.1 q D p.2.2):Sp (Ei p):=by
 obtain⟨f,a⟩:=h1;obtain⟨g,b⟩:=h2;obtain⟨t,d,c,r,e,-⟩:=a.head;refine⟨⟨t,d++([],(4,[58]))::spc p.2.2,by unfold Ei;rw[e];rfl⟩,fun r hr=>?_⟩;refine Bz.append (a.chain _ (.inr ⟨58,_,rfl,by decide⟩)) ⟨Fz,Mn,?_,b.spc_chain hr⟩;rw[b.spc_spell];exact Mo _
theorem bV {K:Nat->Tk}{D d i:Nat}{p:(PX×SL)×(PX×SL)}(h1:∃q,Gd p.1.1 q D p.1.2)(h2:∃q,Gd p.2.1 q D p.2.2)(hd:d+D<=24)(hA:At K i (A6 (Ei p)))(hx:I6 (K (i+(Ei p).length)).tx):∃F,Gn K (A3 K F) d i=some (.ok (Lw p,i+(Ei p).length)):=by
 obtain⟨r,l⟩:=h1;obtain⟨s,m⟩:=h2;have e:A6 (Ei p)=A6 p.1.2++(4,[58])::A6 p.2.2:=by rw[<- Dx p.2.2];simp[Ei,A6]
 have h:(Ei p).length=p.1.2.length+1+p.2.2.length:=by simp[Ei,Ec];omega
 rw[e] at hA;rw[h] at hx |-;have c:=hA.right;rw[Bf] at c;have f:(K (i+p.1.2.length)).tx=[58]:=c.head.2;have g:=c.tail;have o:i+(p.1.2.length+1+p.2.2.length)=i+p.1.2.length+1+p.2.2.length:=by omega
 rw[o] at hx |-;obtain⟨a,j⟩:=l.prog0 (n:=0) hA.left hd (by omega) (by omega) (by rw[f];exact Ho.1) (by rw[f];exact Ho.2);obtain⟨b,k⟩:=m.prog0 (n:=0) g hd (by omega) (by omega) hx.1 hx.2;refine⟨a+b,?_⟩;unfold Gn;rw[Fb (G:=a+b) (by omega) j,bXs,Fw _ f,Fb (G:=a+b) (by omega) k];rfl
def J8 (ps:List ((PX×SL)×(PX×SL))):List PX:=(ps.map Lw).flatMap fun p=>[p.1,p.2]
theorem Ym (ps:List ((PX×SL)×(PX×SL)))(D:Nat)(h:gC D ps):∀k,0<k->spell (Hb (ps.map Ei))=Bq C5 (2*k) ((J8 ps).map PX.tx):=by
 induction ps with
 | nil=>intro k _;rfl
 | cons p ps ih =>
  intro k n;obtain⟨⟨c,l⟩,⟨g,a⟩,m⟩:=h p (by simp);have i:C5 (2*k)=[44,32]:=by unfold C5;rw[if_neg (by omega),if_neg (by omega)]
  have j:C5 (2*k+1)=[58,32]:=by unfold C5;rw[if_pos (by omega)]
  have d:=ih (fun x hx=>h x (by simp[hx])) (k+1) (by omega);have f:=(Zn c ⟨g,a⟩).spell;have b:J8 (p::ps)=p.1.1::p.2.1::J8 ps:=by simp[J8,Lw]
  rw[b];simp only[List.map_cons,Hb,spell,Bq,i,j,Ap,f,d];have e:spell (Ei p)=p.1.1.tx++[58]++[32]++p.2.1.tx:=by
   unfold Ei;rw[Ap,l,m];simp[spell,a.spc_spell]
  rw[e,show 2*(k+1)=2*k+1+1 from by omega];simp
theorem Vs {ps:List ((PX×SL)×(PX×SL))}{D:Nat}(h:gC D ps):spell (A2 (ps.map Ei))=Bq C5 0 ((J8 ps).map PX.tx):=by
 cases ps with
 | nil=>rfl
 | cons p ps =>
  obtain⟨⟨j,g⟩,⟨k,b⟩,i⟩:=h p (by simp);have c:=Ym ps D (fun x hx=>h x (by simp[hx])) 1 (by omega);have a:J8 (p::ps)=p.1.1::p.2.1::J8 ps:=by simp[J8,Lw]
  have d:spell (Ei p)=p.1.1.tx++[58]++[32]++p.2.1.tx:=by
   unfold Ei;rw[Ap,g,i];simp[spell,b.spc_spell]
  rw[a];simp only[List.map_cons,A2,Bq,Ap,c,d];have e:C5 0=[]:=rfl;have f:C5 (0+1)=[58,32]:=rfl;rw[e,f];simp
theorem jB {D:Nat}{ps:List ((PX×SL)×(PX×SL))}(h:gC D ps)(hne:ps≠[]):Gd (Kl (J8 ps)) 14 (D+1) (([],(4,[91]))::(A2 (ps.map Ei)++[([],(4,[93]))])):=by
 have e:∀l∈ps.map Ei,Sp l:=by
  intro l t;obtain⟨p,hp,rfl⟩:=List.mem_map.1 t;exact Zn (h p hp).1.1 (h p hp).2.1
 refine Gd.of_tight (by omega) ⟨(4,[91]),_,91,[],rfl,rfl,by decide,by decide,by unfold St;decide⟩ (fun r hr=>?_) (fun K i d hA hd h39 h40 y k hb=>?_)
 ·exact⟨Fz,B7 91 (by decide),I7 (by simp) _,Bz.append (Gi e (.inr ⟨93,_,rfl,by decide⟩)) (Qb (by simp) r)⟩
 ·have g:(ps.map fun p=>(Lw p,Ei p)).map Prod.snd=ps.map Ei:=by simp
  have a:At K i ((4,[91])::(A6 (A2 (ps.map Ei))++[(4,[93])])):=by simpa [A6] using hA
  have b:(([],(4,[91]))::(A2 (ps.map Ei)++[([],(4,[93]))]):SL).length=1+(A2 (ps.map Ei)).length+1:=by simp;omega
  rw[b] at hb;obtain⟨n,o⟩:=a.head;have q:=a.tail;have hr:=Kj (K:=K) (fun F i=>Gn K (A3 K F) (d+1) i) (fun F G hf i=>Oe (les K hf) (d+1) i) kO (by decide) (ps.map fun p=>(Lw p,Ei p)) [] (i+1) (by simpa using hne) (fun p hp i ha hx=>by
   obtain⟨m,c,rfl⟩:=List.mem_map.1 hp;exact bV (h m c).1.1 (h m c).2.1 (by omega) ha hx) (by rw[g];exact q)
  rw[g] at hr;obtain⟨F,f⟩:=hr;have s:(ps.map fun p=>(Lw p,Ei p)).map Prod.fst=ps.map Lw:=by simp
  rw[s,List.nil_append] at f;refine Gz.of (x:=Kl (J8 ps)) (j:=i+1+(A2 (ps.map Ei)).length+1) ⟨F,?_⟩ (by rw[show i+1+(A2 (ps.map Ei)).length+1=i+(1+(A2 (ps.map Ei)).length+1) from by omega];exact hb);rw[Jj n];unfold Bp Bw;rw[show(K i).tx=[91] from o,if_neg (by decide),if_neg (by decide),if_neg (by decide),if_pos (by decide),if_neg (by omega)];show bX (Bj K [93] (Gn K (A3 K F) (d+1)) F [] (i+1)) _=_;rw[f];rfl
theorem eP (M:Nat):∀(l r:List UInt8)(a b:Nat),Lib.parseUintM M a l=.ok b->Lib.parseUintM M a (l++r)=Lib.parseUintM M b r
 | [],r,a,b,h=>by simp only[Lib.parseUintM,Lib.NumEnd.ok.injEq] at h;rw[h];rfl
 | c::l,r,a,b,h=>by
  simp only[Lib.parseUintM,List.cons_append] at h |-;split at h
  ·rename_i h1
   rw[if_pos h1];split at h
   ·simp at h
   ·rename_i h2
    rw[if_neg h2];split at h
    ·simp at h
    ·rename_i h3
     rw[if_neg h3];exact eP M l r _ b h
  ·simp at h
theorem jC (M:Nat)(hM:M<=18446744073709551615)(u:Nat)(hu:u<=M):Lib.parseUintM M 0 (Lib.decDigits u)=.ok u:=by
 induction u using Nat.strongRecOn with
 | ind u ih =>
  rw[Lib.decDigits];split
  ·rename_i h
   simp only[Lib.parseUintM,Hs u h];rw[if_pos (by omega),if_neg (by omega),if_neg (by omega)]
   congr 1;omega
  ·rename_i h
   rw[eP M _ _ 0 (u / 10) (ih (u / 10) (by omega) (by omega))];simp only[Lib.parseUintM,Hs (u % 10) (by omega)];rw[if_pos (by omega),if_neg (by omega),if_neg (by omega)]
   congr 1;omega
theorem jD (n:Nat)(h1:n<9223372036854775808):Lib.parseIntB 64 (Lib.decDigits n)=.ok (n:Int):=by
 have e:=jC (2 ^ 64-1) (by decide) n (by omega);obtain⟨c,r,f,a⟩:=Fc n;have g:=(Lb c a).1;rw[f] at e |-;have b:¬(c.toNat=43\/c.toNat=45):=by
  simp[Bn,UInt8.le_iff_toNat_le] at a;omega
 simp only[Lib.parseIntB];rw[if_neg b];unfold Lib.parseUintB;rw[if_neg (by simp),e];have d:¬c.toNat=45:=by omega
 simp only;simp[d];omega
theorem kZ (n:Nat)(r:List UInt8)(h:Lib.decDigits n=48::r):r=[]:=by
 have b:∀n,0<n->∀r,Lib.decDigits n≠48::r:=by
  intro n
  induction n using Nat.strongRecOn with
  | ind n ih =>
   intro d r e;rw[Lib.decDigits] at e;split at e
   ·rename_i h
    have:=congrArg UInt8.toNat (List.cons.inj e).1;rw[Hs n h] at this;simp at this;omega
   ·rename_i h
    cases a:Lib.decDigits (n / 10) with
    | nil=>exact Gl _ a
    | cons c q =>
     rw[a] at e;have:=(List.cons.inj e).1;subst this;exact ih (n / 10) (by omega) (by omega) q a
 by_cases d:0<n
 ·exact absurd h (b n d r)
 ·have:n=0:=by omega
  subst this;rw[Lib.decDigits] at h;split at h
  ·exact(List.cons.inj h).2.symm
  ·omega
theorem gD (n:Nat):Vm (Lib.decDigits n):=by
 refine⟨Gl n,List.all_eq_true.2 (Gc n),?_⟩;obtain⟨c,r,e,-⟩:=Fc n;by_cases h:c=48
 ·subst h;have:=kZ n r e;exact .inl (by rw[e,this];rfl)
 ·exact .inr (by rw[e];exact h)
theorem eQ {t:List UInt8}{v:Int}(h:Vm t)(hv:Lib.parseIntB 64 t=.ok v):Vm (Lib.itoa v)/\Lib.parseIntB 64 (Lib.itoa v)=.ok v:=by
 have a:=bB t h.1 (List.all_eq_true.1 h.2.1);rw[hv] at a;split at a
 ·rename_i q
  simp only[Lib.NumEnd.ok.injEq] at a;have e:Lib.itoa v=Lib.decDigits (Q8 0 t):=by
   unfold Lib.itoa;rw[if_neg (by omega),a];rfl
  rw[e];exact⟨gD _,by rw[jD _ q,a]⟩
 ·simp at a
structure Lx (t:Tk):Prop where
 word:t.cl=1->Gu t.tx
 num:t.cl=2->Vm t.tx
 text:t.cl=3->∃n,t.tx=34::(n++[34])/\Rv n
theorem J9 (l:List UInt8):l.take (Bx l)=l.takeWhile Ba:=by
 unfold Bx
 induction l with
 | nil=>rfl
 | cons c l ih =>
  rw[List.takeWhile_cons];split
  ·simp[ih]
  ·rfl
theorem gE (l:List UInt8):(l.takeWhile Ba).all Ba=true:=by
 induction l with
 | nil=>rfl
 | cons c l ih =>
  rw[List.takeWhile_cons];split
  ·rename_i h;simp[h,ih]
  ·rfl
theorem Qc:∀(l:List UInt8)(i:Nat),(Cc l i).1=3->∃n r,l=n++34::r/\Rv n/\(Cc l i).2=i+n.length+1
 | [],i,h=>by simp[Cc] at h
 | c::l,i,h=>by
  rw[Cc] at h |-;cases hc:(c==34) with
  | true =>
   have:c=34:=by simpa using hc
   subst this;exact⟨[],l,rfl,fun c hc=>by simp at hc,by simp⟩
  | false =>
   rw[hc,if_neg (by simp)] at h;rw[if_neg (by simp)];cases a:Hq c with
   | true =>
    rw[a,if_pos rfl] at h;rw[if_pos rfl];obtain⟨n,r,b,e,f⟩:=Qc l (i+1) h;refine⟨c::n,r,by rw[b];rfl,fun d hd=>?_,by rw[f];simp;omega⟩;rcases List.mem_cons.1 hd with rfl|hd
    ·exact⟨hc,a⟩
    ·exact e d hd
   | false =>
    rw[a,if_neg (by simp)] at h;simp at h
theorem bW (l:List UInt8)(a:Nat):Lx ⟨(Dr l).1,l.take (Dr l).2,a⟩:=by
 cases l with
 | nil=>exact⟨fun h=>by simp[Dr] at h,fun h=>by simp[Dr] at h,fun h=>by simp[Dr] at h⟩
 | cons c l =>
  rw[G6];cases f:A8 c with
  | true =>
   rw[if_pos rfl];refine⟨fun _=>?_,fun h=>by simp at h,fun h=>by simp at h⟩;have s:Ba c=true:=by simp[Ba,f]
   show Gu ((c::l).take (Bx (c::l)));rw[J9];exact⟨⟨c,l.takeWhile Ba,by rw[List.takeWhile_cons,if_pos s],f⟩,gE _⟩
  | false =>
   rw[if_neg (by simp)];cases g:Ba c with
   | true =>
    rw[if_pos rfl];refine⟨fun h=>?_,fun h=>?_,fun h=>?_⟩
    ·revert h;show(if _ then 2 else 5)=1->_;split<;>simp
    ·have b:Ju (c::l)=true:=by
      cases b:Ju (c::l) with
      | true=>rfl
      | false=>rw[b] at h;simp at h
     unfold Ju at b;rw[Bool.and_eq_true] at b;show Vm ((c::l).take (Bx (c::l)));have p:((c::l).take (Bx (c::l))).length=Bx (c::l):=by
      rw[List.length_take];have:=Hk (c::l);omega
     refine⟨?_,b.1,?_⟩
     ·rw[J9,List.takeWhile_cons,if_pos g];simp
     ·have d:=b.2;simp only[Bool.or_eq_true,decide_eq_true_eq,Bool.and_eq_true,Bool.not_eq_true',decide_eq_false_iff_not] at d;rcases d with d|d
      ·exact .inl (by rw[p];exact d)
      ·refine .inr ?_;rw[J9,List.takeWhile_cons,if_pos g];show c≠48;rintro rfl;exact d.2 rfl
    ·revert h;show(if _ then 2 else 5)=3->_;split<;>simp
   | false =>
    rw[if_neg (by simp)];by_cases e:c.toNat=34
    ·rw[if_pos e];have o:c=34:=by rw[<- UInt8.toNat_inj];exact e
     subst o;have q:=Kd l 1;refine⟨fun h=>?_,fun h=>?_,fun h=>?_⟩
     ·have m:(Cc l 1).1=1:=h;omega
     ·have m:(Cc l 1).1=2:=h;omega
     ·obtain⟨n,r,i,j,k⟩:=Qc l 1 h;refine⟨n,?_,j⟩;show(34::l).take (Cc l 1).2=_;rw[k,show 1+n.length+1=(n.length+1)+1 from by omega,List.take_succ_cons,i]
      congr 1
      rw[show n.length+1=(n++[34]).length from by simp,show n++34::r=(n++[34])++r from by simp,List.take_left]
    ·rw[if_neg e];split
     ·exact⟨fun h=>by simp at h,fun h=>by simp at h,fun h=>by simp at h⟩
     ·exact⟨fun h=>by simp at h,fun h=>by simp at h,fun h=>by simp at h⟩
theorem Mq (T:List UInt8)(i:Nat):Lx (tkF T i):=bW (T.drop (atF T i)) _
structure Gx (x:PX)(D:Nat):Prop where
 gd:∃l,spell l=x.tx/\Gd x x.rk D l
 key:∀n,x.key=some n->x=Ee n/\Cg n
theorem Gx.up {x:PX}{D D':Nat}(h:Gx x D)(hd:D<=D'):Gx x D':=by
 obtain⟨⟨l,e,g⟩,k⟩:=h;exact⟨⟨l,e,g.up hd⟩,k⟩
theorem Gx.plain {x:PX}{D q:Nat}{l:SL}(hk:x.key=none)(hq:x.rk=q)(e:spell l=x.tx)(g:Gd x q D l):Gx x D :=
 ⟨⟨l,e,hq ▸ g⟩,fun n hn=>by rw[hk] at hn;exact absurd hn (by simp)⟩
def PG (d n:Nat)(x:PX):Prop:=(x.rk<n->d<24/\Gx x (23-d))/\(¬x.rk<n->Gx x (24-d))
theorem PG.of {d n:Nat}{x:PX}(hn:n<=x.rk)(h:Gx x (24-d)):PG d n x:=⟨fun q=>by omega,fun _=>h⟩
theorem PG.deep {d n:Nat}{x:PX}(hd:d<24)(h:Gx x (23-d)):PG d n x:=⟨fun _=>⟨hd,h⟩,fun _=>h.up (by omega)⟩
theorem PG.gx {d n:Nat}{x:PX}(h:PG d n x):Gx x (24-d):=by
 by_cases q:x.rk<n
 ·exact(h.1 q).2.up (by omega)
 ·exact h.2 q
theorem PG.less {d m n:Nat}{x:PX}(h:PG d m x)(hn:n<=m):PG d n x:=by
 refine⟨fun q=>h.1 (by omega),fun _=>h.gx⟩
theorem PG.part {d n:Nat}{x:PX}(h:PG d n x)(hn:n<=14):∃q l,spell l=A9 x n/\n<=q/\Gd x q (24-d) l:=by
 by_cases q:x.rk<n
 ·obtain⟨j,⟨l,e,g⟩,-⟩:=h.1 q;obtain⟨i,f,a,b,c⟩:=g.part e.symm n hn;exact⟨i,f,a,b,c.up (by rw[if_pos q];omega)⟩
 ·obtain⟨⟨l,e,g⟩,-⟩:=h.2 q;obtain⟨i,f,a,b,c⟩:=g.part e.symm n hn;exact⟨i,f,a,b,c.up (by rw[if_neg q];omega)⟩
theorem PG.low {d:Nat}{x:PX}(h:PG d 0 x):∃q l,spell l=x.tx/\Gd x q (24-d) l:=by
 obtain⟨⟨l,e,g⟩,-⟩:=h.gx;exact⟨_,l,e,g⟩
theorem Cg.nameB {n:List UInt8}(h:Cg n):Fq n=true:=by
 obtain⟨⟨⟨c,r,rfl,a⟩,e⟩,b,d⟩:=h;unfold Fq;rw[e,b,decide_eq_true d];simp[a]
theorem Yn {n:List UInt8}(h:Fq n=true):Cg n:=by
 unfold Fq at h;simp only[Bool.and_eq_true,decide_eq_true_eq,Bool.not_eq_true'] at h;obtain⟨⟨⟨a,b⟩,d⟩,e⟩:=h;cases n with
 | nil=>simp at a
 | cons c r=>exact⟨⟨⟨c,r,rfl,a⟩,d⟩,e,b⟩
theorem Ch {K:Nat->Tk}(hK:∀i,Lx (K i)){i:Nat}{n:List UInt8}{j:Nat}(h:Bo K i=some (.ok (n,j))):Cg n:=by
 unfold Bo at h;split at h
 ·simp[Ck] at h
 rename_i q1
 split at h
 ·simp[Ck] at h
 rename_i q2
 obtain⟨rfl,-⟩:=Ak h;have a:(K i).cl=1:=by
  by_cases q:(K i).cl=1
  ·exact q
  ·exact absurd (.inl q) q1
 refine⟨(hK i).word a,?_,by omega⟩;cases q:Bm (K i).tx with
 | false=>rfl
 | true=>exact absurd (.inr q) q1
theorem jE {n:List UInt8}(h:Rv n)(D:Nat):Gx (Ee n) D:=by
 refine⟨⟨_,by simp[spell,Ee],(fY h).up (Nat.zero_le _)⟩,fun m hm=>?_⟩;unfold Ee at hm;simp only at hm;split at hm
 ·rename_i q
  simp only[Option.some.injEq] at hm;subst hm;exact⟨rfl,Yn q⟩
 ·simp at hm
theorem jF {d:Nat}{op:List UInt8}{a b:PX}(h0:Ae op≠0)(ha:PG d (Bh (Ae op)) a)(hb:PG d (Bg (Ae op)) b):Gx (I0 op a b) (24-d):=by
 have m:Ae op<=11:=(Ml op h0).2.2.2;have n:Bh (Ae op)<=12:=by unfold Bh;split<;>omega
 have o:Bg (Ae op)<=12:=by unfold Bg;split<;>omega
 obtain⟨p,i,f,j,h⟩:=ha.part (by omega);obtain⟨q,e,g,k,c⟩:=hb.part (by omega);refine Gx.plain (l:=i++([32],(opK op,op))::spc e) rfl rfl ?_ ((Gd.bin h0 h c j k).up (by omega));show _=A9 a _++[32]++op++[32]++A9 b _;rw[Ap,f,<- g];show _++([32]++op++spell (spc e))=_;rw[c.spc_spell];simp
theorem jG {d:Nat}{f k v:PX}(hd:d<24)(hf:PG d 13 f)(hk:PG (d+1) 0 k)(hv:PG (d+1) 0 v):Gx (Ht f k v) (24-d):=by
 obtain⟨n,j,b,i,g⟩:=hf.part (by omega);obtain⟨o,l,c,h⟩:=hk.low;obtain⟨p,m,e,a⟩:=hv.low;refine Gx.plain rfl rfl ?_ ((iX g i h a).up (by omega));show _=A9 f 13++91::(k.tx++[32,58,61,32]++v.tx++[93]);rw[<- b,<- c,<- e];simp[spell,Ap,a.spc_spell]
theorem kQ {d:Nat}{f k:PX}(hd:d<24)(hf:PG d 13 f)(hk:PG (d+1) 0 k):Gx (dAt f k) (24-d):=by
 obtain⟨p,m,a,h,b⟩:=hf.part (by omega);cases g:k.key with
 | some n =>
  obtain⟨e,c⟩:=hk.gx.key n g;rw[e];have l:(Ee n).key=some n:=by unfold Ee;rw[c.nameB];rfl
  refine Gx.plain rfl rfl ?_ (eO b h c);show _=A9 f 13++(match (Ee n).key with|some n=>46::n|none=>_);rw[l,<- a];simp[spell,Ap]
 | none =>
  obtain⟨q,o,i,j⟩:=hk.low;refine Gx.plain rfl rfl ?_ ((kM b h j).up (by omega));show _=A9 f 13++(match k.key with|some n=>46::n|none=>91::(k.tx++[93]));rw[g,<- a,<- i];simp[spell,Ap]
theorem jH {d:Nat}{f:PX}{n:List UInt8}(hf:PG d 13 f)(hn:Cg n):Gx (dAt f (Ee n)) (24-d):=by
 obtain⟨h,g,a,e,b⟩:=hf.part (by omega);have c:(Ee n).key=some n:=by unfold Ee;rw[hn.nameB];rfl
 refine Gx.plain rfl rfl ?_ (eO b e hn);show _=A9 f 13++(match (Ee n).key with|some n=>46::n|none=>_);rw[c,<- a];simp[spell,Ap]
theorem kR {d:Nat}{a b c:PX}(hd:d<24)(ha:PG (d+1) 0 a)(hb:PG (d+1) 0 b)(hc:PG (d+1) 0 c):Gx (dIf a b c) (24-d):=by
 obtain⟨n,k,h,e⟩:=ha.low;obtain⟨o,l,i,f⟩:=hb.low;obtain⟨p,m,j,g⟩:=hc.low;refine Gx.plain rfl rfl ?_ ((kN e f g).up (by omega));show _=[105,102,32]++a.tx++[32,116,104,101,110,32]++b.tx++[32,101,108,115,101,32]++c.tx;rw[<- h,<- i,<- j];simp[spell,Ap,e.spc_spell,f.spc_spell,g.spc_spell,wIf,Nk,Nl]
theorem jI {d:Nat}{a b:PX}{n:List UInt8}(hd:d<24)(hn:Cg n)(ha:PG (d+1) 0 a)(hb:PG (d+1) 0 b):Gx (L7 n a b) (24-d):=by
 obtain⟨j,h,f,c⟩:=ha.low;obtain⟨k,i,g,e⟩:=hb.low;refine Gx.plain rfl rfl ?_ ((iY hn c e).up (by omega));show _=[108,101,116,32]++n++[32,61,32]++a.tx++[32,58,32]++b.tx;rw[<- f,<- g];simp[spell,Ap,c.spc_spell,e.spc_spell,Qj]
theorem gF {d:Nat}{a b:PX}{n op:List UInt8}(hd:d<24)(ho:op∈P7\/op∈Cp)(hn:Cg n)(ha:PG (d+1) 8 a)(hb:PG (d+1) 0 b):Gx (Ds op n a b) (24-d):=by
 obtain⟨o,i,l,k,c⟩:=ha.part (by omega);obtain⟨p,j,m,f⟩:=hb.low;have h:spell (Gf n i j)=[32]++n++[32,105,110,32]++A9 a 8++[32,58,32]++b.tx:=by
  rw[<- l,<- m];simp[Gf,spell,Ap,c.spc_spell,f.spc_spell,wIn]
 rcases ho with ho|ho
 ·have g:Cp.contains op=false:=by
   simp only[P7,List.mem_cons,List.not_mem_nil,or_false] at ho;rcases ho with rfl|rfl|rfl|rfl<;>decide
  have e:Ds op n a b=⟨0,En op n a b,none⟩:=by unfold Ds;rw[g];rfl
  refine Gx.plain (q:=0) (by rw[e]) (by rw[e]) ?_ ((fZ ho hn c k f).up (by omega));rw[e];show op++spell (Gf n i j)=En op n a b;rw[h];simp[En]
 ·have g:Cp.contains op=true:=by simpa using ho
  have e:Ds op n a b=⟨14,123::(En op n a b++[125]),none⟩:=by unfold Ds;rw[g];rfl
  refine Gx.plain (q:=14) (by rw[e]) (by rw[e]) ?_ ((gB ho hn c k f).up (by omega));rw[e];simp only[spell,Ap,h,List.nil_append,List.append_nil];simp[En]
theorem eR {d r:Nat}{op:List UInt8}{x:PX}(hd:d<24)(h:op∈N7/\r=6\/op∈Lv/\r=12)(hx:PG (d+1) r x):Gx (Em r op x) (24-d):=by
 have c:r<=12:=by omega
 obtain⟨q,l,e,b,g⟩:=hx.part (by omega);refine Gx.plain rfl rfl ?_ ((eN h g b).up (by omega));show op++spell (if op=Ks then l else spc l)=if op=Ks then 45::A9 x r else op++32::A9 x r;by_cases a:op=Ks
 ·rw[if_pos a,if_pos a,e,a];rfl
 ·rw[if_neg a,if_neg a,g.spc_spell,e]
theorem bY {r:Nat}{op n:List UInt8}(h:op=C8/\r=6\/op=Cd/\r=12)(hn:Cg n)(D:Nat):Gx (Gm r op n) D:=by
 refine Gx.plain rfl rfl ?_ ((bP h hn).up (Nat.zero_le _));show _=op++32::n;simp[spell]
theorem Tz {D:Nat}:∀l:List PX,(∀x∈l,Gx x D)->∃ps:List (PX×SL),ps.map Prod.fst=l/\Mp D ps
 | [],_=>⟨[],rfl,fun p hp=>by simp at hp⟩
 | x::l,h=>by
  obtain⟨ps,e,hp⟩:=Tz l fun y hy=>h y (by simp[hy]);obtain⟨⟨s,es,g⟩,-⟩:=h x (by simp);refine⟨(x,s)::ps,by rw[List.map_cons,e],fun p hq=>?_⟩;rcases List.mem_cons.1 hq with rfl|hq
  ·exact⟨⟨_,g⟩,es.symm⟩
  ·exact hp p hq
theorem gG {D:Nat}{n:List UInt8}{l:List PX}(hn:Cg n\/n∈Cz)(h:∀x∈l,Gx x D)(hne:l≠[]):Gx (Ed n l) (D+1):=by
 obtain⟨b,rfl,a⟩:=Tz l h;refine Gx.plain rfl rfl ?_ (gA hn a fun e=>hne (by rw[e];rfl));show _=n++40::(C0 _++[41]);rw[<- Im a];simp[Rw,spell,Ap]
theorem jJ {D:Nat}{l:List PX}(h:∀x∈l,Gx x D):Gx (Kt l) (D+1):=by
 obtain⟨b,rfl,a⟩:=Tz l h;refine Gx.plain rfl rfl ?_ (iZ a);show _=123::(C0 _++[125]);rw[<- Im a];simp[spell,Ap]
theorem jK {D:Nat}{l:List PX}(h:∀x∈l,Gx x D):Gx (Jq l) (D+1):=by
 obtain⟨b,rfl,a⟩:=Tz l h;refine Gx.plain rfl rfl ?_ (jA a);show _=60::60::(C0 _++[62,62]);rw[<- Im a];simp[spell,Ap]
theorem eS {D:Nat}:∀l:List (PX×PX),(∀p∈l,Gx p.1 D/\Gx p.2 D)->∃ps:List ((PX×SL)×(PX×SL)),ps.map Lw=l/\gC D ps
 | [],_=>⟨[],rfl,fun p hp=>by simp at hp⟩
 | x::l,h=>by
  obtain⟨ps,e,hp⟩:=eS l fun y hy=>h y (by simp[hy]);obtain⟨⟨⟨s,es,g⟩,-⟩,⟨⟨s2,es2,g2⟩,-⟩⟩:=h x (by simp);refine⟨((x.1,s),(x.2,s2))::ps,by rw[List.map_cons,e];rfl,fun p hq=>?_⟩;rcases List.mem_cons.1 hq with rfl|hq
  ·exact⟨⟨⟨_,g⟩,es.symm⟩,⟨_,g2⟩,es2.symm⟩
  ·exact hp p hq
theorem jM {D:Nat}{l:List (PX×PX)}(h:∀p∈l,Gx p.1 D/\Gx p.2 D)(hne:l≠[]):Gx (Kl (l.flatMap fun p=>[p.1,p.2])) (D+1):=by
 obtain⟨b,rfl,a⟩:=eS l h;refine Gx.plain rfl rfl ?_ (jB a fun e=>hne (by rw[e];rfl));show _=91::(Bq C5 0 ((J8 b).map PX.tx)++[93]);rw[<- Vs a];simp[spell,Ap]
theorem Gj {K:Nat->Tk}{γ:Type}{d i:Nat}{k:Nat->RX γ}{y:γ}{l:Nat}(h:Bw K d i k=some (.ok (y,l))):d≠24/\k (i+1)=some (.ok (y,l)):=by
 unfold Bw at h;split at h
 ·simp[Ck] at h
 ·rename_i q;exact⟨q,h⟩
theorem Hp {K:Nat->Tk}{β:Type}(g:β->Prop){cl:List UInt8}{item:Nat->RX β}(hi:∀i x j,item i=some (.ok (x,j))->g x) :
  ∀m acc i l j,(∀x∈acc,g x)->Bj K cl item m acc i=some (.ok (l,j))->(∀x∈l,g x)/\l≠[]
 | 0,_,_,_,_,_,h=>by simp[Bj] at h
 | m+1,acc,i,l,j,ha,h=>by
  rw[Bj] at h;obtain⟨x,k,h1,h2⟩:=Ai h;have ha':∀y∈acc++[x],g y:=fun y hy=>by
   rcases List.mem_append.1 hy with hy|hy
   ·exact ha y hy
   ·rw[List.mem_singleton.1 hy];exact hi i x k h1
  split at h2
  ·obtain⟨rfl,rfl⟩:=Ak h2;exact⟨ha',by simp⟩
  ·exact Hp g hi m _ _ l j ha' (Au h2)
theorem Vt {K:Nat->Tk}{β:Type}(g:β->Prop){cl:List UInt8}{item:Nat->RX β}(hi:∀i x j,item i=some (.ok (x,j))->g x){m i:Nat}{l:List β}{j:Nat}(h:Km K cl item m i=some (.ok (l,j))):∀x∈l,g x:=by
 unfold Km at h;split at h
 ·obtain⟨rfl,rfl⟩:=Ak h;intro x hx;simp at hx
 ·exact(Hp g hi _ _ _ _ _ (fun x hx=>by simp at hx) h).1
theorem Vu (p:List UInt8):(Bd p=0/\p∈Dm)\/(Bd p=6/\p∈De)\/(Bd p=12/\p∈Cf)\/Bd p=14:=by
 unfold Bd;split
 ·rename_i h;exact .inl ⟨rfl,by simpa using h⟩
 split
 ·rename_i h;exact .inr (.inl ⟨rfl,by simpa using h⟩)
 split
 ·rename_i h;exact .inr (.inr (.inl ⟨rfl,by simpa using h⟩))
 ·exact .inr (.inr (.inr rfl))
def I8 (self:Nat->Nat->Nat->RX PX):Prop:=∀n d i x j,d<=24->self n d i=some (.ok (x,j))->PG d (min n 12) x
section
variable {K:Nat->Tk} {self:Nat->Nat->Nat->RX PX}
theorem Vv (hK:∀i,Lx (K i))(hs:I8 self){op:List UInt8}(ho:op∈P7\/op∈Cp){d i:Nat}{x:PX}{j:Nat}(hd:d<24)(h:Fd K self op (d+1) i=some (.ok (x,j))):Gx x (24-d)/\(op∈Cp->x.rk=14):=by
 unfold Fd at h;obtain⟨n,g,c,h⟩:=Ai h;obtain⟨a,k,e,h⟩:=Ai (Au h);obtain⟨b,l,f,h⟩:=Ai (Au h);obtain⟨rfl,rfl⟩:=Ak h;refine⟨gF hd ho (Ch hK c) (hs _ _ _ _ _ (by omega) e) (hs _ _ _ _ _ (by omega) f),fun q=>?_⟩;unfold Ds;rw[if_pos (by simpa using q)]
theorem Yo (hK:∀i,Lx (K i))(hs:I8 self){d i:Nat}{x:PX}{j:Nat}(hd:d<=24)(ho:(K i).tx∈Dm)(h:Cn K self d i=some (.ok (x,j))):Gx x (24-d):=by
 unfold Cn at h;obtain⟨o,h⟩:=Gj h;have e:d<24:=by omega
 split at h
 ·unfold Fs at h;obtain⟨a,q,f,h⟩:=Ai h;obtain⟨b,r,g,h⟩:=Ai (Au h);obtain⟨c,s,k,h⟩:=Ai (Au h);obtain⟨rfl,rfl⟩:=Ak h;exact kR e (hs _ _ _ _ _ (by omega) f) (hs _ _ _ _ _ (by omega) g) (hs _ _ _ _ _ (by omega) k)
 rename_i n1
 split at h
 ·unfold Ft at h;obtain⟨n,q,f,h⟩:=Ai h;obtain⟨a,r,g,h⟩:=Ai (Au h);obtain⟨b,s,k,h⟩:=Ai (Au h);obtain⟨rfl,rfl⟩:=Ak h;exact jI e (Ch hK f) (hs _ _ _ _ _ (by omega) g) (hs _ _ _ _ _ (by omega) k)
 rename_i n2
 have m:(K i).tx∈P7:=by
  have l:∀p∈Dm,¬(p==wIf)=true->¬(p==Qj)=true->p∈P7:=by decide
  exact l _ ho n1 n2
 exact(Vv hK hs (.inl m) e h).1
theorem Rx (hK:∀i,Lx (K i))(hs:I8 self){r d i:Nat}{x:PX}{j:Nat}(hd:d<=24)(ho:(K i).tx∈De/\r=6\/(K i).tx∈Cf/\r=12)(h:Dn K self r d i=some (.ok (x,j))):Gx x (24-d)/\x.rk=r:=by
 unfold Dn at h;split at h
 ·rename_i q
  obtain⟨n,g,b,h⟩:=Ai h;obtain⟨rfl,rfl⟩:=Ak h;refine⟨bY ?_ (Ch hK b) _,rfl⟩;rcases ho with⟨ho,rfl⟩|⟨ho,rfl⟩
  ·have a:∀p∈De,(p==C8||p==Cd)=true->p=C8:=by decide
   exact .inl ⟨a _ ho q,rfl⟩
  ·have a:∀p∈Cf,(p==C8||p==Cd)=true->p=Cd:=by decide
   exact .inr ⟨a _ ho q,rfl⟩
 ·rename_i q
  obtain⟨e,h⟩:=Gj h;obtain⟨y,g,b,h⟩:=Ai h;obtain⟨rfl,rfl⟩:=Ak h;have c:=hs _ _ _ _ _ (by omega) b;have f:min r 12=r:=by omega
  rw[f] at c;refine⟨eR (by omega) ?_ c,rfl⟩;rcases ho with⟨ho,rfl⟩|⟨ho,rfl⟩
  ·have a:∀p∈De,¬(p==C8||p==Cd)=true->p∈N7:=by decide
   exact .inl ⟨a _ ho q,rfl⟩
  ·have a:∀p∈Cf,¬(p==C8||p==Cd)=true->p∈Lv:=by decide
   exact .inr ⟨a _ ho q,rfl⟩
theorem Vw (hs:I8 self){m:Nat}{n:List UInt8}(hn:Cg n\/n∈Cz){d i:Nat}{x:PX}{j:Nat}(hd:d<=24)(h:G0 K self m n d i=some (.ok (x,j))):Gx x (24-d)/\x.rk=14:=by
 unfold G0 at h;obtain⟨b,h⟩:=Gj h;obtain⟨l,c,a,h⟩:=Ai h;obtain⟨rfl,rfl⟩:=Ak h;have q:=Hp (fun x=>Gx x (23-d)) (fun i x j e=>by have:=(hs _ _ _ _ _ (by omega) e).gx;rwa [show 24-(d+1)=23-d from by omega] at this) _ _ _ _ _ (fun x hx=>by simp at hx) a;exact⟨(gG hn q.1 q.2).up (by omega),rfl⟩
theorem bZ (hK:∀i,Lx (K i))(hs:I8 self){m d i:Nat}{x:PX}{j:Nat}(hd:d<=24)(h:Fe K self m d i=some (.ok (x,j))):Gx x (24-d)/\x.rk=14:=by
 unfold Fe at h;obtain⟨n,c,b,h⟩:=Ai h;have a:=Ch hK b;split at h
 ·obtain⟨rfl,rfl⟩:=Ak h;exact⟨Gx.plain rfl rfl (by simp[spell,Ct]) ((eL a).up (Nat.zero_le _)),rfl⟩
 split at h
 ·exact Vw hs (.inl a) hd h
 ·obtain⟨rfl,rfl⟩:=Ak h;exact⟨Gx.plain rfl rfl (by simp[spell,Ct]) (a.gd.up (Nat.zero_le _)),rfl⟩
theorem eT (hK:∀i,Lx (K i))(hs:I8 self){m d i:Nat}{x:PX}{j:Nat}(hd:d<=24)(h:Gp K self m d i=some (.ok (x,j))):Gx x (24-d)/\x.rk=14:=by
 unfold Gp at h;split at h
 ·rename_i q
  obtain⟨rfl,rfl⟩:=Ak h;exact⟨Gx.plain rfl rfl (by simp[spell,Ct]) ((eM (by simpa using q)).up (Nat.zero_le _)),rfl⟩
 split at h
 ·rename_i q
  split at h
  ·exact Vw hs (.inr (by simpa using q)) hd h
  ·simp[Ck] at h
 ·exact bZ hK hs hd h
theorem gH (hK:∀i,Lx (K i))(hs:I8 self){m d i:Nat}{x:PX}{j:Nat}(hd:d<24)(h:Jr K self m (d+1) i=some (.ok (x,j))):Gx x (24-d)/\x.rk=14:=by
 unfold Jr at h;split at h
 ·rename_i q
  obtain⟨y,c,a,h⟩:=Ai h;obtain⟨rfl,rfl⟩:=Ak (Au h);have b:(K i).tx∈Cp:=by simpa using q
  have:=Vv hK hs (.inr b) hd a;exact⟨this.1,this.2 b⟩
 ·obtain⟨l,c,a,h⟩:=Ai h;obtain⟨rfl,rfl⟩:=Ak h;have q:=Vt (fun x=>Gx x (23-d)) (fun i x j e=>by have:=(hs _ _ _ _ _ (by omega) e).gx;rwa [show 24-(d+1)=23-d from by omega] at this) a;exact⟨(jJ q).up (by omega),rfl⟩
theorem Vx (hK:∀i,Lx (K i))(hs:I8 self){m d i:Nat}{x:PX}{j:Nat}(hd:d<=24)(h:Bp K self m d i=some (.ok (x,j))):PG d 13 x:=by
 unfold Bp at h;split at h
 ·obtain⟨c,h⟩:=Gj h;obtain⟨y,n,f,h⟩:=Ai h;obtain⟨rfl,rfl⟩:=Ak (Au h);have:=(hs _ _ _ _ _ (by omega) f).gx;rw[show 24-(d+1)=23-d from by omega] at this;exact PG.deep (by omega) this
 split at h
 ·obtain⟨c,h⟩:=Gj h;have:=gH hK hs (by omega) h;exact PG.of (by omega) this.1
 split at h
 ·obtain⟨c,h⟩:=Gj h;obtain⟨l,n,f,h⟩:=Ai h;obtain⟨rfl,rfl⟩:=Ak h;have q:=Vt (fun x=>Gx x (23-d)) (fun i x j e=>by have:=(hs _ _ _ _ _ (by omega) e).gx;rwa [show 24-(d+1)=23-d from by omega] at this) f;exact PG.of (show 13<=14 by omega) ((jK q).up (by omega))
 split at h
 ·obtain⟨c,h⟩:=Gj h;obtain⟨l,n,f,h⟩:=Ai h;obtain⟨rfl,rfl⟩:=Ak h;have q:=Hp (fun p:PX×PX=>Gx p.1 (23-d)/\Gx p.2 (23-d)) (fun i p j e=>by
   unfold Gn at e;obtain⟨a,s,o,e⟩:=Ai e;obtain⟨b,t,r,e⟩:=Ai (Au e);obtain⟨rfl,rfl⟩:=Ak e;have g:=(hs _ _ _ _ _ (by omega) o).gx;have k:=(hs _ _ _ _ _ (by omega) r).gx;rw[show 24-(d+1)=23-d from by omega] at g k;exact⟨g,k⟩) _ _ _ _ _ (fun x hx=>by simp at hx) f
  exact PG.of (show 13<=14 by omega) ((jM q.1 q.2).up (by omega))
 ·simp[Ck] at h
theorem cA (hK:∀i,Lx (K i))(hs:I8 self){m d i:Nat}{x:PX}{j:Nat}(hd:d<=24)(h:C7 K self m d i=some (.ok (x,j))):PG d 13 x:=by
 unfold C7 at h;split at h
 ·rename_i q
  split at h
  ·rename_i v hv
   obtain⟨rfl,rfl⟩:=Ak h;obtain⟨a,b⟩:=eQ ((hK i).num q) hv;exact PG.of (show 13<=14 by omega) (Gx.plain rfl rfl (by simp[spell,Ct]) ((iW a b).up (Nat.zero_le _)))
  ·simp[Ck] at h
 split at h
 ·rename_i q
  obtain⟨rfl,rfl⟩:=Ak h;obtain⟨n,e,f⟩:=(hK i).text q;have c:((34::(n++[34])).take ((34::(n++[34])).length-1)).drop 1=n:=by simp
  rw[e,c];exact PG.of (show 13<=14 by omega) (jE f _)
 split at h
 ·have:=eT hK hs hd h;exact PG.of (by omega) this.1
 ·exact Vx hK hs hd h
theorem Jk (hK:∀i,Lx (K i))(hs:I8 self){M d:Nat}(hd:d<=24):∀m x i y j,PG d 13 x->Bs K self M d m x i=some (.ok (y,j))->PG d 13 y
 | 0,_,_,_,_,_,h=>by simp[Bs] at h
 | m+1,x,i,y,j,hx,h=>by
  rw[Bs] at h;split at h
  ·obtain⟨hd',h⟩:=Gj h;obtain⟨k,j1,h1,h⟩:=Ai h;have q1:=hs _ _ _ _ _ (by omega) h1;split at h
   ·obtain⟨v,j2,h2,h⟩:=Ai h;have q2:=hs _ _ _ _ _ (by omega) h2;exact Jk hK hs hd m _ _ _ _ (PG.of (show 13<=13 by omega) (jG (by omega) hx q1 q2)) (Au h)
   ·exact Jk hK hs hd m _ _ _ _ (PG.of (show 13<=13 by omega) (kQ (by omega) hx q1)) (Au h)
  split at h
  ·obtain⟨n,j1,h1,h⟩:=Ai h;exact Jk hK hs hd m _ _ _ _ (PG.of (show 13<=13 by omega) (jH hx (Ch hK h1))) h
  ·obtain⟨rfl,rfl⟩:=Ak h;exact hx
theorem Ry (hs:I8 self){rank d:Nat}(hd:d<=24):∀m held x i y j,rank<=held->PG d (min held 13) x->Bb K self rank d m held x i=some (.ok (y,j))->rank<=y.2/\PG d (min y.2 13) y.1
 | 0,_,_,_,_,_,_,_,h=>by simp[Bb] at h
 | m+1,held,x,i,y,j,hr,hx,h=>by
  rw[Bb] at h;split at h
  ·obtain⟨rfl,rfl⟩:=Ak h;exact⟨hr,hx⟩
  ·rename_i q
   have q0:Ae (K i).tx≠0:=fun e=>q (.inl e);have q1:rank<=Ae (K i).tx:=by
    by_cases c:Ae (K i).tx<rank
    ·exact absurd (.inr (.inl c)) q
    ·omega
   have p:Bh (Ae (K i).tx)<=held:=by
    by_cases c:held<Bh (Ae (K i).tx)
    ·exact absurd (.inr (.inr c)) q
    ·omega
   have g:Ae (K i).tx<=11:=(Ml _ q0).2.2.2;have l:Bh (Ae (K i).tx)<=12:=by unfold Bh;split<;>omega
   have o:Bg (Ae (K i).tx)<=12:=by unfold Bg;split<;>omega
   obtain⟨z,k,b,h⟩:=Ai h;have a:=hs _ _ _ _ _ hd b;rw[show min (Bg (Ae (K i).tx)) 12=Bg (Ae (K i).tx) from by omega] at a;have f:=jF q0 (hx.less (n:=Bh (Ae (K i).tx)) (by omega)) a;exact Ry hs hd m _ _ _ _ _ q1 (PG.of (by show min _ 13<=Ae (K i).tx;omega) f) h
theorem eU (hK:∀i,Lx (K i))(hs:I8 self){m rank d i:Nat}{y:PX×Nat}{j:Nat}(hd:d<=24)(hr:rank<=12)(h:Fa K self m rank d i=some (.ok (y,j))):PG d rank y.1:=by
 unfold Fa at h;split at h
 ·simp[Ck] at h
 rename_i q
 obtain⟨z,l,a,c⟩:=Ai h;have k:PG d (min (Bd (K i).tx) 13) z:=by
  unfold Ep at a;rcases Vu (K i).tx with⟨e,b⟩|⟨e,b⟩|⟨e,b⟩|e
  ·rw[e,if_pos rfl] at a;rw[e];exact PG.of (Nat.zero_le _) (Yo hK hs hd b a)
  ·rw[e,if_neg (by decide),if_pos (.inl rfl)] at a;rw[e];have:=Rx hK hs hd (.inl ⟨b,rfl⟩) a;exact PG.of (by omega) this.1
  ·rw[e,if_neg (by decide),if_pos (.inr rfl)] at a;rw[e];have:=Rx hK hs hd (.inr ⟨b,rfl⟩) a;exact PG.of (by omega) this.1
  ·rw[e,if_neg (by decide),if_neg (by decide)] at a;rw[e];unfold Eo at a;obtain⟨u,n,f,g⟩:=Ai a;exact Jk hK hs hd _ _ _ _ _ (cA hK hs hd f) g
 have:=Ry hs hd _ _ _ _ _ _ (by omega) k c;exact this.2.less (by omega)
end
theorem Vy {K:Nat->Tk}(hK:∀i,Lx (K i)):∀f,I8 (A3 K f)
 | 0=>fun n d i x j hd h=>by simp[A3] at h
 | f+1=>fun n d i x j hd h=>by
  rw[A3] at h;obtain⟨y,j1,h1,h⟩:=Ai h;obtain⟨rfl,rfl⟩:=Ak h;exact eU hK (Vy hK f) hd (by omega) h1
theorem T0 {T:List UInt8}{f d i:Nat}{x:PX}{j:Nat}(hd:d<=24)(h:A3 (tkF T) f 0 d i=some (.ok (x,j))):Gx x (24-d):=(Vy (Mq T) f 0 d i x j hd h).gx
theorem At.of_chain {l:SL}{r:List UInt8}(h:Bz l r):At (tkF (spell l++r)) 0 (A6 l):=by
 intro k t a;unfold A6 at a;rw[List.getElem?_map] at a;cases b:l[k]? with
 | none=>rw[b] at a;simp at a
 | some p =>
  rw[b] at a;simp only[Option.map_some,Option.some.injEq] at a;rw[Nat.zero_add,<- a];exact iU h b
theorem Np {K:Nat->Tk}{F G:Nat}(h:F<=G):leX (Ea K F) (Ea K G):=Ay (Gw K F G h 0 0 0) fun _ _=>leX.refl _
theorem K9 {K:Nat->Tk}{F G:Nat}{a b}(h:Ea K F=some a)(k:Ea K G=some b):a=b:=by
 have d:=(Np (K:=K) (Nat.le_max_left F G)).some h;have c:=(Np (K:=K) (Nat.le_max_right F G)).some k;rw[d] at c;exact Option.some.inj c
theorem eV {T:List UInt8}{f:Nat}{x:PX}{j:Nat}(h:Ea (tkF T) f=some (.ok (x,j))):Gx x 24:=by
 unfold Ea at h;obtain⟨y,k,b,a⟩:=Ai h;split at a
 ·obtain⟨rfl,-⟩:=Ak a;exact T0 (d:=0) (by omega) b
 ·simp[Ck] at a
theorem Vz {T:List UInt8}{f:Nat}{x:PX}{j:Nat}(h:Ea (tkF T) f=some (.ok (x,j))):∃F k,Ea (tkF x.tx) F=some (.ok (x,k)):=by
 obtain⟨⟨l,e,g⟩,-⟩:=eV h;have i:=g.chain [] (.inl rfl);have c:=At.of_chain i;have b:=Zm i rfl;rw[List.append_nil,e] at c b;have o:(tkF x.tx l.length).tx=[]:=(Mc x.tx l.length).none b;have a:(tkF x.tx (0+l.length)).tx=[]:=by rw[Nat.zero_add];exact o
 obtain⟨F,m⟩:=g.prog0 (n:=0) (d:=0) c (by omega) (by omega) (by omega) (by rw[a];unfold Gb;decide) (by rw[a];decide);refine⟨F,l.length,?_⟩;unfold Ea;rw[m];show(if (tkF x.tx (0+l.length)).cl=0 then _ else _)=_;rw[Nat.zero_add,if_pos b];rfl
def smX {β:Type}(a b:RX β):Prop:=∀r,a=some (.ok r)->b=some (.ok r)
theorem smX.refl {β:Type}(a:RX β):smX a a:=fun _ h=>h
theorem smX.err {β:Type}{c p:Nat}{b:RX β}:smX (Ck c p) b:=fun r h=>by simp[Ck] at h
theorem Dy {β γ:Type}{r r':RX β}{k k':β->Nat->RX γ}(h:smX r r')(hk:∀x i,smX (k x i) (k' x i)):smX (bX r k) (bX r' k'):=by
 intro y a;rcases r with _|(e|⟨x,i⟩)
 ·simp[bX] at a
 ·simp[bX] at a
 ·rw[h _ rfl];exact hk x i y a
theorem Cq {β:Type}{c:Prop}[Decidable c]{a a' b b':RX β}(h:smX a a')(k:smX b b'):smX (if c then a else b) (if c then a' else b'):=by
 split
 ·exact h
 ·exact k
abbrev mkT (c:Nat->Nat)(t:Nat->List UInt8)(a:Nat->Nat):Nat->Tk:=fun i=>⟨c i,t i,a i⟩
section
variable {c:Nat->Nat} {t:Nat->List UInt8} {a a':Nat->Nat}
theorem Ew {γ:Type}{m:List UInt8}{i:Nat}{k k':Nat->RX γ}(h:∀j,smX (k j) (k' j)):smX (Bv (mkT c t a) m i k) (Bv (mkT c t a') m i k'):=Cq (h _) smX.err
theorem Gk {γ:Type}{d i:Nat}{k k':Nat->RX γ}(h:∀j,smX (k j) (k' j)):smX (Bw (mkT c t a) d i k) (Bw (mkT c t a') d i k'):=Cq smX.err (h _)
theorem Ka (i:Nat):smX (Bo (mkT c t a) i) (Bo (mkT c t a') i):=Cq smX.err (Cq smX.err (smX.refl _))
theorem Ly {β:Type}{cl:List UInt8}{item item':Nat->RX β}(h:∀i,smX (item i) (item' i)):∀m acc i,smX (Bj (mkT c t a) cl item m acc i) (Bj (mkT c t a') cl item' m acc i)
 | 0,_,_=>smX.refl _
 | m+1,_,i=>Dy (h i) fun _ _=>Cq (smX.refl _) (Ew fun _=>Ly h m _ _)
theorem Zo {β:Type}{cl:List UInt8}{item item':Nat->RX β}(h:∀i,smX (item i) (item' i))(m i:Nat):smX (Km (mkT c t a) cl item m i) (Km (mkT c t a') cl item' m i) :=
 Cq (smX.refl _) (Ly h m _ _)
variable {self self':Nat->Nat->Nat->RX PX}
theorem eW (hs:∀n d i,smX (self n d i) (self' n d i))(d i:Nat):smX (Gn (mkT c t a) self d i) (Gn (mkT c t a') self' d i) :=
 Dy (hs _ _ _) fun _ _=>Ew fun _=>Dy (hs _ _ _) fun _ _=>smX.refl _
theorem Rz (hs:∀n d i,smX (self n d i) (self' n d i))(op:List UInt8)(d i:Nat):smX (Fd (mkT c t a) self op d i) (Fd (mkT c t a') self' op d i) :=
 Dy (Ka _) fun _ _=>Ew fun _=>Dy (hs _ _ _) fun _ _=>Ew fun _=>Dy (hs _ _ _) fun _ _=>smX.refl _
theorem Yp (hs:∀n d i,smX (self n d i) (self' n d i))(d i:Nat):smX (Fs (mkT c t a) self d i) (Fs (mkT c t a') self' d i) :=
 Dy (hs _ _ _) fun _ _=>Ew fun _=>Dy (hs _ _ _) fun _ _=>Ew fun _=>Dy (hs _ _ _) fun _ _=>smX.refl _
theorem Yq (hs:∀n d i,smX (self n d i) (self' n d i))(d i:Nat):smX (Ft (mkT c t a) self d i) (Ft (mkT c t a') self' d i) :=
 Dy (Ka _) fun _ _=>Ew fun _=>Dy (hs _ _ _) fun _ _=>Ew fun _=>Dy (hs _ _ _) fun _ _=>smX.refl _
theorem V7 (hs:∀n d i,smX (self n d i) (self' n d i))(d i:Nat):smX (Cn (mkT c t a) self d i) (Cn (mkT c t a') self' d i) :=
 Gk fun _=>Cq (Yp hs _ _) (Cq (Yq hs _ _) (Rz hs _ _ _))
theorem cB (hs:∀n d i,smX (self n d i) (self' n d i))(r d i:Nat):smX (Dn (mkT c t a) self r d i) (Dn (mkT c t a') self' r d i) :=
 Cq (Dy (Ka _) fun _ _=>smX.refl _) (Gk fun _=>Dy (hs _ _ _) fun _ _=>smX.refl _)
theorem V9 (hs:∀n d i,smX (self n d i) (self' n d i))(m:Nat)(n:List UInt8)(d i:Nat):smX (G0 (mkT c t a) self m n d i) (G0 (mkT c t a') self' m n d i) :=
 Gk fun _=>Dy (Ly (fun i=>hs _ _ i) m _ _) fun _ _=>smX.refl _
theorem cC (hs:∀n d i,smX (self n d i) (self' n d i))(m d i:Nat):smX (Fe (mkT c t a) self m d i) (Fe (mkT c t a') self' m d i) :=
 Dy (Ka _) fun _ _=>Cq (smX.refl _) (Cq (V9 hs _ _ _ _) (smX.refl _))
theorem eX (hs:∀n d i,smX (self n d i) (self' n d i))(m d i:Nat):smX (Gp (mkT c t a) self m d i) (Gp (mkT c t a') self' m d i) :=
 Cq (smX.refl _) (Cq (Cq (V9 hs _ _ _ _) smX.err) (cC hs _ _ _))
theorem gI (hs:∀n d i,smX (self n d i) (self' n d i))(m d i:Nat):smX (Jr (mkT c t a) self m d i) (Jr (mkT c t a') self' m d i) :=
 Cq (Dy (Rz hs _ _ _) fun _ _=>Ew fun _=>smX.refl _) (Dy (Zo (fun i=>hs _ _ i) _ _) fun _ _=>smX.refl _)
theorem Wb (hs:∀n d i,smX (self n d i) (self' n d i))(m d i:Nat):smX (Bp (mkT c t a) self m d i) (Bp (mkT c t a') self' m d i) :=
 Cq (Gk fun _=>Dy (hs _ _ _) fun _ _=>Ew fun _=>smX.refl _) (Cq (Gk fun _=>gI hs _ _ _)
  (Cq (Gk fun _=>Dy (Zo (fun i=>hs _ _ i) _ _) fun _ _=>smX.refl _)
   (Cq (Gk fun _=>Dy (Ly (fun i=>eW hs _ i) m _ _) fun _ _=>smX.refl _) smX.err)))
theorem gJ (m:List UInt8)(i p p':Nat):smX (match Lib.parseIntB 64 m with | .ok v=>okX (Ct (Lib.itoa v)) (i+1)|_=>Ck 5 p) (match Lib.parseIntB 64 m with | .ok v=>okX (Ct (Lib.itoa v)) (i+1)|_=>Ck 5 p'):=by
 cases Lib.parseIntB 64 m with
 | ok v=>exact smX.refl _
 | _=>exact smX.err
theorem cD (hs:∀n d i,smX (self n d i) (self' n d i))(m d i:Nat):smX (C7 (mkT c t a) self m d i) (C7 (mkT c t a') self' m d i) :=
 Cq (gJ _ _ _ _) (Cq (smX.refl _) (Cq (eX hs _ _ _) (Wb hs _ _ _)))
theorem Jl (hs:∀n d i,smX (self n d i) (self' n d i))(M d:Nat):∀m x i,smX (Bs (mkT c t a) self M d m x i) (Bs (mkT c t a') self' M d m x i)
 | 0,_,_=>smX.refl _
 | m+1,_,_ =>
  Cq (Gk fun _=>Dy (hs _ _ _) fun _ _=>Cq (Dy (hs _ _ _) fun _ _=>Ew fun _=>Jl hs M d m _ _) (Ew fun _=>Jl hs M d m _ _))
   (Cq (Dy (Ka _) fun _ _=>Jl hs M d m _ _) (smX.refl _))
theorem cE (hs:∀n d i,smX (self n d i) (self' n d i))(m d i:Nat):smX (Eo (mkT c t a) self m d i) (Eo (mkT c t a') self' m d i) :=
 Dy (cD hs _ _ _) fun _ _=>Jl hs _ _ _ _ _
theorem Sa (hs:∀n d i,smX (self n d i) (self' n d i))(rank d:Nat):∀m h x i,smX (Bb (mkT c t a) self rank d m h x i) (Bb (mkT c t a') self' rank d m h x i)
 | 0,_,_,_=>smX.refl _
 | m+1,_,_,_=>Cq (smX.refl _) (Dy (hs _ _ _) fun _ _=>Sa hs rank d m _ _ _)
theorem eY (hs:∀n d i,smX (self n d i) (self' n d i))(m rank d i:Nat):smX (Fa (mkT c t a) self m rank d i) (Fa (mkT c t a') self' m rank d i) :=
 Cq smX.err (Dy (Cq (V7 hs _ _) (Cq (cB hs _ _ _) (cE hs _ _ _))) fun _ _=>Sa hs _ _ _ _ _ _)
theorem Wc:∀f n d i,smX (A3 (mkT c t a) f n d i) (A3 (mkT c t a') f n d i)
 | 0,_,_,_=>smX.refl _
 | f+1,_,_,_=>Dy (eY (fun n d i=>Wc f n d i) _ _ _ _) fun _ _=>smX.refl _
theorem cF (f:Nat):smX (Ea (mkT c t a) f) (Ea (mkT c t a') f):=Dy (Wc f _ _ _) fun _ _=>Cq (smX.refl _) smX.err
end
theorem Mr {R:List UInt8}:∀(l:List UInt8)(r:Bool),btw r l<l.length->btw r (l++R)=btw r l
 | [],r,h=>by simp at h
 | c::l,r,h=>by
  rw[btw] at h;rw[List.cons_append,btw,btw];split
  ·rename_i q
   rw[if_pos q] at h;rw[Mr l _ (by simp at h;omega)]
  ·rfl
theorem Sb {R:List UInt8}(hR:∀r,btw r R=R.length):∀(l:List UInt8)(r:Bool),btw r l=l.length->btw r (l++R)=(l++R).length
 | [],r,_=>hR r
 | c::l,r,h=>by
  rw[btw] at h;rw[List.cons_append,btw];split
  ·rename_i q
   rw[if_pos q] at h;rw[Sb hR l _ (by simp at h;omega)];simp;omega
  ·rename_i q
   rw[if_neg q] at h;simp at h
theorem Ms (R:List UInt8):∀l:List UInt8,(l++10::R).takeWhile Ba=l.takeWhile Ba
 | []=>by rw[List.nil_append,List.takeWhile_cons,if_neg (by decide)];rfl
 | c::l=>by
  rw[List.cons_append,List.takeWhile_cons,List.takeWhile_cons,Ms R l]
theorem Nq (R:List UInt8):∀(l:List UInt8)(i:Nat),Cc (l++10::R) i=Cc l i
 | [],i=>by
  show(if ((10:UInt8)==34)=true then(3,i+1) else if Hq 10=true then Cc R (i+1) else(5,i))=(5,i);rw[if_neg (by decide),if_neg (by decide)]
 | c::l,i=>by rw[List.cons_append,Cc,Cc,Nq R l (i+1)]
theorem Yr (R:List UInt8)(c:UInt8):∀l:List UInt8,Fj (c::(l++10::R))=Fj (c::l)
 | []=>by
  have h:Cb.contains [c,10]=false:=by
   have a:Cb.all (fun s=>match s with | [_,b]=>b != 10|_=>true)=true:=by decide
   cases e:Cb.contains [c,10] with
   | false=>rfl
   | true =>
    have:=List.all_eq_true.1 a [c,10] (by simpa using e);simp at this
  unfold Fj;show(if (_&&Cb.contains [c,10])=true then _ else _)=_;rw[h];simp[Cw]
 | d::l=>by
  unfold Fj;simp[Cw]
theorem Sc (R:List UInt8)(c:UInt8)(l:List UInt8):Dr (c::l++10::R)=Dr (c::l):=by
 have a:Bx (c::(l++10::R))=Bx (c::l):=by
  have:=Ms R (c::l);unfold Bx;rw[<- this];rfl
 have b:Ju (c::(l++10::R))=Ju (c::l):=by
  unfold Ju;have e:(c::(l++10::R)).take (Bx (c::(l++10::R)))=(c::l).take (Bx (c::l)):=by
   rw[J9,J9];exact Ms R (c::l)
  rw[e,a];rfl
 rw[List.cons_append,G6,G6,a,b,Nq,Yr]
section
variable {T R:List UInt8}
theorem Sd (i:Nat)(h:∀k,k<i->atF T k<T.length):Dp (T++10::R) i=Dp T i:=by
 induction i with
 | zero=>rfl
 | succ i ih =>
  have f:=ih fun k hk=>h k (by omega);have b:=h i (by omega);have a:=Ig T i;have e:(T++10::R).drop (Dp T i)=T.drop (Dp T i)++10::R:=List.drop_append_of_le_length a;have d:btw false (T.drop (Dp T i)++10::R)=btw false (T.drop (Dp T i)):=Mr _ _ (by unfold atF at b;simp;omega);have c:(T++10::R).drop (atF T i)=T.drop (atF T i)++10::R:=List.drop_append_of_le_length (by omega);have g:Dr (T.drop (atF T i)++10::R)=Dr (T.drop (atF T i)):=by
   rw[List.drop_eq_getElem_cons b];exact Sc _ _ _
  rw[Dp,Dp,f,e,d];show atF T i+(Dr ((T++10::R).drop (atF T i))).2=atF T i+(Dr (T.drop (atF T i))).2;rw[c,g]
theorem eZ {i:Nat}(h:∀k,k<i->atF T k<T.length)(hi:atF T i<T.length):clF (T++10::R) i=clF T i/\txF (T++10::R) i=txF T i:=by
 have e:=Sd (R:=R) i h;have a:=Ig T i;have d:(T++10::R).drop (Dp T i)=T.drop (Dp T i)++10::R:=List.drop_append_of_le_length a;have c:btw false (T.drop (Dp T i)++10::R)=btw false (T.drop (Dp T i)):=Mr _ _ (by unfold atF at hi;simp;omega);have b:atF (T++10::R) i=atF T i:=by
  unfold atF;rw[e,d,c]
 have f:(T++10::R).drop (atF T i)=T.drop (atF T i)++10::R:=List.drop_append_of_le_length (by omega);have g:Dr (T.drop (atF T i)++10::R)=Dr (T.drop (atF T i)):=by
  rw[List.drop_eq_getElem_cons hi];exact Sc _ _ _
 unfold clF txF Nt;rw[b,f,g];refine⟨rfl,?_⟩;rw[List.take_append_of_le_length (Sv _)]
theorem cG (hR:∀r,btw r (10::R)=(10::R).length){i:Nat}(h:∀k,k<i->atF T k<T.length)(hi:atF T i=T.length):atF (T++10::R) i=(T++10::R).length:=by
 have d:=Sd (R:=R) i h;have a:=Ig T i;have c:(T++10::R).drop (Dp T i)=T.drop (Dp T i)++10::R:=List.drop_append_of_le_length a;have b:=Sb hR (T.drop (Dp T i)) false (by unfold atF at hi;simp;omega);unfold atF;rw[d,c,b];simp;omega
theorem Ys {i:Nat}(h:atF T i=T.length):∀m,atF T (i+m)=T.length
 | 0=>h
 | m+1=>by
  have:=Ys h m;have h1:=Hw T (i+m);have h2:=Hw T (i+(m+1));have h3:Dp T (i+(m+1))=atF T (i+m)+Nt T (i+m):=rfl;omega
theorem Zp {i:Nat}(h:atF T i=T.length):clF T i=0/\txF T i=[]:=by
 have a:T.drop (atF T i)=[]:=List.drop_of_length_le (by omega);unfold clF txF;rw[a];exact⟨rfl,by simp⟩
theorem Yt (hR:∀r,btw r (10::R)=(10::R).length)(i:Nat):clF (T++10::R) i=clF T i/\txF (T++10::R) i=txF T i:=by
 have d:∀i,(∀k,k<=i->atF T k<T.length)\/∃N,N<=i/\(∀k,k<N->atF T k<T.length)/\atF T N=T.length:=by
  intro i
  induction i with
  | zero =>
   have:=(Hw T 0).2.1;by_cases h:atF T 0<T.length
   ·exact .inl fun k hk=>by rw[show k=0 from by omega];exact h
   ·exact .inr ⟨0,Nat.le_refl _,fun k hk=>by omega,by omega⟩
  | succ i ih =>
   rcases ih with ih|⟨N,l,b,a⟩
   ·have:=(Hw T (i+1)).2.1;by_cases h:atF T (i+1)<T.length
    ·refine .inl fun k hk=>?_;by_cases c:k<=i
     ·exact ih k c
     ·rw[show k=i+1 from by omega];exact h
    ·exact .inr ⟨i+1,Nat.le_refl _,fun k hk=>ih k (by omega),by omega⟩
   ·exact .inr ⟨N,by omega,b,a⟩
 rcases d i with h|⟨N,l,b,a⟩
 ·exact eZ (fun k hk=>h k (by omega)) (h i (Nat.le_refl _))
 ·have g:=Ys a (i-N);have j:=Ys (cG hR b a) (i-N);rw[show N+(i-N)=i from by omega] at g j;have e:=Zp g;have f:=Zp j;exact⟨by rw[e.1,f.1],by rw[e.2,f.2]⟩
theorem T8 (hR:∀r,btw r (10::R)=(10::R).length){f:Nat}{x:PX}{j:Nat}(h:Ea (tkF T) f=some (.ok (x,j))):Ea (tkF (T++10::R)) f=some (.ok (x,j)):=by
 have e:tkF (T++10::R)=mkT (clF T) (txF T) (atF (T++10::R)):=by
  funext i
  have:=Yt (T:=T) hR i;show(⟨clF (T++10::R) i,txF (T++10::R) i,_⟩:Tk)=⟨clF T i,txF T i,_⟩;rw[this.1,this.2]
 rw[e];exact cF (c:=clF T) (t:=txF T) (a:=atF T) f _ h
end
def Lz:List (List UInt8):=[Cy,Fm,Bi,Br,Al,Bt,Bu]++Eh
def Ua:List (List UInt8):=[Bt,Bu]++Eh
theorem Fp:∀w∈Lz,Gu w/\I6 w:=by
 intro w a;simp only[Lz,Eh,List.cons_append,List.nil_append,List.mem_cons,List.not_mem_nil,or_false] at a;rcases a with rfl|rfl|rfl|rfl|rfl|rfl|rfl|rfl|rfl|rfl<;>exact⟨⟨⟨_,_,rfl,by decide⟩,by decide⟩,⟨by unfold Gb;decide,by decide⟩⟩
structure Dl (row:List UInt8)(l:SL):Prop where
 head:∃w l',l=([],(1,w))::l'/\w∈Lz
 text:spell l=row
 chain:∀r,Ji r->Bz l r
 read:∀K i,At K i (A6 l)->I6 (K (i+l.length)).tx->∃F,Dd K (A3 K F) F i=some (.ok (row,i+l.length))
def gK (p:List UInt8):Nat:=if p=Bu then 1 else 4
def H8 (p:List UInt8)(lx:SL):SL:=([32],(gK p,A4 p))::spc lx
theorem Zq (p:List UInt8):I4 (gK p,A4 p)/\∀r,Ek (gK p,A4 p) (32::r)=true:=by
 unfold gK A4;by_cases b:p=Bt
 ·subst b;rw[if_neg (by decide),if_pos rfl];exact⟨Yi,Yj⟩
 ·rw[if_neg b];by_cases a:p=Bu
  ·rw[if_pos a,if_pos a];exact⟨(J7 wIn (by simp)).tok,Bc _⟩
  ·rw[if_neg a,if_neg a];exact⟨I5 [61,61] (by decide),fun r=>N6 _⟩
theorem Mt {p:List UInt8}{x:PX}{q D:Nat}{lx:SL}(g:Gd x q D lx){r:List UInt8}(hr:Ji r):Bz (H8 p lx) r:=by
 refine⟨Fx,(Zq p).1,?_,g.spc_chain hr⟩;rw[g.spc_spell];exact(Zq p).2 _
theorem I9 {p:List UInt8}{x:PX}{q D:Nat}{lx:SL}(g:Gd x q D lx):spell (H8 p lx)=[32]++A4 p++[32]++spell lx:=by
 unfold H8;simp only[spell];rw[g.spc_spell];simp
theorem Qd {p:List UInt8}{x:PX}{q D:Nat}{lx:SL}(g:Gd x q D lx)(hD:D<=24){K:Nat->Tk}{i:Nat}(hA:At K i (A6 (H8 p lx)))(hx:I6 (K (i+(H8 p lx).length)).tx):∃F,∀G,F<=G->∀ahead,Fo K (A3 K G) p ahead i=some (.ok (ahead++[32]++A4 p++[32]++x.tx,i+(H8 p lx).length)):=by
 have e:A6 (H8 p lx)=(gK p,A4 p)::A6 lx:=by rw[<- Dx lx];rfl
 have b:(H8 p lx).length=1+lx.length:=by unfold H8;rw[List.length_cons,Ec];omega
 rw[e] at hA;rw[b,<- Nat.add_assoc] at hx |-;have a:(K i).tx=A4 p:=hA.head.2;obtain⟨F,f⟩:=g.prog0 (n:=0) (d:=0) hA.tail (by omega) (by omega) (by omega) hx.1 hx.2;refine⟨F,fun G hG ahead=>?_⟩;unfold Fo;rw[Fw _ a,Fb hG f,bXs];rfl
def nmL (ns:List (List UInt8)):List SL:=ns.map fun n=>[([],(1,n))]
theorem cH {ns:List (List UInt8)}(h:∀n∈ns,Cg n):Mp 0 (ns.map fun n=>(Ct n,([([],(1,n))]:SL))):=by
 intro p b;obtain⟨n,a,rfl⟩:=List.mem_map.1 b;exact⟨⟨14,(h n a).gd⟩,by simp[spell,Ct]⟩
theorem Nr {ns:List (List UInt8)}(h:∀n∈ns,Cg n):spell (A2 (nmL ns))=B9 ns:=by
 have:=Im (cH h);rw[List.map_map] at this;rw[show nmL ns=ns.map (Prod.snd ∘ fun n=>(Ct n,([([],(1,n))]:SL))) from rfl,this];unfold C0 B9
 congr 1
 simp[Function.comp_def,Ct]
theorem Wd {ns:List (List UInt8)}(h:∀n∈ns,Cg n):∀l∈nmL ns,Sp l:=by
 intro l a;obtain⟨n,b,rfl⟩:=List.mem_map.1 a;exact(h n b).gd.sp
theorem Qe {ns:List (List UInt8)}(h:∀n∈ns,Cg n)(hne:ns≠[]){K:Nat->Tk}{cl:List UInt8}(hcl:I6 cl)(hc:cl≠[44]){i:Nat}(hA:At K i (A6 (A2 (nmL ns))++[(4,cl)])):∃F,∀G,F<=G->Bj K cl (Bo K) G [] i=some (.ok (ns,i+(A2 (nmL ns)).length+1)):=by
 have b:(ns.map fun n=>(n,([([],(1,n))]:SL))).map Prod.snd=nmL ns:=by rw[List.map_map];rfl
 have c:(ns.map fun n=>(n,([([],(1,n))]:SL))).map Prod.fst=ns:=by rw[List.map_map];simp[Function.comp_def]
 have:=Kj (K:=K) (fun _ i=>Bo K i) (fun _ _ _ _=>leX.refl _) hcl hc (ns.map fun n=>(n,([([],(1,n))]:SL))) [] i (by simpa using hne) (fun p hp i ha _=>by
  obtain⟨n,d,rfl⟩:=List.mem_map.1 hp;have a:At K i [(1,n)]:=ha;exact⟨0,(h n d).read a.head.1 a.head.2⟩) (by rw[b];exact hA)
 rw[b,c] at this;obtain⟨F,f⟩:=this;exact⟨F,fun G hG=>(Ff (fun _=>leX.refl _) F G hG _ _).some f⟩
section
variable {K:Nat->Tk} {self:Nat->Nat->Nat->RX PX} {m i:Nat}
theorem cI (h:(K i).tx=Cy):Dd K self m i=bX (self 0 0 (i+1)) fun x j=>okX (Cy++[32]++x.tx) j:=by
 unfold Dd;rw[h,if_pos (by decide)]
theorem cJ (h:(K i).tx=Fm):Dd K self m i=(if (K (i+1)).tx==Ga||(K (i+1)).tx==C4 then bX (Bo K (i+2)) fun n j=>okX (Fm++[32]++(K (i+1)).tx++[32]++n) j else Ck 1 (K (i+1)).at'):=by
 unfold Dd;rw[h,if_neg (by decide),if_pos (by decide)]
theorem fA (h:(K i).tx=Bi):Dd K self m i=bX (Bo K (i+1)) fun n j=>okX (Bi++[32]++n) j:=by
 unfold Dd;rw[h,if_neg (by decide),if_neg (by decide),if_pos (by decide)]
theorem Yu (h:(K i).tx=Br):Dd K self m i=bX (Bo K (i+1)) fun n j=>Bv K [61] j fun j=>Bv K [123] j fun j=>bX (Bj K [125] (Bo K) m [] j) fun l j=>okX (Br++[32]++n++[32,61,32,123]++B9 l++[125]) j:=by
 unfold Dd;rw[h,if_neg (by decide),if_neg (by decide),if_neg (by decide),if_pos (by decide)]
theorem Ns (h:(K i).tx=Al):Dd K self m i=bX (Bo K (i+1)) fun n j =>
   if (K j).tx==[40] then bX (Bj K [41] (Bo K) m [] (j+1)) fun l j=>Fo K self Al (Al++[32]++n++[40]++B9 l++[41]) j
   else Fo K self Al (Al++[32]++n) j:=by
 unfold Dd;rw[h,if_neg (by decide),if_neg (by decide),if_neg (by decide),if_neg (by decide),if_pos (by decide)]
theorem Yv {p:List UInt8}(hp:p∈Ua)(h:(K i).tx=p):Dd K self m i=bX (Bo K (i+1)) fun n j=>Fo K self p (p++[32]++n) j:=by
 have a:∀p∈Ua,(p==Cy)=false/\(p==Fm)=false/\(p==Bi)=false/\(p==Br)=false/\(p==Al)=false/\(p==Bt||p==Bu||Eh.contains p)=true:=by decide
 obtain⟨b,c,d,e,f,g⟩:=a p hp;unfold Dd;rw[h,b,c,d,e,f,g,if_neg (by simp),if_neg (by simp),if_neg (by simp),if_neg (by simp),if_neg (by simp),if_pos rfl]
end
theorem gL {x:PX}{q D:Nat}{lx:SL}(g:Gd x q D lx)(hD:D<=24)(ht:spell lx=x.tx):Dl (Cy++[32]++x.tx) (([],(1,Cy))::spc lx):=by
 have c:=(Fp Cy (by decide)).1;refine⟨⟨Cy,_,rfl,by decide⟩,?_,fun r hr=>⟨Fz,c.tok,by rw[g.spc_spell];exact Bc _ _,g.spc_chain hr⟩,fun K i hA hx=>?_⟩
 ·simp only[spell];rw[g.spc_spell,ht];simp
 ·have a:At K i ((1,Cy)::A6 lx):=by rw[<- Dx lx];exact hA
  have b:(([],(1,Cy))::spc lx:SL).length=1+lx.length:=by rw[List.length_cons,Ec];omega
  rw[b,<- Nat.add_assoc] at hx |-;obtain⟨F,f⟩:=g.prog0 (n:=0) (d:=0) a.tail (by omega) (by omega) (by omega) hx.1 hx.2;refine⟨F,?_⟩;rw[cI a.head.2,f];rfl
theorem gM {how n:List UInt8}(hh:how=Ga\/how=C4)(hn:Cg n):Dl (Fm++[32]++how++[32]++n) [([],(1,Fm)),([32],(1,how)),([32],(1,n))]:=by
 have f:=(Fp Fm (by decide)).1;have b:Gu how/\(how==Ga||how==C4)=true:=by
  rcases hh with rfl|rfl<;>exact⟨⟨⟨_,_,rfl,by decide⟩,by decide⟩,by decide⟩
 refine⟨⟨Fm,_,rfl,by decide⟩,by simp[spell],fun r hr=>⟨Fz,f.tok,Bc _ _,Fx,b.1.tok,Bc _ _,Fx,hn.word.tok,by simpa [spell] using hr.part (.inl rfl),trivial⟩,fun K i hA hx=>⟨0,?_⟩⟩;have a:At K i [(1,Fm),(1,how),(1,n)]:=hA;have d:=a.head;have e:(K (i+1)).tx=how:=a.tail.head.2;have c:=a.tail.tail.head;rw[cJ d.2,e,if_pos b.2,hn.read c.1 c.2];rfl
theorem jN {n:List UInt8}(hn:Cg n):Dl (Bi++[32]++n) [([],(1,Bi)),([32],(1,n))]:=by
 have d:=(Fp Bi (by decide)).1;refine⟨⟨Bi,_,rfl,by decide⟩,by simp[spell],fun r hr=>⟨Fz,d.tok,Bc _ _,Fx,hn.word.tok,by simpa [spell] using hr.part (.inl rfl),trivial⟩,fun K i hA hx=>⟨0,?_⟩⟩;have a:At K i [(1,Bi),(1,n)]:=hA;have c:=a.head;have b:=a.tail.head;rw[fA c.2,hn.read b.1 b.2];rfl
theorem fB {p n:List UInt8}(hp:p∈Ua)(hn:Cg n){x:PX}{q D:Nat}{lx:SL}(g:Gd x q D lx)(hD:D<=24)(ht:spell lx=x.tx):Dl (p++[32]++n++[32]++A4 p++[32]++x.tx) (([],(1,p))::([32],(1,n))::H8 p lx):=by
 have b:p∈Lz:=by
  have c:∀p∈Ua,p∈Lz:=by decide
  exact c p hp
 have j:=(Fp p b).1;refine⟨⟨p,_,rfl,b⟩,?_,fun r hr=>⟨Fz,j.tok,Bc _ _,Fx,hn.word.tok,?_,Mt g hr⟩,fun K i hA hx=>?_⟩
 ·simp only[spell];rw[I9 g,ht];simp
 ·rw[I9 g];exact Bc _ _
 ·have a:At K i ((1,p)::(1,n)::A6 (H8 p lx)):=hA;have e:=a.head;have d:=a.tail.head;have h:(([],(1,p))::([32],(1,n))::H8 p lx:SL).length=2+(H8 p lx).length:=by simp;omega
  rw[h,<- Nat.add_assoc] at hx |-;obtain⟨F,f⟩:=Qd g hD (i:=i+2) a.tail.tail hx;refine⟨F,?_⟩;rw[Yv hp e.2,hn.read d.1 d.2];exact f F (Nat.le_refl _) _
theorem gN {n:List UInt8}(hn:Cg n){x:PX}{q D:Nat}{lx:SL}(g:Gd x q D lx)(hD:D<=24)(ht:spell lx=x.tx):Dl (Al++[32]++n++[32]++A4 Al++[32]++x.tx) (([],(1,Al))::([32],(1,n))::H8 Al lx):=by
 have j:=(Fp Al (by decide)).1;refine⟨⟨Al,_,rfl,by decide⟩,?_,fun r hr=>⟨Fz,j.tok,Bc _ _,Fx,hn.word.tok,?_,Mt g hr⟩,fun K i hA hx=>?_⟩
 ·simp only[spell];rw[I9 g,ht];simp
 ·rw[I9 g];exact Bc _ _
 ·have a:At K i ((1,Al)::(1,n)::A6 (H8 Al lx)):=hA;have d:=a.head;have c:=a.tail.head;have e:(K (i+1+1)).tx=[61,61]:=(At.head (t:=(4,[61,61])) (b:=A6 (spc lx)) a.tail.tail).2;have h:(([],(1,Al))::([32],(1,n))::H8 Al lx:SL).length=2+(H8 Al lx).length:=by simp;omega
  rw[h,<- Nat.add_assoc] at hx |-;obtain⟨F,f⟩:=Qd g hD (i:=i+2) a.tail.tail hx;refine⟨F,?_⟩;rw[Ns d.2,hn.read c.1 c.2,bXo,e,if_neg (by decide)];exact f F (Nat.le_refl _) _
theorem jO {n:List UInt8}{ns:List (List UInt8)}(hn:Cg n)(h:∀n∈ns,Cg n)(hne:ns≠[]){x:PX}{q D:Nat}{lx:SL}(g:Gd x q D lx)(hD:D<=24)(ht:spell lx=x.tx):Dl (Al++[32]++n++[40]++B9 ns++[41]++[32]++A4 Al++[32]++x.tx) (([],(1,Al))::([32],(1,n))::([],(4,[40]))::(A2 (nmL ns)++([],(4,[41]))::H8 Al lx)):=by
 have t:=(Fp Al (by decide)).1;refine⟨⟨Al,_,rfl,by decide⟩,?_,fun r hr=>⟨Fz,t.tok,Bc _ _,Fx,hn.word.tok,?_,Fz,B7 40 (by decide),I7 (by simp) _,Bz.append (Gi (Wd h) (.inr ⟨41,_,rfl,by decide⟩)) ⟨Fz,B7 41 (by decide),Et fun c y _=>by simp[Cb],Mt g hr⟩⟩,fun K i hA hx=>?_⟩
 ·simp only[spell,Ap];rw[I9 g,ht,Nr h];simp
 ·simp[spell,Ek];decide
 ·have a:At K i ((1,Al)::(1,n)::(4,[40])::(A6 (A2 (nmL ns))++(4,[41])::A6 (H8 Al lx))):=by simpa [A6] using hA
  have m:=a.head;have j:=a.tail.head;have o:(K (i+1+1)).tx=[40]:=a.tail.tail.head.2;have d:=a.tail.tail.tail;have l:At K (i+1+1+1) (A6 (A2 (nmL ns))++[(4,[41])]):=At.left (b:=A6 (H8 Al lx)) (by simpa using d);have e:=d.right.tail;rw[Bf] at e;have p:(([],(1,Al))::([32],(1,n))::([],(4,[40]))::(A2 (nmL ns)++([],(4,[41]))::H8 Al lx):SL).length=3+(A2 (nmL ns)).length+1+(H8 Al lx).length:=by simp;omega
  rw[p,<- Nat.add_assoc,<- Nat.add_assoc,<- Nat.add_assoc] at hx |-;obtain⟨F,f⟩:=Qd g hD (i:=i+3+(A2 (nmL ns)).length+1) e hx;obtain⟨k,s⟩:=Qe h hne hJ (by decide) l;refine⟨max F k,?_⟩;rw[Ns m.2,hn.read j.1 j.2,bXo,o,if_pos (by decide),s _ (Nat.le_max_right _ _),bXs];exact f _ (Nat.le_max_left _ _) _
theorem fC {n:List UInt8}{ns:List (List UInt8)}(hn:Cg n)(h:∀n∈ns,Cg n)(hne:ns≠[]):Dl (Br++[32]++n++[32,61,32,123]++B9 ns++[125]) (([],(1,Br))::([32],(1,n))::([32],(4,[61]))::([32],(4,[123]))::(A2 (nmL ns)++[([],(4,[125]))])):=by
 have l:=(Fp Br (by decide)).1;refine⟨⟨Br,_,rfl,by decide⟩,?_,fun r hr=>⟨Fz,l.tok,Bc _ _,Fx,hn.word.tok,Bc _ _,Fx,Yi,Yj _,Fx,B7 123 (by decide),I7 (by simp) _,Bz.append (Gi (Wd h) (.inr ⟨125,_,rfl,by decide⟩)) (Qb (by simp) r)⟩,fun K i hA hx=>?_⟩
 ·simp only[spell,Ap];rw[Nr h];simp
 ·have a:At K i ((1,Br)::(1,n)::(4,[61])::(4,[123])::(A6 (A2 (nmL ns))++[(4,[125])])):=by simpa [A6] using hA
  have e:=a.head;have b:=a.tail.head;have f:(K (i+1+1)).tx=[61]:=a.tail.tail.head.2;have g:(K (i+1+1+1)).tx=[123]:=a.tail.tail.tail.head.2;have d:=a.tail.tail.tail.tail;have j:(([],(1,Br))::([32],(1,n))::([32],(4,[61]))::([32],(4,[123]))::(A2 (nmL ns)++[([],(4,[125]))]):SL).length=4+(A2 (nmL ns)).length+1:=by simp;omega
  rw[j,<- Nat.add_assoc,<- Nat.add_assoc];obtain⟨c,k⟩:=Qe h hne Yl (by decide) d;refine⟨c,?_⟩;rw[Yu e.2,hn.read b.1 b.2,bXo,Fw _ f,Fw _ g,k _ (Nat.le_refl _),bXs];rfl
theorem Qf {T:List UInt8}{f:Nat}{p ahead:List UInt8}{i:Nat}{row:List UInt8}{j:Nat}(h:Fo (tkF T) (A3 (tkF T) f) p ahead i=some (.ok (row,j))):∃(x:PX)(lx:SL)(q:Nat),row=ahead++[32]++A4 p++[32]++x.tx/\spell lx=x.tx/\Gd x q 24 lx:=by
 unfold Fo at h;obtain⟨x,k,a,b⟩:=Ai (Au h);obtain⟨rfl,rfl⟩:=Ak b;obtain⟨⟨l,e,g⟩,-⟩:=T0 (d:=0) (by omega) a;exact⟨x,l,_,rfl,e,g⟩
theorem gO {T:List UInt8}{f m i:Nat}{row:List UInt8}{j:Nat}(h:Dd (tkF T) (A3 (tkF T) f) m i=some (.ok (row,j))):∃l,Dl row l:=by
 have c:=Mq T;unfold Dd at h;split at h
 ·obtain⟨x,k,b,a⟩:=Ai h;obtain⟨rfl,rfl⟩:=Ak a;obtain⟨⟨l,e,g⟩,-⟩:=T0 (d:=0) (by omega) b;exact⟨_,gL g (by omega) e⟩
 split at h
 ·split at h
  ·rename_i q
   obtain⟨n,k,b,a⟩:=Ai h;obtain⟨rfl,rfl⟩:=Ak a;exact⟨_,gM (by simpa using q) (Ch c b)⟩
  ·simp[Ck] at h
 split at h
 ·obtain⟨n,k,b,a⟩:=Ai h;obtain⟨rfl,rfl⟩:=Ak a;exact⟨_,jN (Ch c b)⟩
 split at h
 ·obtain⟨n,k,b,a⟩:=Ai h;obtain⟨u,t,o,p⟩:=Ai (Au (Au a));obtain⟨rfl,rfl⟩:=Ak p;have q:=Hp (fun n=>Cg n) (fun i x j e=>Ch c e) _ _ _ _ _ (fun x hx=>by simp at hx) o;exact⟨_,fC (Ch c b) q.1 q.2⟩
 split at h
 ·obtain⟨n,k,b,a⟩:=Ai h;split at a
  ·obtain⟨u,t,o,p⟩:=Ai a;have q:=Hp (fun n=>Cg n) (fun i x j e=>Ch c e) _ _ _ _ _ (fun x hx=>by simp at hx) o;obtain⟨x,s,r,rfl,e,g⟩:=Qf p;exact⟨_,jO (Ch c b) q.1 q.2 g (by omega) e⟩
  ·obtain⟨x,s,r,rfl,e,g⟩:=Qf a;exact⟨_,gN (Ch c b) g (by omega) e⟩
 split at h
 ·rename_i q
  obtain⟨n,k,b,a⟩:=Ai h;obtain⟨x,s,r,rfl,e,g⟩:=Qf a;refine⟨_,fB ?_ (Ch c b) g (by omega) e⟩;simp only[Bool.or_eq_true,beq_iff_eq] at q;rcases q with(q|q)|q
  ·rw[q];decide
  ·rw[q];decide
  ·have v:(tkF T i).tx∈Eh:=by simpa using q
   exact List.mem_append_right _ v
 ·simp[Ck] at h
def nl (l:SL):SL:=match l with | []=>[]|p::l=>([10],p.2)::l
theorem Zr (l:SL):A6 (nl l)=A6 l:=by cases l<;>rfl
theorem cK (l:SL):(nl l).length=l.length:=by cases l<;>rfl
theorem Dl.nl_spell {row:List UInt8}{l:SL}(h:Dl row l):spell (nl l)=10::row:=by
 obtain⟨w,a,e,-⟩:=h.head;rw[<- h.text,e];simp[nl,spell]
theorem kS:Blk [10]:=fun c hc=>by simp at hc;rw[hc];decide
theorem Dl.nl_chain {row:List UInt8}{l:SL}(h:Dl row l){r:List UInt8}(hr:Ji r):Bz (nl l) r:=by
 have a:=h.chain r hr;obtain⟨w,b,e,-⟩:=h.head;rw[e] at a |-;exact⟨kS,a.2.1,a.2.2.1,a.2.2.2⟩
abbrev RL:=List (List UInt8×SL)
def tot (ls:RL):SL:=ls.flatMap fun p=>nl p.2
def rws (ls:RL):List UInt8:=ls.flatMap fun p=>p.1++[10]
theorem Kb (p:List UInt8×SL)(ls:RL):tot (p::ls)=nl p.2++tot ls:=by simp[tot]
theorem Qg (p:List UInt8×SL)(ls:RL):rws (p::ls)=p.1++[10]++rws ls:=by simp[rws]
def Yw (ls:RL):Prop:=∀p∈ls,Dl p.1 p.2
theorem Mu:∀ls:RL,Yw ls->spell (tot ls)++[10]=10::rws ls
 | [],_=>rfl
 | p::ls,h=>by
  have hi:=Mu ls fun x hx=>h x (by simp[hx]);rw[Kb,Ap,(h p (by simp)).nl_spell,Qg,List.append_assoc,hi];simp
theorem Zs (ls:RL)(h:Yw ls):Ji (spell (tot ls)++[10]):=by
 rw[Mu ls h];exact .inr ⟨10,_,rfl,by decide⟩
theorem Se:∀ls:RL,Yw ls->Bz (tot ls) [10]
 | [],_=>trivial
 | p::ls,h=>by
  have h':Yw ls:=fun x hx=>h x (by simp[hx]);rw[Kb];exact Bz.append ((h p (by simp)).nl_chain (Zs ls h')) (Se ls h')
theorem Wf {T:List UInt8}{f M:Nat}:∀m acc i x j,Es (tkF T) (A3 (tkF T) f) M m acc i=some (.ok (x,j))->∃ls:RL,Yw ls/\x=acc++rws ls
 | 0,_,_,_,_,h=>by simp[Es] at h
 | m+1,acc,i,x,j,h=>by
  rw[Es] at h;split at h
  ·obtain⟨rfl,-⟩:=Ak h;exact⟨[],fun p hp=>by simp at hp,by simp[rws]⟩
  ·obtain⟨row,k,h1,h2⟩:=Ai h;obtain⟨l,hl⟩:=gO h1;obtain⟨ls,hls,e⟩:=Wf m _ _ _ _ h2;refine⟨(row,l)::ls,fun p hp=>?_,by rw[e,Qg];simp⟩;rcases List.mem_cons.1 hp with rfl|hp
   ·exact hl
   ·exact hls p hp
theorem Qh {K:Nat->Tk}:∀(ls:RL)(acc:List UInt8)(i:Nat),Yw ls->At K i (A6 (tot ls))->(K (i+(tot ls).length)).cl=0->(K (i+(tot ls).length)).tx=[] ->
  ∃F,∀G,F<=G->∀m,F<=m->Es K (A3 K G) G m acc i=some (.ok (acc++rws ls,i+(tot ls).length))
 | [],acc,i,_,_,h0,_=>by
  refine⟨1,fun G _ m hm=>?_⟩;obtain⟨m',rfl⟩:∃m',m=m'+1:=⟨m-1,by omega⟩;have h0':(K i).cl=0:=h0;rw[Es,if_pos h0'];simp[okX,rws,tot]
 | p::ls,acc,i,h,hA,h0,h1=>by
  have hp:=h p (by simp);have h':Yw ls:=fun x hx=>h x (by simp[hx]);rw[Kb,Gh,Zr] at hA;have el:(tot (p::ls)).length=p.2.length+(tot ls).length:=by rw[Kb,List.length_append,cK]
  rw[el,<- Nat.add_assoc] at h0 h1 |-;have a:=hA.right;rw[Bf] at a;have hx:I6 (K (i+p.2.length)).tx:=by
   cases ls with
   | nil =>
    have d:(K (i+p.2.length)).tx=[]:=h1;rw[d];exact⟨by unfold Gb;decide,by decide⟩
   | cons p2 ls =>
    obtain⟨w,f,e,q⟩:=(h p2 (by simp)).head;have k:At K (i+p.2.length) ((1,w)::(A6 f++A6 (tot ls))):=by
     rw[Kb,Gh,Zr,e] at a;exact a
    rw[k.head.2];exact(Fp w q).2
  obtain⟨c,l⟩:=hp.read K i hA.left hx;obtain⟨j,n⟩:=Qh ls (acc++p.1++[10]) (i+p.2.length) h' a h0 h1;have o:(K i).cl≠0:=by
   obtain⟨w,f,e,-⟩:=hp.head;have g:=hA.left;rw[e] at g;rw[(At.head (t:=(1,w)) (b:=A6 f) g).1];simp
  refine⟨c+j+1,fun G hG m hm=>?_⟩;obtain⟨m',rfl⟩:∃m',m=m'+1:=⟨m-1,by omega⟩;rw[Es,if_neg o,(Po (les K (by omega:c<=G)) (by omega:c<=G) i).some l,bXs,n G (by omega) m' (by omega),Qg];simp
theorem Wg {K:Nat->Tk}{F G:Nat}{a b}(h:Iw K (A3 K F) F 0=some a)(k:Iw K (A3 K G) G 0=some b):a=b:=by
 have d:=(Mj (K:=K) (les K (Nat.le_max_left F G)) (Nat.le_max_left F G) 0).some h;have c:=(Mj (K:=K) (les K (Nat.le_max_right F G)) (Nat.le_max_right F G) 0).some k;rw[d] at c;exact Option.some.inj c
theorem cL {T:List UInt8}{f:Nat}{x:List UInt8}{j:Nat}(h:Iw (tkF T) (A3 (tkF T) f) f 0=some (.ok (x,j))):∃F k,Iw (tkF x) (A3 (tkF x) F) F 0=some (.ok (x,k)):=by
 unfold Iw at h;obtain⟨n,k,q,r⟩:=Ai (Au h);have m:=Ch (Mq T) q;obtain⟨a,b,e⟩:=Wf _ _ _ _ _ r;have t:Gu C3:=⟨⟨_,_,rfl,by decide⟩,by decide⟩;have u:spell (([],(1,C3))::([32],(1,n))::tot a)++[10]=x:=by
  rw[e];simp only[spell];have:=Mu a b;rw[List.append_assoc,List.append_assoc,List.append_assoc,this];simp
 have l:Bz (([],(1,C3))::([32],(1,n))::tot a) [10]:=by
  refine⟨Fz,t.tok,Bc _ _,Fx,m.word.tok,?_,Se a b⟩;exact(Zs a b).part (.inl rfl)
 have i:=At.of_chain l;have d:=Zm l (by decide);rw[u] at i d;have c:At (tkF x) 0 ((1,C3)::(1,n)::A6 (tot a)):=i;have o:(tkF x 0).tx=C3:=c.head.2;have g:=c.tail.head;have p:(([],(1,C3))::([32],(1,n))::tot a:SL).length=2+(tot a).length:=by simp;omega
 rw[p] at d;obtain⟨F,s⟩:=Qh (K:=tkF x) a (C3++[32]++n++[10]) (0+1+1) b c.tail.tail (by rw[show 0+1+1+(tot a).length=2+(tot a).length from by omega];exact d) (by rw[show 0+1+1+(tot a).length=2+(tot a).length from by omega];exact(Mc x _).none d);refine⟨F,0+1+1+(tot a).length,?_⟩;unfold Iw;rw[Fw _ o,m.read g.1 g.2,bXo,s F (Nat.le_refl _) F (Nat.le_refl _),<- e]
end Go.Proofs.YtjbfcadeapphbaaGreatDoor.Sx
