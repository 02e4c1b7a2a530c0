/- The writer: operators, all. -/
import Derived.Test.YthcndopglfkmiaaGreatDoorF13
namespace Go.Proofs.YthcndopglfkmiaaGreatDoor.Sx
set_option maxRecDepth 100000
set_option maxHeartbeats 1000000
open Go.RowKit Go.Sort
theorem Ql:∀l:List UInt8,decide (Cm l=l.length)=l.all Bv
 | []=>rfl
 | c::l=>by
  have:=Ql l;unfold Cm at this |-;cases h:Bv c with
  | true=>simp only[List.takeWhile_cons,h,if_true,List.length_cons,List.all_cons,Bool.true_and,Nat.add_right_cancel_iff];exact this
  | false=>simp[h]
theorem Um {l:List UInt8}{c:UInt8}{r:List UInt8}(h:l=c::r):Ff l=(Bp c&&decide (l.length<=16)&&l.all Bv&&!A0 l):=by subst h;rfl
theorem Qm (s:ByteArray)(w:World):Calls Tryz.prog 111 #[.string s] w fun e w'=>e=.returned (.bool (Ff s.data.toList))/\w'=w:=by
 have A:=follows;have l:s.data.toList.length=s.size:=by simp
 have d:s.toList=s.data.toList:=ByteArray.toList_eq s;obtain⟨q,a⟩:∃q,Ff s.data.toList=q:=⟨_,rfl⟩;rw[a];have k:Hid (Ff s.data.toList=q):=a;clear a;by_cases v:s.size=0
 ·have t:s.data.toList=[]:=List.length_eq_zero_iff.1 (by omega);have z:s.toList=[]:=by rw[d,t]
  have a:=k.out;rw[t] at a;have j:q=false:=by rw[<- a];rfl
  subst j;clear a k t d l v;go_enter Tryz.func111,Tryz.ntmps111
  go_wp2_with fail
  go_ret
  exact⟨rfl,rfl⟩
 have u:¬s.toList=[]:=by rw[d];intro h;rw[h] at l;simp at l;omega
 by_cases m:s.size<=16
 case neg =>
  have n:¬(s.size:Int)<=16:=by omega
  have j:q=false:=by rw[<- k.out];unfold Ff;rw[show decide (s.data.toList.length<=16)=false from by simp;omega];simp
  subst j;clear k d l v m;go_enter Tryz.func111,Tryz.ntmps111
  go_wp2_with fail
  go_ret
  exact⟨rfl,rfl⟩
 have n:(s.size:Int)<=16:=by omega
 have x:0<s.size:=by omega
 have p:∃r,s.data.toList=s[0]::r:=by
  have:s.data.toList.drop 0=s.data.toList[0]'(by omega)::s.data.toList.drop 1:=List.drop_eq_getElem_cons (by omega);exact⟨_,this⟩
 obtain⟨B,p⟩:=p;have c:Hid (∀W:World,_):=fun W=>Lt s[0] W;have f:Hid (∀W:World,_):=fun W=>Tv s W (by omega);have i:Hid (∀W:World,_):=fun W=>Mq s W;have a:=k.out;rw[Um p,<- Ql,show decide (s.data.toList.length<=16)=true from by simp;omega,l] at a;clear p k l d m;generalize Bp s[0]=b1 at c a;generalize A0 s.data.toList=b3 at i a;generalize Cm s.data.toList=rn at f a;cases b1 with
 | false =>
  obtain rfl:false=q:=by simpa using a
  clear a;go_enter Tryz.func111,Tryz.ntmps111
  go_wp2_with (go_at_call 114;refine(c.out _).mono ?_;rintro e g ⟨rfl,b⟩;cases b)
  go_ret
  exact⟨rfl,rfl⟩
 | true =>
  by_cases o:rn=s.size
  ·have y:((rn:Int)==(s.size:Int))=true:=by simp;omega
   rw[show decide (rn=s.size)=true from by simpa using o] at a;cases b3 with
   | false =>
    obtain rfl:true=q:=by simpa using a
    have t:s.toList.isEmpty=false:=by simpa using u
    clear a o;go_enter Tryz.func111,Tryz.ntmps111
    go_wp2_with (first|(go_at_call 114;refine(c.out _).mono ?_;rintro e g ⟨rfl,b⟩;cases b)|(go_at_call 115;refine(f.out _).mono ?_;rintro e g ⟨rfl,b⟩;cases b)|(go_at_call 86;refine(i.out _).mono ?_;rintro e g ⟨rfl,b⟩;cases b))
    go_ret
    exact⟨rfl,rfl⟩
   | true =>
    obtain rfl:false=q:=by simpa using a
    clear a o;go_enter Tryz.func111,Tryz.ntmps111
    go_wp2_with (first|(go_at_call 114;refine(c.out _).mono ?_;rintro e g ⟨rfl,b⟩;cases b)|(go_at_call 115;refine(f.out _).mono ?_;rintro e g ⟨rfl,b⟩;cases b)|(go_at_call 86;refine(i.out _).mono ?_;rintro e g ⟨rfl,b⟩;cases b))
    go_ret
    exact⟨rfl,rfl⟩
  ·have y:((rn:Int)==(s.size:Int))=false:=by simp;omega
   rw[show decide (rn=s.size)=false from by simpa using o] at a;obtain rfl:false=q:=by simpa using a
   clear a o;go_enter Tryz.func111,Tryz.ntmps111
   go_wp2_with (first|(go_at_call 114;refine(c.out _).mono ?_;rintro e g ⟨rfl,b⟩;cases b)|(go_at_call 115;refine(f.out _).mono ?_;rintro e g ⟨rfl,b⟩;cases b))
   go_ret
   exact⟨rfl,rfl⟩
theorem gS {sort:Nat}{op nm:List UInt8}{n:Int}{kids:List PX}{x:PX}(h:Oe sort op nm n kids x)(hs:sort≠1):x.key=none:=by
 rcases h with⟨rfl,-,-,rfl⟩|⟨rfl,rfl⟩|⟨rfl,rfl⟩|⟨rfl,rfl⟩|⟨rfl,rfl⟩|⟨rfl,rfl⟩|⟨rfl,rfl⟩|⟨rfl,rfl⟩|⟨rfl,a,b,c,rfl,rfl⟩|⟨rfl,a,b,rfl,rfl⟩|⟨rfl,d,a,b,rfl,rfl⟩|⟨-,e⟩
 case inr.inl=>exact absurd rfl hs
 case inr.inr.inr.inr.inr.inr.inr.inr.inr.inr.inl=>unfold C7;split<;>rfl
 case inr.inr.inr.inr.inr.inr.inr.inr.inr.inr.inr =>
  rcases e with⟨g,a,b,rfl,rfl⟩|⟨rfl,rfl⟩|⟨rfl,rfl⟩|⟨rfl,rfl⟩|⟨rfl,f,k,rfl,rfl⟩|⟨rfl,f,k,v,rfl,rfl⟩|⟨rfl,a,rfl,rfl⟩|⟨d,a,rfl,rfl⟩|⟨d,a,rfl,rfl⟩|⟨d,rfl⟩<;>rfl
 all_goals rfl
theorem jU {op nm:List UInt8}{n:Int}{kids:List PX}{x:PX}(h:Oe 1 op nm n kids x):x=Fg nm:=by
 rcases h with⟨q,-⟩|⟨-,h⟩|⟨q,-⟩|⟨q,-⟩|⟨q,-⟩|⟨q,-⟩|⟨q,-⟩|⟨q,-⟩|⟨q,-⟩|⟨q,-⟩|⟨q,-⟩|⟨q,-⟩
 case inr.inl=>exact h
 all_goals omega
theorem Zp {n:Nat}(hW:WrE n)(B b xf be sort at' len cap:Nat)(l:List UInt8)(w:World)(op nm:ByteArray)(i:Int)(pa:Option Addr)(kf kk:PX)(hf:Bt (·<B) w n kf (.pointer (some ⟨xf,0,none⟩)))(hk:Bt (·<B) w n kk (.pointer (some ⟨be,0,none⟩)))(he:Ar w be sort op nm i at' pa len cap)(hbe:be<B)(hB:Bld B b l w)(hs:sort=1)(hn:Ff nm.data.toList=true)
  (hlen:l.length+(Al kf 13++46::nm.data.toList).length<=140737488355328) :
  Calls Tryz.prog 80 #[.pointer (some ⟨b,0,none⟩),.pointer (some ⟨xf,0,none⟩),.pointer (some ⟨be,0,none⟩)] w (Ax B b l (Al kf 13++46::nm.data.toList) w):=by
 have f:Hid (Ar w be sort op nm i at' pa len cap):=he;have r:Hid (WrE n):=hW;have d:Hid (Ae B b l ([]:List UInt8) w w):=Ae.nil hB;have p:Hid (l.length+(Al kf 13++46::nm.data.toList).length<=140737488355328):=hlen;have j:Hid (Bt (·<B) w n _ _):=hf;have s:Hid (Bt (·<B) w n _ _):=hk;have c:Hid (∀W:World,_):=fun W=>Qm nm W;have v:=follows;clear he hW hB hlen hf hk;subst hs;rw[hn] at c;clear hn;go_enter Tryz.func80,Tryz.ntmps80
 have k:=Aa (f.out.kp d.out.kp hbe) 0;have m:=Aa (f.out.kp d.out.kp hbe) 2;go_wp2_with fail
 clear k m;refine(Gb r.out B b _ w kf _ 13 (j.out.kp d.out.kp) d.out.1 (by have o:=p.out;simp only[List.length_append,List.length_cons,List.length_nil] at o |-;omega)).mono ?_;rintro e q ⟨rfl,a⟩;have g:Hid (Ae B b l (([]:List UInt8)++Al kf 13) w q):=d.out.put a rfl;clear a;have k:=Aa (f.out.kp g.out.kp hbe) 0;have m:=Aa (f.out.kp g.out.kp hbe) 2;go_wp2_with (go_at_call 111;refine(c.out _).mono ?_;rintro e x ⟨rfl,a⟩;cases a)
 clear k m;refine(Aw B b _ q _ [⟨#[46]⟩,nm] 2 ([46]++nm.data.toList) rfl rfl (by decide) (by simp[De]) g.out.1 (by have o:=p.out;simp only[List.length_append,List.length_cons,List.length_nil] at o |-;omega)).mono ?_;rintro e u ⟨rfl,a⟩;have t:Hid (Ae B b l ((([]:List UInt8)++Al kf 13)++([46]++nm.data.toList)) w u):=g.out.put a rfl;clear a;go_wp2_with fail
 refine bodyPost_ret (results_none rfl _ _ _) rfl ?_;exact⟨rfl,by have h:=t.out;simpa using h⟩
theorem S3 {n:Nat}(hW:WrE n)(B b xf be sort at' len cap:Nat)(l:List UInt8)(w:World)(op nm:ByteArray)(i:Int)(pa:Option Addr)(kf kk:PX)(hf:Bt (·<B) w n kf (.pointer (some ⟨xf,0,none⟩)))(hk:Bt (·<B) w n kk (.pointer (some ⟨be,0,none⟩)))(he:Ar w be sort op nm i at' pa len cap)(hbe:be<B)(hB:Bld B b l w)(hs:sort≠1\/sort=1/\Ff nm.data.toList=false)
  (hlen:l.length+(Al kf 13++91::(kk.tx++[93])).length<=140737488355328) :
  Calls Tryz.prog 80 #[.pointer (some ⟨b,0,none⟩),.pointer (some ⟨xf,0,none⟩),.pointer (some ⟨be,0,none⟩)] w (Ax B b l (Al kf 13++91::(kk.tx++[93])) w):=by
 have c:Hid (Ar w be sort op nm i at' pa len cap):=he;have u:Hid (WrE n):=hW;have r:Hid (Ae B b l ([]:List UInt8) w w):=Ae.nil hB;have p:Hid (l.length+(Al kf 13++91::(kk.tx++[93])).length<=140737488355328):=hlen;have v:Hid (Bt (·<B) w n _ _):=hf;have q:Hid (Bt (·<B) w n _ _):=hk;have o:Hid (∀W:World,_):=fun W=>Qm nm W;have E:=follows;clear he hW hB hlen hf hk;go_enter Tryz.func80,Tryz.ntmps80
 have d:=Aa (c.out.kp r.out.kp hbe) 0;have f:=Aa (c.out.kp r.out.kp hbe) 2;go_wp2_with fail
 clear d f;refine(Gb u.out B b _ w kf _ 13 (v.out.kp r.out.kp) r.out.1 (by have g:=p.out;simp only[List.length_append,List.length_cons,List.length_nil] at g |-;omega)).mono ?_;rintro e y ⟨rfl,a⟩;have m:Hid (Ae B b l (([]:List UInt8)++Al kf 13) w y):=r.out.put a rfl;clear a;rcases hs with hs|⟨rfl,A⟩
 ·have C:((sort:Int)==1)=false:=by simp;omega
  clear hs;have d:=Aa (c.out.kp m.out.kp hbe) 0;have f:=Aa (c.out.kp m.out.kp hbe) 2;go_wp2_with (go_at_call 111;refine(o.out _).mono ?_;rintro e D ⟨rfl,a⟩;cases a)
  clear d f;refine(Aw B b _ y _ [⟨#[91]⟩] 1 [91] rfl rfl (by decide) (by simp[De]) m.out.1 (by have g:=p.out;simp only[List.length_append,List.length_cons,List.length_nil] at g |-;omega)).mono ?_;rintro e s ⟨rfl,a⟩;have j:Hid (Ae B b l ((([]:List UInt8)++Al kf 13)++[91]) w s):=m.out.put a rfl;clear a;have d:=Aa (c.out.kp j.out.kp hbe) 0;have f:=Aa (c.out.kp j.out.kp hbe) 2;go_wp2_with fail
  clear d f;refine(u.out B b _ s kk _ (q.out.kp j.out.kp) j.out.1 (by have g:=p.out;simp only[List.length_append,List.length_cons,List.length_nil] at g |-;omega)).mono ?_;rintro e t ⟨rfl,a⟩;have k:Hid (Ae B b l (((([]:List UInt8)++Al kf 13)++[91])++kk.tx) w t):=j.out.put a rfl;clear a;have d:=Aa (c.out.kp k.out.kp hbe) 0;have f:=Aa (c.out.kp k.out.kp hbe) 2;go_wp2_with fail
  clear d f;refine(Aw B b _ t _ [⟨#[93]⟩] 1 [93] rfl rfl (by decide) (by simp[De]) k.out.1 (by have g:=p.out;simp only[List.length_append,List.length_cons,List.length_nil] at g |-;omega)).mono ?_;rintro e z ⟨rfl,a⟩;have x:Hid (Ae B b l ((((([]:List UInt8)++Al kf 13)++[91])++kk.tx)++[93]) w z):=k.out.put a rfl;clear a;go_wp2_with fail
  go_end0
  exact⟨rfl,by have h:=x.out;simpa using h⟩
 ·rw[A] at o;clear A;have d:=Aa (c.out.kp m.out.kp hbe) 0;have f:=Aa (c.out.kp m.out.kp hbe) 2;go_wp2_with (go_at_call 111;refine(o.out _).mono ?_;rintro e D ⟨rfl,a⟩;cases a)
  clear d f;refine(Aw B b _ y _ [⟨#[91]⟩] 1 [91] rfl rfl (by decide) (by simp[De]) m.out.1 (by have g:=p.out;simp only[List.length_append,List.length_cons,List.length_nil] at g |-;omega)).mono ?_;rintro e s ⟨rfl,a⟩;have j:Hid (Ae B b l ((([]:List UInt8)++Al kf 13)++[91]) w s):=m.out.put a rfl;clear a;have d:=Aa (c.out.kp j.out.kp hbe) 0;have f:=Aa (c.out.kp j.out.kp hbe) 2;go_wp2_with fail
  clear d f;refine(u.out B b _ s kk _ (q.out.kp j.out.kp) j.out.1 (by have g:=p.out;simp only[List.length_append,List.length_cons,List.length_nil] at g |-;omega)).mono ?_;rintro e t ⟨rfl,a⟩;have k:Hid (Ae B b l (((([]:List UInt8)++Al kf 13)++[91])++kk.tx) w t):=j.out.put a rfl;clear a;have d:=Aa (c.out.kp k.out.kp hbe) 0;have f:=Aa (c.out.kp k.out.kp hbe) 2;go_wp2_with fail
  clear d f;refine(Aw B b _ t _ [⟨#[93]⟩] 1 [93] rfl rfl (by decide) (by simp[De]) k.out.1 (by have g:=p.out;simp only[List.length_append,List.length_cons,List.length_nil] at g |-;omega)).mono ?_;rintro e z ⟨rfl,a⟩;have x:Hid (Ae B b l ((((([]:List UInt8)++Al kf 13)++[91])++kk.tx)++[93]) w z):=k.out.put a rfl;clear a;go_wp2_with fail
  go_end0
  exact⟨rfl,by have h:=x.out;simpa using h⟩
theorem Zq {n:Nat}(hW:WrE n)(B b xf xk:Nat)(l:List UInt8)(w:World)(kf kk:PX)(hf:Bt (·<B) w n kf (.pointer (some ⟨xf,0,none⟩)))(hk:Bt (·<B) w n kk (.pointer (some ⟨xk,0,none⟩)))(hB:Bld B b l w)
  (hlen:l.length+(dAt kf kk).tx.length<=140737488355328) :
  Calls Tryz.prog 80 #[.pointer (some ⟨b,0,none⟩),.pointer (some ⟨xf,0,none⟩),.pointer (some ⟨xk,0,none⟩)] w (Ax B b l (dAt kf kk).tx w):=by
 cases n with
 | zero=>exact absurd hk id
 | succ n =>
  obtain⟨u,c,p,h,i,a,q,f,d,t,e,k,m,v,r⟩:=id hk;obtain rfl:xk=u:=by simpa using e
  by_cases o:c=1
  ·subst o;have s:=jU r;cases j:Ff h.data.toList with
   | true =>
    have g:(dAt kf kk).tx=Al kf 13++46::h.data.toList:=by rw[s];simp[dAt,Fg,j]
    rw[g] at hlen |-;exact Zp hW B b xf xk 1 a f d l w p h i q kf kk hf hk m k hB rfl j hlen
   | false =>
    have g:(dAt kf kk).tx=Al kf 13++91::(kk.tx++[93]):=by simp only[dAt];rw[show kk.key=none from by rw[s];simp[Fg,j]]
    rw[g] at hlen |-;exact S3 hW B b xf xk 1 a f d l w p h i q kf kk hf hk m k hB (.inr ⟨rfl,j⟩) hlen
  ·have g:(dAt kf kk).tx=Al kf 13++91::(kk.tx++[93]):=by simp only[dAt];rw[gS r o]
   rw[g] at hlen |-;exact S3 hW B b xf xk c a f d l w p h i q kf kk hf hk m k hB (.inl o) hlen
theorem Oo {n:Nat}(hW:WrE n)(B b be sort at' len cap:Nat)(l:List UInt8)(w:World)(op nm:ByteArray)(i:Int)(pa:Option Addr)(ka:PX)(he:Ar w be sort op nm i at' pa len cap)(hbe:be<B)(hr:B8 (·<B) w (Bt (·<B) w n) pa len [ka])(hB:Bld B b l w)(q:Nat)(ho:C6 op.data.toList=q)(hq:q≠14)
  (hlen:l.length+(op.data.toList++32::Al ka q).length<=140737488355328) :
  Calls Tryz.prog 81 #[.pointer (some ⟨b,0,none⟩),.pointer (some ⟨be,0,none⟩)] w (Ax B b l (op.data.toList++32::Al ka q) w):=by
 have g:Hid (Ar w be sort op nm i at' pa len cap):=he;have D:Hid (WrE n):=hW;have J:Hid (Bld B b l w):=hB;have f:Hid (Ae B b l ([]:List UInt8) w w):=Ae.nil hB;have K:=follows;have v:Hid (l.length+(op.data.toList++32::Al ka q).length<=140737488355328):=hlen;obtain⟨rfl,x,t,s,r,F,I,y,z⟩:=mN hr;subst s;have j:Hid (Bt (·<B) w n _ _):=z;have d:Hid (∀W,Kp B b w W->W.cell? ⟨x,t,none⟩=some (.pointer (some ⟨I,0,none⟩))):=fun W k=>(World.cell?_of_block (w:=w) (k.1.block x r)).trans y;clear y z;clear he hW hB hr hlen;have C:Hid (Calls Tryz.prog 76 #[.string op] w fun e w'=>e=.returned (.int .i64 (q:Int))/\w'=w):=by have:=Fh op w;rw[ho] at this;exact this
 have G:((q:Int) != 14)=true:=by rw[bne_iff_ne];omega
 clear ho hq;go_enter Tryz.func81,Tryz.ntmps81
 have m:=Aa (g.out.kp f.out.kp hbe) 1;have o:=Aa (g.out.kp f.out.kp hbe) 5;have u:=d.out _ f.out.kp;go_wp2_with (go_at_call 76;refine C.out.mono ?_;rintro e L ⟨rfl,a⟩;cases a)
 clear m o u;refine(Aw B b _ w _ [op,⟨#[32]⟩] 2 (op.data.toList++[32]) rfl rfl (by decide) (by simp[De]) f.out.1 (by have p:=v.out;simp only[List.length_append,List.length_cons,List.length_nil] at p |-;omega)).mono ?_;rintro e A ⟨rfl,a⟩;have c:Hid (Ae B b l (([]:List UInt8)++(op.data.toList++[32])) w A):=f.out.put a rfl;clear a;have m:=Aa (g.out.kp c.out.kp hbe) 1;have o:=Aa (g.out.kp c.out.kp hbe) 5;have u:=d.out _ c.out.kp;go_wp2_with fail
 clear m o u;refine(Gb D.out B b _ A ka _ q (j.out.kp c.out.kp) c.out.1 (by have p:=v.out;simp only[List.length_append,List.length_cons,List.length_nil] at p |-;omega)).mono ?_;rintro e H ⟨rfl,a⟩;have E:Hid (Ae B b l ((([]:List UInt8)++(op.data.toList++[32]))++Al ka q) w H):=c.out.put a rfl;clear a;go_wp2_with fail
 refine bodyPost_ret (results_none rfl _ _ _) rfl ?_;exact⟨rfl,by have h:=E.out;simpa using h⟩
theorem Un {n:Nat}(hW:WrE n)(B b be sort at' len cap:Nat)(l:List UInt8)(w:World)(op nm:ByteArray)(i:Int)(pa:Option Addr)(kids:List PX)(he:Ar w be sort op nm i at' pa len cap)(hr:B8 (·<B) w (Bt (·<B) w n) pa len kids)(hB:Bld B b l w)(ho:C6 op.data.toList=14)
  (hlen:l.length+(Ef op.data.toList kids).tx.length<=140737488355328) :
  Calls Tryz.prog 81 #[.pointer (some ⟨b,0,none⟩),.pointer (some ⟨be,0,none⟩)] w (Ax B b l (Ef op.data.toList kids).tx w):=by
 have k:Hid (Calls Tryz.prog 76 #[.string op] w fun e w'=>e=.returned (.int .i64 14)/\w'=w):=by have:=Fh op w;rw[ho] at this;exact this
 have c:(op++⟨#[40]⟩:ByteArray).data.toList++(Cx kids++(⟨#[41]⟩:ByteArray).data.toList)=(Ef op.data.toList kids).tx:=by simp[Ef,ByteArray.data_append]
 have j:Hid (∀W,Ad w W->Calls Tryz.prog 44 #[.pointer (some ⟨b,0,none⟩),.string (op++⟨#[40]⟩),.slice pa len cap,.string ⟨#[41]⟩] W (Ax B b l (Ef op.data.toList kids).tx W)):=fun W hg=>by
  have:=Lb hW B b l W (op++⟨#[40]⟩) ⟨#[41]⟩ pa len cap kids (hr.kp (Kp.grew (b:=b) hg hB.low)) (hB.grew hg) (by rw[c];exact hlen);rw[c] at this;exact this
 have h:Hid (Bld B b l w):=hB;have f:Hid (Ar w be sort op nm i at' pa len cap):=he;have o:=Ac he;have g:op.size<=140737488355328:=by simp[Ef] at hlen;omega
 have d:op.size<=9223372036854775806:=by omega
 have q:=Aa he 1;have r:=Aa he 5;have u:=follows;clear he hr hB hlen hW c ho;go_enter Tryz.func81,Tryz.ntmps81
 go_wp2_with (go_at_call 76;refine k.out.mono ?_;rintro e v ⟨rfl,a⟩;cases a)
 have s:=Aa (f.out.of (P:=fun _=>True) (Fr.grew (Ad.refl w).drew) trivial) 1;have t:=Aa (f.out.of (P:=fun _=>True) (Fr.grew (Ad.refl w).drew) trivial) 5;go_region_with (go_at_call 44;refine(j.out _ (Ad.refl w).drew).mono ?_;rintro e p ⟨rfl,a⟩;have m:Hid (Ae B b l (Ef op.data.toList kids).tx w p):=⟨a.1,(Kp.grew (Ad.refl w).drew h.out.low).trans a.2⟩;clear a)
 all_goals go_wp2_with fail
 all_goals go_end0
 all_goals exact⟨rfl,m.out⟩
end Go.Proofs.YthcndopglfkmiaaGreatDoor.Sx
namespace Go.Proofs.YthcndopglfkmiaaGreatDoor.Sx
set_option maxRecDepth 100000
set_option maxHeartbeats 1000000
open Go.RowKit Go.Sort
attribute [local go_sem] K9
theorem Qn {n:Nat}(hW:WrE n)(B b be sort at' len cap:Nat)(l:List UInt8)(w:World)(op nm:ByteArray)(i:Int)(pa:Option Addr)(ka kb:PX)(he:Ar w be sort op nm i at' pa len cap)(hbe:be<B)(hr:B8 (·<B) w (Bt (·<B) w n) pa len [ka,kb])(hB:Bld B b l w)(hj:Ak op.data.toList≠0)
  (hlen:l.length+((B2 op.data.toList ka kb).tx).length<=140737488355328) :
  Calls Tryz.prog 47 #[.pointer (some ⟨b,0,none⟩),.pointer (some ⟨be,0,none⟩)] w (Ax B b l ((B2 op.data.toList ka kb).tx) w):=by
 have p:Hid (Ar w be sort op nm i at' pa len cap):=he;have HW:Hid (WrE n):=hW;have HB:Hid (Bld B b l w):=hB;have F:Hid (Ae B b l ([]:List UInt8) w w):=Ae.nil hB;have mo:=follows;have Q:Hid (l.length+((B2 op.data.toList ka kb).tx).length<=140737488355328):=hlen;obtain⟨rfl,q,c,a0,N,O,x0,q0,r0,x1,q1,r1⟩:=gQ hr;subst a0;have U:Hid (Bt (·<B) w n _ _):=r0;have f:Hid (∀W,Kp B b w W->W.cell? ⟨q,c,none⟩=some (.pointer (some ⟨x0,0,none⟩))):=fun W k=>(World.cell?_of_block (w:=w) (k.1.block q N)).trans q0;have V:Hid (Bt (·<B) w n _ _):=r1;have g:Hid (∀W,Kp B b w W->W.cell? ⟨q,c+1,none⟩=some (.pointer (some ⟨x1,0,none⟩))):=fun W k=>(World.cell?_of_block (w:=w) (k.1.block q N)).trans q1;clear q0 r0 q1 r1;clear he hW hB hr hlen;obtain⟨a,s⟩:∃a,Ak op.data.toList=a:=⟨_,rfl⟩;rw[s] at hj;have HJ:Hid (Calls Tryz.prog 78 #[.string op] w fun e w'=>e=.returned (.agg #[.int .i64 (a:Int),.int .i64 (Cv a:Int),.int .i64 (B7 a:Int)])/\Ad w w'):=by
  have:=H6 op w;rw[s] at this;unfold Kf at this;rw[if_neg hj] at this;exact this
 simp only[B2,s] at Q |-;have k0:((a:Int) != -1)=true:=by rw[bne_iff_ne];omega
 clear hj s;go_enter Tryz.func47,Tryz.ntmps47
 have Y:=Aa (p.out.kp F.out.kp hbe) 1;have c2:=Aa (p.out.kp F.out.kp hbe) 2;have K:=Aa (p.out.kp F.out.kp hbe) 5;have C:=f.out _ F.out.kp;have D:=g.out _ F.out.kp;go_wp2_with (go_at_call 78;refine HJ.out.mono ?_;rintro e A ⟨rfl,hg⟩;have S:Hid (Ad w A):=hg;clear hg)
 clear Y c2 K C D;have v:Hid (Ae B b l ([]:List UInt8) w (A.alloc (.cells #[.int .i64 (a:Int),.int .i64 (Cv a:Int),.int .i64 (B7 a:Int)] 143))):=F.out.grew (S.out.alloc _);have G:Hid ((A.alloc (.cells #[.int .i64 (a:Int),.int .i64 (Cv a:Int),.int .i64 (B7 a:Int)] 143)).heap[A.heap.size]?=some (.cells #[.int .i64 (a:Int),.int .i64 (Cv a:Int),.int .i64 (B7 a:Int)] 143 (0,0))):=Ag rfl;have Z:b<A.heap.size:=Nat.lt_of_lt_of_le HB.out.lt S.out.below.size;clear S HJ;generalize A.alloc (.cells #[.int .i64 (a:Int),.int .i64 (Cv a:Int),.int .i64 (B7 a:Int)] 143)=v0 at v G |-;obtain⟨d,M⟩:∃d,A.heap.size=d:=⟨_,rfl⟩;rw[M] at G Z |-;clear M;have z:d≠b:=by omega
 have K:=Aa (p.out.kp v.out.kp hbe) 5;have C:=f.out _ v.out.kp;have D:=g.out _ v.out.kp;have y:=Ac (p.out.kp v.out.kp hbe);have z1:=Aa G.out 1;have j:=Ac G.out;have m:q<v0.heap.size:=Nat.lt_of_lt_of_le O v.out.kp.1.size;have r:Hid (Ae B b l ([]:List UInt8) w v0.drew):=v.out.grew (Ad.refl _).drew;have H:Hid (v0.drew.heap[d]?=_):=((Fr.grew (P:=fun _=>True) (Ad.refl v0).drew).block d j trivial).trans G.out;go_wp2_with fail
 go_region_held3 (fun w'=>w'.cell? ⟨be,5,none⟩=some (.slice (some ⟨q,c,none⟩) 2 cap)/\w'.cell? ⟨q,c,none⟩=some (.pointer (some ⟨x0,0,none⟩))/\w'.cell? ⟨d,1,none⟩=some (.int .i64 (Cv a:Int))) (first|(refine⟨?_,?_,?_⟩<;>assumption)|go_keep)
   ((go_at_call 77;refine(Gb HW.out B b _ v0.drew ka _ (Cv a) (U.out.kp r.out.kp) r.out.1 (by have L:=Q.out;simp only[List.length_append,List.length_cons,List.length_nil] at L |-;omega)).mono ?_;rintro e R ⟨rfl,o⟩;have x:Hid (Ae B b l (([]:List UInt8)++Al ka (Cv a)) w R):=r.out.put o rfl;have J:Hid (R.heap[d]?=_):=o.kp.kept (by decide) H.out z;have j5:=Aa (p.out.kp x.out.kp hbe) 5;have jy:=f.out _ x.out.kp;have jg:=Aa J.out 1;clear o))
 clear y z1 j m r H j5 jy jg K C D;have Y:=Aa (p.out.kp x.out.kp hbe) 1;have C:=f.out _ x.out.kp;have D:=g.out _ x.out.kp;go_wp2_with fail
 clear Y C D;refine(Aw B b _ R _ [⟨#[32]⟩,op,⟨#[32]⟩] 3 ([32]++op.data.toList++[32]) rfl rfl (by decide) (by simp[De]) x.out.1 (by have L:=Q.out;simp only[List.length_append,List.length_cons,List.length_nil] at L |-;omega)).mono ?_;rintro e t ⟨rfl,o⟩;have I:Hid (Ae _ _ _ _ R t):=o;have E:Hid (Ae B b l ((([]:List UInt8)++Al ka (Cv a))++([32]++op.data.toList++[32])) w t):=x.out.put o rfl;clear o;have u:Hid (t.heap[d]?=_):=Kp.kept (Ae.kp I.out) (by decide) J.out z;have K:=Aa (p.out.kp E.out.kp hbe) 5;have C:=f.out _ E.out.kp;have D:=g.out _ E.out.kp;have y:=Ac (p.out.kp E.out.kp hbe);have z2:=Aa u.out 2;have j:=Ac u.out;have m:q<t.heap.size:=Nat.lt_of_lt_of_le O E.out.kp.1.size;have r:Hid (Ae B b l ((([]:List UInt8)++Al ka (Cv a))++([32]++op.data.toList++[32])) w t.drew):=E.out.grew (Ad.refl _).drew;have H:Hid (t.drew.heap[d]?=_):=((Fr.grew (P:=fun _=>True) (Ad.refl t).drew).block d j trivial).trans u.out;go_wp2_with fail
 go_region_held3 (fun w'=>w'.cell? ⟨be,5,none⟩=some (.slice (some ⟨q,c,none⟩) 2 cap)/\w'.cell? ⟨q,c+1,none⟩=some (.pointer (some ⟨x1,0,none⟩))/\w'.cell? ⟨d,2,none⟩=some (.int .i64 (B7 a:Int))) (first|(refine⟨?_,?_,?_⟩<;>assumption)|go_keep)
   ((go_at_call 77;refine(Gb HW.out B b _ t.drew kb _ (B7 a) (V.out.kp r.out.kp) r.out.1 (by have L:=Q.out;simp only[List.length_append,List.length_cons,List.length_nil] at L |-;omega)).mono ?_;rintro e v3 ⟨rfl,o⟩;have X:Hid (Ae B b l (((([]:List UInt8)++Al ka (Cv a))++([32]++op.data.toList++[32]))++Al kb (B7 a)) w v3):=r.out.put o rfl;have T:Hid (v3.heap[d]?=_):=o.kp.kept (by decide) H.out z;have j5:=Aa (p.out.kp X.out.kp hbe) 5;have jy:=g.out _ X.out.kp;have jg:=Aa T.out 2;clear o))
 clear y z2 j m r H j5 jy jg K C D;go_wp2_with fail
 refine bodyPost_ret (results_none rfl _ _ _) rfl ?_;exact⟨rfl,by have h:=X.out;simpa using h⟩
end Go.Proofs.YthcndopglfkmiaaGreatDoor.Sx
namespace Go.Proofs.YthcndopglfkmiaaGreatDoor.Sx
set_option maxRecDepth 100000
set_option maxHeartbeats 1000000
open Go.RowKit Go.Sort
attribute [local go_sem] K9
def Uo (x:PX):List UInt8:=[45]++Al x 12
theorem Nt {op:ByteArray}{l:List UInt8}(h:op.data.toList=l):op=⟨l.toArray⟩:=ByteArray.ext (by rw[<- h])
theorem Fu (op:ByteArray)(w:World)(h:Ak op.data.toList=0):Calls Tryz.prog 78 #[.string op] w fun e w'=>e=.returned (.agg #[.int .i64 (-1),.int .i64 0,.int .i64 0])/\Ad w w':=by
 have:=H6 op w;unfold Kf at this;rw[if_pos h] at this;exact this
theorem Rv {n:Nat}(hW:WrE n)(B b be sort at' len cap:Nat)(l:List UInt8)(w:World)(op nm:ByteArray)(i:Int)(pa:Option Addr)(kids:List PX)(he:Ar w be sort op nm i at' pa len cap)(hr:B8 (·<B) w (Bt (·<B) w n) pa len kids)(hB:Bld B b l w)(hop:op.data.toList=[115,101,116])
  (hlen:l.length+((Jo kids).tx).length<=140737488355328) :
  Calls Tryz.prog 47 #[.pointer (some ⟨b,0,none⟩),.pointer (some ⟨be,0,none⟩)] w (Ax B b l ((Jo kids).tx) w):=by
 obtain rfl:op=⟨#[115,101,116]⟩:=Nt hop;have a:Hid (Ar w be sort _ nm i at' pa len cap):=he;have p:Hid (WrE n):=hW;have r:Hid (Ae B b l ([]:List UInt8) w w):=Ae.nil hB;have m:Hid (l.length+((Jo kids).tx).length<=140737488355328):=hlen;have o:Hid (B8 (·<B) w (Bt (·<B) w n) pa len kids):=hr;have k:Hid (Calls _ _ _ _ _):=Fu ⟨#[115,101,116]⟩ w rfl;have z:=follows;clear he hW hB hr hlen hop;go_enter Tryz.func47,Tryz.ntmps47
 have u:=Aa a.out 1;have v:=Aa a.out 5;have f:Hid (∀w2:World,Ad w w2->Ae B b l ([]:List UInt8) w (w2.alloc (.cells #[.int .i64 (-1),.int .i64 0,.int .i64 0] 143))):=fun w2 hg=>r.out.grew (hg.alloc _);have s:=Ac a.out;go_wp2_with (go_at_call 78;refine k.out.mono ?_;rintro e w2 ⟨rfl,hg⟩;have c:Hid (Ae B b l ([]:List UInt8) w (w2.alloc (.cells #[.int .i64 (-1),.int .i64 0,.int .i64 0] 143))):=f.out w2 hg;have x:=Aa (a.out.of (P:=fun _=>True) (Fr.grew hg) trivial) 1;have y:=Aa (a.out.of (P:=fun _=>True) (Fr.grew hg) trivial) 5;have h:=Ac (a.out.of (P:=fun _=>True) (Fr.grew hg) trivial);clear hg)
 have g:(⟨#[123]⟩:ByteArray).data.toList++(Cx kids++(⟨#[125]⟩:ByteArray).data.toList)=(Jo kids).tx:=rfl;have d:=Lb p.out B b (l++[]) _ ⟨#[123]⟩ ⟨#[125]⟩ pa len cap kids (o.out.kp c.out.kp) c.out.1 (by rw[g,List.append_nil];exact m.out);rw[g] at d;refine d.mono ?_;rintro e t ⟨rfl,j⟩;have q:Hid (Ae B b l (Jo kids).tx w t):=c.out.put j rfl;clear j d g c;go_wp2_with fail
 go_end0
 exact⟨rfl,q.out⟩
theorem Rw {n:Nat}(hW:WrE n)(B b be sort at' len cap:Nat)(l:List UInt8)(w:World)(op nm:ByteArray)(i:Int)(pa:Option Addr)(kids:List PX)(he:Ar w be sort op nm i at' pa len cap)(hr:B8 (·<B) w (Bt (·<B) w n) pa len kids)(hB:Bld B b l w)(hop:op.data.toList=[115,101,113])
  (hlen:l.length+((Iz kids).tx).length<=140737488355328) :
  Calls Tryz.prog 47 #[.pointer (some ⟨b,0,none⟩),.pointer (some ⟨be,0,none⟩)] w (Ax B b l ((Iz kids).tx) w):=by
 obtain rfl:op=⟨#[115,101,113]⟩:=Nt hop;have a:Hid (Ar w be sort _ nm i at' pa len cap):=he;have p:Hid (WrE n):=hW;have r:Hid (Ae B b l ([]:List UInt8) w w):=Ae.nil hB;have m:Hid (l.length+((Iz kids).tx).length<=140737488355328):=hlen;have o:Hid (B8 (·<B) w (Bt (·<B) w n) pa len kids):=hr;have k:Hid (Calls _ _ _ _ _):=Fu ⟨#[115,101,113]⟩ w rfl;have z:=follows;clear he hW hB hr hlen hop;go_enter Tryz.func47,Tryz.ntmps47
 have u:=Aa a.out 1;have v:=Aa a.out 5;have f:Hid (∀w2:World,Ad w w2->Ae B b l ([]:List UInt8) w (w2.alloc (.cells #[.int .i64 (-1),.int .i64 0,.int .i64 0] 143))):=fun w2 hg=>r.out.grew (hg.alloc _);have s:=Ac a.out;go_wp2_with (go_at_call 78;refine k.out.mono ?_;rintro e w2 ⟨rfl,hg⟩;have c:Hid (Ae B b l ([]:List UInt8) w (w2.alloc (.cells #[.int .i64 (-1),.int .i64 0,.int .i64 0] 143))):=f.out w2 hg;have x:=Aa (a.out.of (P:=fun _=>True) (Fr.grew hg) trivial) 1;have y:=Aa (a.out.of (P:=fun _=>True) (Fr.grew hg) trivial) 5;have h:=Ac (a.out.of (P:=fun _=>True) (Fr.grew hg) trivial);clear hg)
 have g:(⟨#[60,60]⟩:ByteArray).data.toList++(Cx kids++(⟨#[62,62]⟩:ByteArray).data.toList)=(Iz kids).tx:=rfl;have d:=Lb p.out B b (l++[]) _ ⟨#[60,60]⟩ ⟨#[62,62]⟩ pa len cap kids (o.out.kp c.out.kp) c.out.1 (by rw[g,List.append_nil];exact m.out);rw[g] at d;refine d.mono ?_;rintro e t ⟨rfl,j⟩;have q:Hid (Ae B b l (Iz kids).tx w t):=c.out.put j rfl;clear j d g c;go_wp2_with fail
 go_end0
 exact⟨rfl,q.out⟩
theorem Rx {n:Nat}(hW:WrE n)(B b be sort at' len cap:Nat)(l:List UInt8)(w:World)(op nm:ByteArray)(i:Int)(pa:Option Addr)(kids:List PX)(he:Ar w be sort op nm i at' pa len cap)(hr:B8 (·<B) w (Bt (·<B) w n) pa len kids)(hB:Bld B b l w)(hop:op.data.toList=[102,117,110])
  (hlen:l.length+((Jh kids).tx).length<=140737488355328) :
  Calls Tryz.prog 47 #[.pointer (some ⟨b,0,none⟩),.pointer (some ⟨be,0,none⟩)] w (Ax B b l ((Jh kids).tx) w):=by
 obtain rfl:op=⟨#[102,117,110]⟩:=Nt hop;have a:Hid (Ar w be sort _ nm i at' pa len cap):=he;have m:Hid (WrE n):=hW;have p:Hid (Ae B b l ([]:List UInt8) w w):=Ae.nil hB;have j:Hid (l.length+((Jh kids).tx).length<=140737488355328):=hlen;have k:Hid (B8 (·<B) w (Bt (·<B) w n) pa len kids):=hr;have h:Hid (Calls _ _ _ _ _):=Fu ⟨#[102,117,110]⟩ w rfl;have x:=follows;clear he hW hB hr hlen hop;go_enter Tryz.func47,Tryz.ntmps47
 have s:=Aa a.out 1;have t:=Aa a.out 5;have d:Hid (∀w2:World,Ad w w2->Ae B b l ([]:List UInt8) w (w2.alloc (.cells #[.int .i64 (-1),.int .i64 0,.int .i64 0] 143))):=fun w2 hg=>p.out.grew (hg.alloc _);have q:=Ac a.out;go_wp2_with (go_at_call 78;refine h.out.mono ?_;rintro e w2 ⟨rfl,hg⟩;have c:Hid (Ae B b l ([]:List UInt8) w (w2.alloc (.cells #[.int .i64 (-1),.int .i64 0,.int .i64 0] 143))):=d.out w2 hg;have u:=Aa (a.out.of (P:=fun _=>True) (Fr.grew hg) trivial) 1;have v:=Aa (a.out.of (P:=fun _=>True) (Fr.grew hg) trivial) 5;have f:=Ac (a.out.of (P:=fun _=>True) (Fr.grew hg) trivial);clear hg)
 refine(Ru m.out B b (l++[]) _ pa len cap kids (k.out.kp c.out.kp) c.out.1 (by rw[List.append_nil];exact j.out)).mono ?_;rintro e r ⟨rfl,g⟩;have o:Hid (Ae B b l (Jh kids).tx w r):=c.out.put g rfl;clear g c;go_wp2_with fail
 go_end0
 exact⟨rfl,o.out⟩
theorem Ry {n:Nat}(hW:WrE n)(B b be sort at' len cap:Nat)(l:List UInt8)(w:World)(op nm:ByteArray)(i:Int)(pa:Option Addr)(ka kb kc:PX)(he:Ar w be sort op nm i at' pa len cap)(hbe:be<B)(hr:B8 (·<B) w (Bt (·<B) w n) pa len [ka,kb,kc])(hB:Bld B b l w)(hop:op.data.toList=[112,117,116])
  (hlen:l.length+((Gp ka kb kc).tx).length<=140737488355328) :
  Calls Tryz.prog 47 #[.pointer (some ⟨b,0,none⟩),.pointer (some ⟨be,0,none⟩)] w (Ax B b l ((Gp ka kb kc).tx) w):=by
 obtain rfl:op=⟨#[112,117,116]⟩:=Nt hop;have g:Hid (Ar w be sort _ nm i at' pa len cap):=he;have HJ:Hid (Calls _ _ _ _ _):=Fu ⟨#[112,117,116]⟩ w rfl;have I:Hid (WrE n):=hW;have H:Hid (Bld B b l w):=hB;have G:Hid (Ae B b l ([]:List UInt8) w w):=Ae.nil hB;have mo:=follows;have u:Hid (l.length+((Gp ka kb kc).tx).length<=140737488355328):=hlen;obtain⟨rfl,C,A,S,z,T,x0,Y,r0,x1,Z,r1,x2,q2,r2⟩:=mO hr;subst S;have J:Hid (Bt (·<B) w n _ _):=r0;have a:Hid (∀W,Kp B b w W->W.cell? ⟨C,A,none⟩=some (.pointer (some ⟨x0,0,none⟩))):=fun W k=>(World.cell?_of_block (w:=w) (k.1.block C z)).trans Y;have K:Hid (Bt (·<B) w n _ _):=r1;have c:Hid (∀W,Kp B b w W->W.cell? ⟨C,A+1,none⟩=some (.pointer (some ⟨x1,0,none⟩))):=fun W k=>(World.cell?_of_block (w:=w) (k.1.block C z)).trans Z;have L:Hid (Bt (·<B) w n _ _):=r2;have d:Hid (∀W,Kp B b w W->W.cell? ⟨C,A+2,none⟩=some (.pointer (some ⟨x2,0,none⟩))):=fun W k=>(World.cell?_of_block (w:=w) (k.1.block C z)).trans q2;clear Y r0 Z r1 q2 r2;clear he hW hB hr hlen hop;simp only[Gp] at u |-;go_enter Tryz.func47,Tryz.ntmps47
 have j:=Aa g.out 1;have m:=Aa g.out 5;have p:=a.out _ G.out.kp;have q:=c.out _ G.out.kp;have r:=d.out _ G.out.kp;have M:Hid (∀w2:World,Ad w w2->Ae B b l ([]:List UInt8) w (w2.alloc (.cells #[.int .i64 (-1),.int .i64 0,.int .i64 0] 143))):=fun w2 hg=>G.out.grew (hg.alloc _);have R:=Ac g.out;go_wp2_with (go_at_call 78;refine HJ.out.mono ?_;rintro e w2 ⟨rfl,hg⟩;have D:Hid (Ae B b l ([]:List UInt8) w (w2.alloc (.cells #[.int .i64 (-1),.int .i64 0,.int .i64 0] 143))):=M.out w2 hg;have g1:=Aa (g.out.of (P:=fun _=>True) (Fr.grew hg) trivial) 1;have g5:=Aa (g.out.of (P:=fun _=>True) (Fr.grew hg) trivial) 5;have E:=Ac (g.out.of (P:=fun _=>True) (Fr.grew hg) trivial);have N:=a.out _ (Kp.grew hg H.out.low);have U:=a.out _ D.out.kp;have O:=c.out _ (Kp.grew hg H.out.low);have V:=c.out _ D.out.kp;have Q:=d.out _ (Kp.grew hg H.out.low);have X:=d.out _ D.out.kp;have F:C<w2.heap.size:=Nat.lt_of_lt_of_le T hg.below.size;clear hg)
 clear j m p q r R g1 g5 E F N U O V Q X;refine(Gb I.out B b _ _ ka _ 13 (J.out.kp D.out.kp) D.out.1 (by have o:=u.out;simp only[List.length_append,List.length_cons,List.length_nil] at o |-;omega)).mono ?_;rintro e v1 ⟨rfl,f⟩;have v:Hid (Ae B b l (([]:List UInt8)++Al ka 13) w v1):=D.out.put f rfl;clear f;have j:=Aa (g.out.kp v.out.kp hbe) 1;have m:=Aa (g.out.kp v.out.kp hbe) 5;have p:=a.out _ v.out.kp;have q:=c.out _ v.out.kp;have r:=d.out _ v.out.kp;go_wp2_with fail
 clear j m p q r;refine(Aw B b _ v1 _ [⟨#[91]⟩] 1 [91] rfl rfl (by decide) (by simp[De]) v.out.1 (by have o:=u.out;simp only[List.length_append,List.length_cons,List.length_nil] at o |-;omega)).mono ?_;rintro e v2 ⟨rfl,f⟩;have s:Hid (Ae B b l ((([]:List UInt8)++Al ka 13)++[91]) w v2):=v.out.put f rfl;clear f;have j:=Aa (g.out.kp s.out.kp hbe) 1;have m:=Aa (g.out.kp s.out.kp hbe) 5;have p:=a.out _ s.out.kp;have q:=c.out _ s.out.kp;have r:=d.out _ s.out.kp;go_wp2_with fail
 clear j m p q r;refine(I.out B b _ v2 kb _ (K.out.kp s.out.kp) s.out.1 (by have o:=u.out;simp only[List.length_append,List.length_cons,List.length_nil] at o |-;omega)).mono ?_;rintro e v3 ⟨rfl,f⟩;have x:Hid (Ae B b l (((([]:List UInt8)++Al ka 13)++[91])++kb.tx) w v3):=s.out.put f rfl;clear f;have j:=Aa (g.out.kp x.out.kp hbe) 1;have m:=Aa (g.out.kp x.out.kp hbe) 5;have p:=a.out _ x.out.kp;have q:=c.out _ x.out.kp;have r:=d.out _ x.out.kp;go_wp2_with fail
 clear j m p q r;refine(Aw B b _ v3 _ [⟨#[32,58,61,32]⟩] 1 [32,58,61,32] rfl rfl (by decide) (by simp[De]) x.out.1 (by have o:=u.out;simp only[List.length_append,List.length_cons,List.length_nil] at o |-;omega)).mono ?_;rintro e v4 ⟨rfl,f⟩;have t:Hid (Ae B b l ((((([]:List UInt8)++Al ka 13)++[91])++kb.tx)++[32,58,61,32]) w v4):=x.out.put f rfl;clear f;have j:=Aa (g.out.kp t.out.kp hbe) 1;have m:=Aa (g.out.kp t.out.kp hbe) 5;have p:=a.out _ t.out.kp;have q:=c.out _ t.out.kp;have r:=d.out _ t.out.kp;go_wp2_with fail
 clear j m p q r;refine(I.out B b _ v4 kc _ (L.out.kp t.out.kp) t.out.1 (by have o:=u.out;simp only[List.length_append,List.length_cons,List.length_nil] at o |-;omega)).mono ?_;rintro e v5 ⟨rfl,f⟩;have y:Hid (Ae B b l (((((([]:List UInt8)++Al ka 13)++[91])++kb.tx)++[32,58,61,32])++kc.tx) w v5):=t.out.put f rfl;clear f;have j:=Aa (g.out.kp y.out.kp hbe) 1;have m:=Aa (g.out.kp y.out.kp hbe) 5;have p:=a.out _ y.out.kp;have q:=c.out _ y.out.kp;have r:=d.out _ y.out.kp;go_wp2_with fail
 clear j m p q r;refine(Aw B b _ v5 _ [⟨#[93]⟩] 1 [93] rfl rfl (by decide) (by simp[De]) y.out.1 (by have o:=u.out;simp only[List.length_append,List.length_cons,List.length_nil] at o |-;omega)).mono ?_;rintro e v6 ⟨rfl,f⟩;have V6:Hid (Ae B b l ((((((([]:List UInt8)++Al ka 13)++[91])++kb.tx)++[32,58,61,32])++kc.tx)++[93]) w v6):=y.out.put f rfl;clear f;go_wp2_with fail
 go_end0
 exact⟨rfl,by have h:=V6.out;simpa using h⟩
theorem Rz {n:Nat}(hW:WrE n)(B b be sort at' len cap:Nat)(l:List UInt8)(w:World)(op nm:ByteArray)(i:Int)(pa:Option Addr)(ka:PX)(he:Ar w be sort op nm i at' pa len cap)(hbe:be<B)(hr:B8 (·<B) w (Bt (·<B) w n) pa len [ka])(hB:Bld B b l w)(hop:op.data.toList=[110,101,103])
  (hlen:l.length+(Uo ka).length<=140737488355328) :
  Calls Tryz.prog 47 #[.pointer (some ⟨b,0,none⟩),.pointer (some ⟨be,0,none⟩)] w (Ax B b l (Uo ka) w):=by
 obtain rfl:op=⟨#[110,101,103]⟩:=Nt hop;have c:Hid (Ar w be sort _ nm i at' pa len cap):=he;have L:Hid (Calls _ _ _ _ _):=Fu ⟨#[110,101,103]⟩ w rfl;have M:Hid (WrE n):=hW;have K:Hid (Bld B b l w):=hB;have G:Hid (Ae B b l ([]:List UInt8) w w):=Ae.nil hB;have T:=follows;have p:Hid (l.length+(Uo ka).length<=140737488355328):=hlen;obtain⟨rfl,E,D,z,y,A,S,H,I⟩:=mN hr;subst z;have q:Hid (Bt (·<B) w n _ _):=I;have a:Hid (∀W,Kp B b w W->W.cell? ⟨E,D,none⟩=some (.pointer (some ⟨S,0,none⟩))):=fun W k=>(World.cell?_of_block (w:=w) (k.1.block E y)).trans H;clear H I;clear he hW hB hr hlen hop;simp only[Uo] at p |-;go_enter Tryz.func47,Tryz.ntmps47
 have s:=Aa c.out 1;have t:=Aa c.out 5;have F:=a.out _ G.out.kp;have r:Hid (∀w2:World,Ad w w2->Ae B b l ([]:List UInt8) w (w2.alloc (.cells #[.int .i64 (-1),.int .i64 0,.int .i64 0] 143))):=fun w2 hg=>G.out.grew (hg.alloc _);have x:=Ac c.out;go_wp2_with (go_at_call 78;refine L.out.mono ?_;rintro e w2 ⟨rfl,hg⟩;have o:Hid (Ae B b l ([]:List UInt8) w (w2.alloc (.cells #[.int .i64 (-1),.int .i64 0,.int .i64 0] 143))):=r.out w2 hg;have O:=Aa (c.out.of (P:=fun _=>True) (Fr.grew hg) trivial) 1;have Q:=Aa (c.out.of (P:=fun _=>True) (Fr.grew hg) trivial) 5;have f:=Ac (c.out.of (P:=fun _=>True) (Fr.grew hg) trivial);have u:=a.out _ (Kp.grew hg K.out.low);have C:=a.out _ o.out.kp;have g:E<w2.heap.size:=Nat.lt_of_lt_of_le A hg.below.size;clear hg)
 clear s t F x O Q f g u C;have j:(w2.alloc (.cells #[.int .i64 (-1),.int .i64 0,.int .i64 0] 143)).heap.size=w2.heap.size+1:=by simp
 rw[<- j];clear j;generalize w2.alloc (.cells #[.int .i64 (-1),.int .i64 0,.int .i64 0] 143)=v0 at o |-;refine(Aw B b _ v0 _ [⟨#[45]⟩] 1 [45] rfl rfl (by decide) (by simp[De]) o.out.1 (by have v:=p.out;simp only[List.length_append,List.length_cons,List.length_nil] at v |-;omega)).mono ?_;rintro e J ⟨rfl,m⟩;have d:Hid (Ae B b l (([]:List UInt8)++[45]) w J):=o.out.put m rfl;clear m;have s:=Aa (c.out.kp d.out.kp hbe) 1;have t:=Aa (c.out.kp d.out.kp hbe) 5;have F:=a.out _ d.out.kp;go_wp2_with fail
 clear s t F;refine(Gb M.out B b _ J ka _ 12 (q.out.kp d.out.kp) d.out.1 (by have v:=p.out;simp only[List.length_append,List.length_cons,List.length_nil] at v |-;omega)).mono ?_;rintro e R ⟨rfl,m⟩;have N:Hid (Ae B b l ((([]:List UInt8)++[45])++Al ka 12) w R):=d.out.put m rfl;clear m;go_wp2_with fail
 go_end0
 exact⟨rfl,by have h:=N.out;simpa using h⟩
theorem Uq {n:Nat}(hW:WrE n)(B b be sort at' len cap:Nat)(l:List UInt8)(w:World)(op nm:ByteArray)(i:Int)(pa:Option Addr)(ka kb:PX)(he:Ar w be sort op nm i at' pa len cap)(hbe:be<B)(hr:B8 (·<B) w (Bt (·<B) w n) pa len [ka,kb])(hB:Bld B b l w)(hop:op.data.toList=[97,116])
  (hlen:l.length+((dAt ka kb).tx).length<=140737488355328) :
  Calls Tryz.prog 47 #[.pointer (some ⟨b,0,none⟩),.pointer (some ⟨be,0,none⟩)] w (Ax B b l ((dAt ka kb).tx) w):=by
 obtain rfl:op=⟨#[97,116]⟩:=Nt hop;have f:Hid (Ar w be sort _ nm i at' pa len cap):=he;have S:Hid (Calls _ _ _ _ _):=Fu ⟨#[97,116]⟩ w rfl;have U:Hid (WrE n):=hW;have G:Hid (Bld B b l w):=hB;have v:Hid (Ae B b l ([]:List UInt8) w w):=Ae.nil hB;have mo:=follows;have T:Hid (l.length+((dAt ka kb).tx).length<=140737488355328):=hlen;obtain⟨rfl,h,d,A,m,o,E,L,N,F,M,O⟩:=gQ hr;subst A;have s:Hid (Bt (·<B) w n _ _):=N;have a:Hid (∀W,Kp B b w W->W.cell? ⟨h,d,none⟩=some (.pointer (some ⟨E,0,none⟩))):=fun W k=>(World.cell?_of_block (w:=w) (k.1.block h m)).trans L;have t:Hid (Bt (·<B) w n _ _):=O;have c:Hid (∀W,Kp B b w W->W.cell? ⟨h,d+1,none⟩=some (.pointer (some ⟨F,0,none⟩))):=fun W k=>(World.cell?_of_block (w:=w) (k.1.block h m)).trans M;clear L N M O;clear he hW hB hr hlen hop;go_enter Tryz.func47,Tryz.ntmps47
 have V:=Aa f.out 1;have H:=Aa f.out 5;have Q:=a.out _ v.out.kp;have R:=c.out _ v.out.kp;have u:Hid (∀w2:World,Ad w w2->Ae B b l ([]:List UInt8) w (w2.alloc (.cells #[.int .i64 (-1),.int .i64 0,.int .i64 0] 143))):=fun w2 hg=>v.out.grew (hg.alloc _);have z:=Ac f.out;go_wp2_with (go_at_call 78;refine S.out.mono ?_;rintro e w2 ⟨rfl,hg⟩;have g:Hid (Ae B b l ([]:List UInt8) w (w2.alloc (.cells #[.int .i64 (-1),.int .i64 0,.int .i64 0] 143))):=u.out w2 hg;have X:=Aa (f.out.of (P:=fun _=>True) (Fr.grew hg) trivial) 1;have Y:=Aa (f.out.of (P:=fun _=>True) (Fr.grew hg) trivial) 5;have j:=Ac (f.out.of (P:=fun _=>True) (Fr.grew hg) trivial);have x:=a.out _ (Kp.grew hg G.out.low);have C:=a.out _ g.out.kp;have y:=c.out _ (Kp.grew hg G.out.low);have D:=c.out _ g.out.kp;have p:h<w2.heap.size:=Nat.lt_of_lt_of_le o hg.below.size;clear hg)
 clear V H Q R z X Y j p x C y D;generalize w2.alloc (.cells #[.int .i64 (-1),.int .i64 0,.int .i64 0] 143)=v0 at g |-;have H:=Aa (f.out.kp g.out.kp hbe) 5;have Q:=a.out _ g.out.kp;have R:=c.out _ g.out.kp;have I:=Ac (f.out.kp g.out.kp hbe);have J:h<v0.heap.size:=Nat.lt_of_lt_of_le o g.out.kp.1.size;have r:Hid (Ae B b l ([]:List UInt8) w v0.drew):=g.out.grew (Ad.refl _).drew;go_region_held3 (fun w'=>w'.cell? ⟨be,5,none⟩=some (.slice (some ⟨h,d,none⟩) 2 cap)/\w'.cell? ⟨h,d,none⟩=some (.pointer (some ⟨E,0,none⟩))/\w'.cell? ⟨h,d+1,none⟩=some (.pointer (some ⟨F,0,none⟩))) (first|(refine⟨?_,?_,?_⟩<;>assumption)|go_keep)
   ((go_at_call 80;refine(Zq U.out B b E F (l++[]) v0.drew ka kb (s.out.kp r.out.kp) (t.out.kp r.out.kp) r.out.1 (by rw[List.append_nil];exact T.out)).mono ?_;rintro e v1 ⟨rfl,K⟩;have q:Hid (Ae B b l (dAt ka kb).tx w v1):=r.out.put K rfl;have j5:=Aa (f.out.kp q.out.kp hbe) 5;have Z:=a.out _ q.out.kp;have a0:=c.out _ q.out.kp;clear K))
 go_wp2_with fail
 go_end0
 exact⟨rfl,q.out⟩
end Go.Proofs.YthcndopglfkmiaaGreatDoor.Sx
namespace Go.Proofs.YthcndopglfkmiaaGreatDoor.Sx
set_option maxRecDepth 100000
set_option maxHeartbeats 1000000
open Go.RowKit Go.Sort
attribute [local go_sem] K9
def six:List (List UInt8):=[gE,gF,Ki,oAt,Za,Zb]
theorem Iq (B b be sort at' len cap:Nat)(l T:List UInt8)(w:World)(op nm:ByteArray)(i:Int)(pa:Option Addr)(he:Ar w be sort op nm i at' pa len cap)(hB:Bld B b l w)(h0:Ak op.data.toList=0)(h6:op.data.toList ∉ six)
  (hC:∀W,Kp B b w W->Bld B b (l++[]) W->Calls Tryz.prog 81 #[.pointer (some ⟨b,0,none⟩),.pointer (some ⟨be,0,none⟩)] W (Ax B b (l++[]) T W)) :
  Calls Tryz.prog 47 #[.pointer (some ⟨b,0,none⟩),.pointer (some ⟨be,0,none⟩)] w (Ax B b l T w):=by
 have f:Hid (Ar w be sort op nm i at' pa len cap):=he;have t:Hid (Ae B b l ([]:List UInt8) w w):=Ae.nil hB;have q:Hid (∀W,Kp B b w W->Bld B b (l++[]) W->_):=hC;have r:Hid (Calls _ _ _ _ _):=Fu op w h0;have a:op.toList=op.data.toList:=ByteArray.toList_eq op;simp only[six,List.mem_cons,List.not_mem_nil,or_false,not_or] at h6;obtain⟨j,k,m,n,o,p⟩:=h6;have A:(op.toList==[115,101,116])=false:=by rw[a];simpa [gE] using j
 have C:(op.toList==[115,101,113])=false:=by rw[a];simpa [gF] using k
 have D:(op.toList==[102,117,110])=false:=by rw[a];simpa [Ki] using m
 have E:(op.toList==[97,116])=false:=by rw[a];simpa [oAt] using n
 have F:(op.toList==[112,117,116])=false:=by rw[a];simpa [Za] using o
 have G:(op.toList==[110,101,103])=false:=by rw[a];simpa [Zb] using p
 have u:=Ac he;have y:=Aa he 1;have H:=follows;clear he hB h0 j k m n o p a hC;go_enter Tryz.func47,Tryz.ntmps47
 go_wp2_with (go_at_call 78;refine r.out.mono ?_;rintro e x ⟨rfl,d⟩;have c:Hid (Ae B b l ([]:List UInt8) w (x.alloc (.cells #[.int .i64 (-1),.int .i64 0,.int .i64 0] 143))):=t.out.grew (d.alloc _);have z:=Aa (f.out.of (P:=fun _=>True) (Fr.grew d) trivial) 1;have g:=Ac (f.out.of (P:=fun _=>True) (Fr.grew d) trivial);clear d)
 refine(q.out _ c.out.kp c.out.1).mono ?_;rintro e v ⟨rfl,h⟩;have s:Hid (Ae B b l T w v):=c.out.put h rfl;clear h c;go_wp2_with fail
 go_end0
 exact⟨rfl,s.out⟩
theorem Lz {op:List UInt8}(h:op∈En\/op∈Dq\/op∈Cs):Ak op=0/\op ∉ six:=by
 simp only[En,Dq,Cs,List.mem_cons,List.not_mem_nil,or_false] at h;rcases h with(rfl|rfl|rfl)|(rfl|rfl|rfl)|(rfl|rfl|rfl|rfl|rfl|rfl|rfl)<;>exact⟨by decide,by decide⟩
theorem Ww {op:List UInt8}{a:PX}{r:Nat}(h:op∈En\/op∈Dq):(Co r op a).tx=op++32::Al a r:=by
 have:op≠Lf:=by
  simp only[En,Dq,List.mem_cons,List.not_mem_nil,or_false] at h;rcases h with(rfl|rfl|rfl)|(rfl|rfl|rfl)<;>decide
 unfold Co;rw[if_neg this]
theorem Sa {n:Nat}(hW:WrE n)(B b be sort at' len cap:Nat)(l:List UInt8)(w:World)(op nm:ByteArray)(i:Int)(pa:Option Addr)(kids:List PX)(x:PX)(he:Ar w be sort op nm i at' pa len cap)(hbe:be<B)(hr:B8 (·<B) w (Bt (·<B) w n) pa len kids)(hB:Bld B b l w)(hm:Mt op.data.toList kids x)
  (hlen:l.length+x.tx.length<=140737488355328) :
  Calls Tryz.prog 47 #[.pointer (some ⟨b,0,none⟩),.pointer (some ⟨be,0,none⟩)] w (Ax B b l x.tx w):=by
 rcases hm with⟨m,o,p,rfl,rfl⟩|⟨c,rfl⟩|⟨c,rfl⟩|⟨c,rfl⟩|⟨c,f,k,rfl,rfl⟩|⟨c,f,k,v,rfl,rfl⟩|⟨c,a,rfl,rfl⟩|⟨c,a,rfl,rfl⟩|⟨c,a,rfl,rfl⟩|⟨c,rfl⟩
 ·have j:Ak op.data.toList≠0:=by
   simp only[E0,List.map_cons,List.map_nil,List.mem_cons,List.not_mem_nil,or_false] at m;rcases m with h|h|h|h|h|h|h|h|h|h|h|h|h|h|h|h|h|h|h|h|h|h|h|h|h<;>rw[h]<;>decide
  exact Qn hW B b be sort at' len cap l w op nm i pa o p he hbe hr hB j hlen
 ·exact Rv hW B b be sort at' len cap l w op nm i pa kids he hr hB c hlen
 ·exact Rw hW B b be sort at' len cap l w op nm i pa kids he hr hB c hlen
 ·exact Rx hW B b be sort at' len cap l w op nm i pa kids he hr hB c hlen
 ·exact Uq hW B b be sort at' len cap l w op nm i pa f k he hbe hr hB c hlen
 ·exact Ry hW B b be sort at' len cap l w op nm i pa f k v he hbe hr hB c hlen
 ·exact Rz hW B b be sort at' len cap l w op nm i pa a he hbe hr hB c hlen
 ·obtain⟨d,e⟩:=Lz (.inl c);have g:C6 op.data.toList=6:=by
   simp only[En,List.mem_cons,List.not_mem_nil,or_false] at c;rcases c with h|h|h<;>rw[h]<;>rfl
  rw[Ww (.inl c)] at hlen |-;exact Iq B b be sort at' len cap l _ w op nm i pa he hB d e fun W k hb=>Oo hW B b be sort at' len cap (l++[]) W op nm i pa a (he.kp k hbe) hbe (hr.kp k) hb 6 g (by decide) (by rw[List.append_nil];exact hlen)
 ·obtain⟨d,e⟩:=Lz (.inr (.inl c));have g:C6 op.data.toList=12:=by
   simp only[Dq,List.mem_cons,List.not_mem_nil,or_false] at c;rcases c with h|h|h<;>rw[h]<;>rfl
  rw[Ww (.inr c)] at hlen |-;exact Iq B b be sort at' len cap l _ w op nm i pa he hB d e fun W k hb=>Oo hW B b be sort at' len cap (l++[]) W op nm i pa a (he.kp k hbe) hbe (hr.kp k) hb 12 g (by decide) (by rw[List.append_nil];exact hlen)
 ·obtain⟨d,e⟩:=Lz (.inr (.inr c));have g:C6 op.data.toList=14:=by
   simp only[Cs,List.mem_cons,List.not_mem_nil,or_false] at c;rcases c with h|h|h|h|h|h|h<;>rw[h]<;>rfl
  exact Iq B b be sort at' len cap l _ w op nm i pa he hB d e fun W k hb=>Un hW B b be sort at' len cap (l++[]) W op nm i pa kids (he.kp k hbe) (hr.kp k) hb g (by rw[List.append_nil];exact hlen)
end Go.Proofs.YthcndopglfkmiaaGreatDoor.Sx
