/- The writer: operators: signs between two parts. -/
import Derived.Test.YtjbfcadeapphbaaGreatDoorE16
namespace Go.Proofs.YtjbfcadeapphbaaGreatDoor.Sx
set_option maxRecDepth 100000
set_option maxHeartbeats 1000000
open Go.RowKit Go.Sort
theorem Mr:∀l:List UInt8,decide (Bw l=l.length)=l.all Bf
 | []=>rfl
 | c::l=>by
  have:=Mr l;unfold Bw at this |-;cases h:Bf c with
  | true=>simp only[List.takeWhile_cons,h,if_true,List.length_cons,List.all_cons,Bool.true_and,Nat.add_right_cancel_iff];exact this
  | false=>simp[h]
theorem Qe {l:List UInt8}{c:UInt8}{r:List UInt8}(h:l=c::r):Dx l=(A2 c&&decide (l.length<=16)&&l.all Bf&&!Aq l):=by subst h;rfl
theorem Ms (s:ByteArray)(w:World):Calls Tryz.prog 104 #[.string s] w fun e w'=>e=.returned (.bool (Dx s.data.toList))/\w'=w:=by
 have A:=follows;have l:s.data.toList.length=s.size:=by simp
 have d:s.toList=s.data.toList:=ByteArray.toList_eq s;obtain⟨q,a⟩:∃q,Dx s.data.toList=q:=⟨_,rfl⟩;rw[a];have k:Hid (Dx s.data.toList=q):=a;clear a;by_cases v:s.size=0
 ·have t:s.data.toList=[]:=List.length_eq_zero_iff.1 (by omega);have z:s.toList=[]:=by rw[d,t]
  have a:=k.out;rw[t] at a;have j:q=false:=by rw[<- a];rfl
  subst j;clear a k t d l v;go_enter Tryz.func104,Tryz.ntmps104
  go_wp2_with fail
  go_ret
  exact⟨rfl,rfl⟩
 have u:¬s.toList=[]:=by rw[d];intro h;rw[h] at l;simp at l;omega
 by_cases m:s.size<=16
 case neg =>
  have n:¬(s.size:Int)<=16:=by omega
  have j:q=false:=by rw[<- k.out];unfold Dx;rw[show decide (s.data.toList.length<=16)=false from by simp;omega];simp
  subst j;clear k d l v m;go_enter Tryz.func104,Tryz.ntmps104
  go_wp2_with fail
  go_ret
  exact⟨rfl,rfl⟩
 have n:(s.size:Int)<=16:=by omega
 have x:0<s.size:=by omega
 have p:∃r,s.data.toList=s[0]::r:=by
  have:s.data.toList.drop 0=s.data.toList[0]'(by omega)::s.data.toList.drop 1:=List.drop_eq_getElem_cons (by omega);exact⟨_,this⟩
 obtain⟨B,p⟩:=p;have c:Hid (∀W:World,_):=fun W=>Jm s[0] W;have f:Hid (∀W:World,_):=fun W=>Pm s W (by omega);have i:Hid (∀W:World,_):=fun W=>J1 s W;have a:=k.out;rw[Qe p,<- Mr,show decide (s.data.toList.length<=16)=true from by simp;omega,l] at a;clear p k l d m;generalize A2 s[0]=b1 at c a;generalize Aq s.data.toList=b3 at i a;generalize Bw s.data.toList=rn at f a;cases b1 with
 | false =>
  obtain rfl:false=q:=by simpa using a
  clear a;go_enter Tryz.func104,Tryz.ntmps104
  go_wp2_with (go_at_call 120;refine(c.out _).mono ?_;rintro e g ⟨rfl,b⟩;cases b)
  go_ret
  exact⟨rfl,rfl⟩
 | true =>
  by_cases o:rn=s.size
  ·have y:((rn:Int)==(s.size:Int))=true:=by simp;omega
   rw[show decide (rn=s.size)=true from by simpa using o] at a;cases b3 with
   | false =>
    obtain rfl:true=q:=by simpa using a
    have t:s.toList.isEmpty=false:=by simpa using u
    clear a o;go_enter Tryz.func104,Tryz.ntmps104
    go_wp2_with (first|(go_at_call 120;refine(c.out _).mono ?_;rintro e g ⟨rfl,b⟩;cases b)|(go_at_call 121;refine(f.out _).mono ?_;rintro e g ⟨rfl,b⟩;cases b)|(go_at_call 113;refine(i.out _).mono ?_;rintro e g ⟨rfl,b⟩;cases b))
    go_ret
    exact⟨rfl,rfl⟩
   | true =>
    obtain rfl:false=q:=by simpa using a
    clear a o;go_enter Tryz.func104,Tryz.ntmps104
    go_wp2_with (first|(go_at_call 120;refine(c.out _).mono ?_;rintro e g ⟨rfl,b⟩;cases b)|(go_at_call 121;refine(f.out _).mono ?_;rintro e g ⟨rfl,b⟩;cases b)|(go_at_call 113;refine(i.out _).mono ?_;rintro e g ⟨rfl,b⟩;cases b))
    go_ret
    exact⟨rfl,rfl⟩
  ·have y:((rn:Int)==(s.size:Int))=false:=by simp;omega
   rw[show decide (rn=s.size)=false from by simpa using o] at a;obtain rfl:false=q:=by simpa using a
   clear a o;go_enter Tryz.func104,Tryz.ntmps104
   go_wp2_with (first|(go_at_call 120;refine(c.out _).mono ?_;rintro e g ⟨rfl,b⟩;cases b)|(go_at_call 121;refine(f.out _).mono ?_;rintro e g ⟨rfl,b⟩;cases b))
   go_ret
   exact⟨rfl,rfl⟩
theorem aN {sort:Nat}{op nm:List UInt8}{n:Int}{kids:List PX}{x:PX}(h:K6 sort op nm n kids x)(hs:sort≠1):x.key=none:=by
 rcases h with⟨rfl,-,-,rfl⟩|⟨rfl,rfl⟩|⟨rfl,rfl⟩|⟨rfl,rfl⟩|⟨rfl,rfl⟩|⟨rfl,rfl⟩|⟨rfl,rfl⟩|⟨rfl,rfl⟩|⟨rfl,a,b,c,rfl,rfl⟩|⟨rfl,a,b,rfl,rfl⟩|⟨rfl,d,a,b,rfl,rfl⟩|⟨-,e⟩
 case inr.inl=>exact absurd rfl hs
 case inr.inr.inr.inr.inr.inr.inr.inr.inr.inr.inl=>unfold Cc;split<;>rfl
 case inr.inr.inr.inr.inr.inr.inr.inr.inr.inr.inr =>
  rcases e with⟨g,a,b,rfl,rfl⟩|⟨rfl,rfl⟩|⟨rfl,rfl⟩|⟨rfl,rfl⟩|⟨rfl,f,k,rfl,rfl⟩|⟨rfl,f,k,v,rfl,rfl⟩|⟨rfl,a,rfl,rfl⟩|⟨d,a,rfl,rfl⟩|⟨d,a,rfl,rfl⟩|⟨d,rfl⟩<;>rfl
 all_goals rfl
theorem cG {op nm:List UInt8}{n:Int}{kids:List PX}{x:PX}(h:K6 1 op nm n kids x):x=Du nm:=by
 rcases h with⟨q,-⟩|⟨-,h⟩|⟨q,-⟩|⟨q,-⟩|⟨q,-⟩|⟨q,-⟩|⟨q,-⟩|⟨q,-⟩|⟨q,-⟩|⟨q,-⟩|⟨q,-⟩|⟨q,-⟩
 case inr.inl=>exact h
 all_goals omega
theorem Uq {n:Nat}(hW:WrE n)(B b xf be sort at' len cap:Nat)(l:List UInt8)(w:World)(op nm:ByteArray)(i:Int)(pa:Option Addr)(kf kk:PX)(hf:Bi (·<B) w n kf (.pointer (some ⟨xf,0,none⟩)))(hk:Bi (·<B) w n kk (.pointer (some ⟨be,0,none⟩)))(he:Ak w be sort op nm i at' pa len cap)(hbe:be<B)(hB:Bld B b l w)(hs:sort=1)(hn:Dx nm.data.toList=true)
  (hlen:l.length+(Ai kf 13++46::nm.data.toList).length<=140737488355328) :
  Calls Tryz.prog 69 #[.pointer (some ⟨b,0,none⟩),.pointer (some ⟨xf,0,none⟩),.pointer (some ⟨be,0,none⟩)] w (Ar B b l (Ai kf 13++46::nm.data.toList) w):=by
 have f:Hid (Ak w be sort op nm i at' pa len cap):=he;have r:Hid (WrE n):=hW;have d:Hid (Af B b l ([]:List UInt8) w w):=Af.nil hB;have p:Hid (l.length+(Ai kf 13++46::nm.data.toList).length<=140737488355328):=hlen;have j:Hid (Bi (·<B) w n _ _):=hf;have s:Hid (Bi (·<B) w n _ _):=hk;have c:Hid (∀W:World,_):=fun W=>Ms nm W;have v:=follows;clear he hW hB hlen hf hk;subst hs;rw[hn] at c;clear hn;go_enter Tryz.func69,Tryz.ntmps69
 have k:=Aa (f.out.kp d.out.kp hbe) 0;have m:=Aa (f.out.kp d.out.kp hbe) 2;go_wp2_with fail
 clear k m;refine(Eb r.out B b _ w kf _ 13 (j.out.kp d.out.kp) d.out.1 (by have o:=p.out;simp only[List.length_append,List.length_cons,List.length_nil] at o |-;omega)).mono ?_;rintro e q ⟨rfl,a⟩;have g:Hid (Af B b l (([]:List UInt8)++Ai kf 13) w q):=d.out.put a rfl;clear a;have k:=Aa (f.out.kp g.out.kp hbe) 0;have m:=Aa (f.out.kp g.out.kp hbe) 2;go_wp2_with (go_at_call 104;refine(c.out _).mono ?_;rintro e x ⟨rfl,a⟩;cases a)
 clear k m;refine(Ax B b _ q _ [⟨#[46]⟩,nm] 2 ([46]++nm.data.toList) rfl rfl (by decide) (by simp[Dc]) g.out.1 (by have o:=p.out;simp only[List.length_append,List.length_cons,List.length_nil] at o |-;omega)).mono ?_;rintro e u ⟨rfl,a⟩;have t:Hid (Af B b l ((([]:List UInt8)++Ai kf 13)++([46]++nm.data.toList)) w u):=g.out.put a rfl;clear a;go_wp2_with fail
 refine bodyPost_ret (results_none rfl _ _ _) rfl ?_;exact⟨rfl,by have h:=t.out;simpa using h⟩
theorem Op {n:Nat}(hW:WrE n)(B b xf be sort at' len cap:Nat)(l:List UInt8)(w:World)(op nm:ByteArray)(i:Int)(pa:Option Addr)(kf kk:PX)(hf:Bi (·<B) w n kf (.pointer (some ⟨xf,0,none⟩)))(hk:Bi (·<B) w n kk (.pointer (some ⟨be,0,none⟩)))(he:Ak w be sort op nm i at' pa len cap)(hbe:be<B)(hB:Bld B b l w)(hs:sort≠1\/sort=1/\Dx nm.data.toList=false)
  (hlen:l.length+(Ai kf 13++91::(kk.tx++[93])).length<=140737488355328) :
  Calls Tryz.prog 69 #[.pointer (some ⟨b,0,none⟩),.pointer (some ⟨xf,0,none⟩),.pointer (some ⟨be,0,none⟩)] w (Ar B b l (Ai kf 13++91::(kk.tx++[93])) w):=by
 have c:Hid (Ak w be sort op nm i at' pa len cap):=he;have u:Hid (WrE n):=hW;have r:Hid (Af B b l ([]:List UInt8) w w):=Af.nil hB;have p:Hid (l.length+(Ai kf 13++91::(kk.tx++[93])).length<=140737488355328):=hlen;have v:Hid (Bi (·<B) w n _ _):=hf;have q:Hid (Bi (·<B) w n _ _):=hk;have o:Hid (∀W:World,_):=fun W=>Ms nm W;have E:=follows;clear he hW hB hlen hf hk;go_enter Tryz.func69,Tryz.ntmps69
 have d:=Aa (c.out.kp r.out.kp hbe) 0;have f:=Aa (c.out.kp r.out.kp hbe) 2;go_wp2_with fail
 clear d f;refine(Eb u.out B b _ w kf _ 13 (v.out.kp r.out.kp) r.out.1 (by have g:=p.out;simp only[List.length_append,List.length_cons,List.length_nil] at g |-;omega)).mono ?_;rintro e y ⟨rfl,a⟩;have m:Hid (Af B b l (([]:List UInt8)++Ai kf 13) w y):=r.out.put a rfl;clear a;rcases hs with hs|⟨rfl,A⟩
 ·have C:((sort:Int)==1)=false:=by simp;omega
  clear hs;have d:=Aa (c.out.kp m.out.kp hbe) 0;have f:=Aa (c.out.kp m.out.kp hbe) 2;go_wp2_with (go_at_call 104;refine(o.out _).mono ?_;rintro e D ⟨rfl,a⟩;cases a)
  clear d f;refine(Ax B b _ y _ [⟨#[91]⟩] 1 [91] rfl rfl (by decide) (by simp[Dc]) m.out.1 (by have g:=p.out;simp only[List.length_append,List.length_cons,List.length_nil] at g |-;omega)).mono ?_;rintro e s ⟨rfl,a⟩;have j:Hid (Af B b l ((([]:List UInt8)++Ai kf 13)++[91]) w s):=m.out.put a rfl;clear a;have d:=Aa (c.out.kp j.out.kp hbe) 0;have f:=Aa (c.out.kp j.out.kp hbe) 2;go_wp2_with fail
  clear d f;refine(u.out B b _ s kk _ (q.out.kp j.out.kp) j.out.1 (by have g:=p.out;simp only[List.length_append,List.length_cons,List.length_nil] at g |-;omega)).mono ?_;rintro e t ⟨rfl,a⟩;have k:Hid (Af B b l (((([]:List UInt8)++Ai kf 13)++[91])++kk.tx) w t):=j.out.put a rfl;clear a;have d:=Aa (c.out.kp k.out.kp hbe) 0;have f:=Aa (c.out.kp k.out.kp hbe) 2;go_wp2_with fail
  clear d f;refine(Ax B b _ t _ [⟨#[93]⟩] 1 [93] rfl rfl (by decide) (by simp[Dc]) k.out.1 (by have g:=p.out;simp only[List.length_append,List.length_cons,List.length_nil] at g |-;omega)).mono ?_;rintro e z ⟨rfl,a⟩;have x:Hid (Af B b l ((((([]:List UInt8)++Ai kf 13)++[91])++kk.tx)++[93]) w z):=k.out.put a rfl;clear a;go_wp2_with fail
  go_end0
  exact⟨rfl,by have h:=x.out;simpa using h⟩
 ·rw[A] at o;clear A;have d:=Aa (c.out.kp m.out.kp hbe) 0;have f:=Aa (c.out.kp m.out.kp hbe) 2;go_wp2_with (go_at_call 104;refine(o.out _).mono ?_;rintro e D ⟨rfl,a⟩;cases a)
  clear d f;refine(Ax B b _ y _ [⟨#[91]⟩] 1 [91] rfl rfl (by decide) (by simp[Dc]) m.out.1 (by have g:=p.out;simp only[List.length_append,List.length_cons,List.length_nil] at g |-;omega)).mono ?_;rintro e s ⟨rfl,a⟩;have j:Hid (Af B b l ((([]:List UInt8)++Ai kf 13)++[91]) w s):=m.out.put a rfl;clear a;have d:=Aa (c.out.kp j.out.kp hbe) 0;have f:=Aa (c.out.kp j.out.kp hbe) 2;go_wp2_with fail
  clear d f;refine(u.out B b _ s kk _ (q.out.kp j.out.kp) j.out.1 (by have g:=p.out;simp only[List.length_append,List.length_cons,List.length_nil] at g |-;omega)).mono ?_;rintro e t ⟨rfl,a⟩;have k:Hid (Af B b l (((([]:List UInt8)++Ai kf 13)++[91])++kk.tx) w t):=j.out.put a rfl;clear a;have d:=Aa (c.out.kp k.out.kp hbe) 0;have f:=Aa (c.out.kp k.out.kp hbe) 2;go_wp2_with fail
  clear d f;refine(Ax B b _ t _ [⟨#[93]⟩] 1 [93] rfl rfl (by decide) (by simp[Dc]) k.out.1 (by have g:=p.out;simp only[List.length_append,List.length_cons,List.length_nil] at g |-;omega)).mono ?_;rintro e z ⟨rfl,a⟩;have x:Hid (Af B b l ((((([]:List UInt8)++Ai kf 13)++[91])++kk.tx)++[93]) w z):=k.out.put a rfl;clear a;go_wp2_with fail
  go_end0
  exact⟨rfl,by have h:=x.out;simpa using h⟩
theorem Ur {n:Nat}(hW:WrE n)(B b xf xk:Nat)(l:List UInt8)(w:World)(kf kk:PX)(hf:Bi (·<B) w n kf (.pointer (some ⟨xf,0,none⟩)))(hk:Bi (·<B) w n kk (.pointer (some ⟨xk,0,none⟩)))(hB:Bld B b l w)
  (hlen:l.length+(dAt kf kk).tx.length<=140737488355328) :
  Calls Tryz.prog 69 #[.pointer (some ⟨b,0,none⟩),.pointer (some ⟨xf,0,none⟩),.pointer (some ⟨xk,0,none⟩)] w (Ar B b l (dAt kf kk).tx w):=by
 cases n with
 | zero=>exact absurd hk id
 | succ n =>
  obtain⟨u,c,p,h,i,a,q,f,d,t,e,k,m,v,r⟩:=id hk;obtain rfl:xk=u:=by simpa using e
  by_cases o:c=1
  ·subst o;have s:=cG r;cases j:Dx h.data.toList with
   | true =>
    have g:(dAt kf kk).tx=Ai kf 13++46::h.data.toList:=by rw[s];simp[dAt,Du,j]
    rw[g] at hlen |-;exact Uq hW B b xf xk 1 a f d l w p h i q kf kk hf hk m k hB rfl j hlen
   | false =>
    have g:(dAt kf kk).tx=Ai kf 13++91::(kk.tx++[93]):=by simp only[dAt];rw[show kk.key=none from by rw[s];simp[Du,j]]
    rw[g] at hlen |-;exact Op hW B b xf xk 1 a f d l w p h i q kf kk hf hk m k hB (.inr ⟨rfl,j⟩) hlen
  ·have g:(dAt kf kk).tx=Ai kf 13++91::(kk.tx++[93]):=by simp only[dAt];rw[aN r o]
   rw[g] at hlen |-;exact Op hW B b xf xk c a f d l w p h i q kf kk hf hk m k hB (.inl o) hlen
theorem Le {n:Nat}(hW:WrE n)(B b be sort at' len cap:Nat)(l:List UInt8)(w:World)(op nm:ByteArray)(i:Int)(pa:Option Addr)(ka:PX)(he:Ak w be sort op nm i at' pa len cap)(hbe:be<B)(hr:Bh (·<B) w (Bi (·<B) w n) pa len [ka])(hB:Bld B b l w)(q:Nat)(ho:Ci op.data.toList=q)(hq:q≠14)
  (hlen:l.length+(op.data.toList++32::Ai ka q).length<=140737488355328) :
  Calls Tryz.prog 70 #[.pointer (some ⟨b,0,none⟩),.pointer (some ⟨be,0,none⟩)] w (Ar B b l (op.data.toList++32::Ai ka q) w):=by
 have g:Hid (Ak w be sort op nm i at' pa len cap):=he;have D:Hid (WrE n):=hW;have J:Hid (Bld B b l w):=hB;have f:Hid (Af B b l ([]:List UInt8) w w):=Af.nil hB;have K:=follows;have v:Hid (l.length+(op.data.toList++32::Ai ka q).length<=140737488355328):=hlen;obtain⟨rfl,x,t,s,r,F,I,y,z⟩:=eR hr;subst s;have j:Hid (Bi (·<B) w n _ _):=z;have d:Hid (∀W,Kp B b w W->W.cell? ⟨x,t,none⟩=some (.pointer (some ⟨I,0,none⟩))):=fun W k=>(World.cell?_of_block (w:=w) (k.1.block x r)).trans y;clear y z;clear he hW hB hr hlen;have C:Hid (Calls Tryz.prog 65 #[.string op] w fun e w'=>e=.returned (.int .i64 (q:Int))/\w'=w):=by have:=Dy op w;rw[ho] at this;exact this
 have G:((q:Int) != 14)=true:=by rw[bne_iff_ne];omega
 clear ho hq;go_enter Tryz.func70,Tryz.ntmps70
 have m:=Aa (g.out.kp f.out.kp hbe) 1;have o:=Aa (g.out.kp f.out.kp hbe) 5;have u:=d.out _ f.out.kp;go_wp2_with (go_at_call 65;refine C.out.mono ?_;rintro e L ⟨rfl,a⟩;cases a)
 clear m o u;refine(Ax B b _ w _ [op,⟨#[32]⟩] 2 (op.data.toList++[32]) rfl rfl (by decide) (by simp[Dc]) f.out.1 (by have p:=v.out;simp only[List.length_append,List.length_cons,List.length_nil] at p |-;omega)).mono ?_;rintro e A ⟨rfl,a⟩;have c:Hid (Af B b l (([]:List UInt8)++(op.data.toList++[32])) w A):=f.out.put a rfl;clear a;have m:=Aa (g.out.kp c.out.kp hbe) 1;have o:=Aa (g.out.kp c.out.kp hbe) 5;have u:=d.out _ c.out.kp;go_wp2_with fail
 clear m o u;refine(Eb D.out B b _ A ka _ q (j.out.kp c.out.kp) c.out.1 (by have p:=v.out;simp only[List.length_append,List.length_cons,List.length_nil] at p |-;omega)).mono ?_;rintro e H ⟨rfl,a⟩;have E:Hid (Af B b l ((([]:List UInt8)++(op.data.toList++[32]))++Ai ka q) w H):=c.out.put a rfl;clear a;go_wp2_with fail
 refine bodyPost_ret (results_none rfl _ _ _) rfl ?_;exact⟨rfl,by have h:=E.out;simpa using h⟩
theorem Qf {n:Nat}(hW:WrE n)(B b be sort at' len cap:Nat)(l:List UInt8)(w:World)(op nm:ByteArray)(i:Int)(pa:Option Addr)(kids:List PX)(he:Ak w be sort op nm i at' pa len cap)(hr:Bh (·<B) w (Bi (·<B) w n) pa len kids)(hB:Bld B b l w)(ho:Ci op.data.toList=14)
  (hlen:l.length+(C6 op.data.toList kids).tx.length<=140737488355328) :
  Calls Tryz.prog 70 #[.pointer (some ⟨b,0,none⟩),.pointer (some ⟨be,0,none⟩)] w (Ar B b l (C6 op.data.toList kids).tx w):=by
 have k:Hid (Calls Tryz.prog 65 #[.string op] w fun e w'=>e=.returned (.int .i64 14)/\w'=w):=by have:=Dy op w;rw[ho] at this;exact this
 have c:(op++⟨#[40]⟩:ByteArray).data.toList++(Cb kids++(⟨#[41]⟩:ByteArray).data.toList)=(C6 op.data.toList kids).tx:=by simp[C6,ByteArray.data_append]
 have j:Hid (∀W,Ad w W->Calls Tryz.prog 32 #[.pointer (some ⟨b,0,none⟩),.string (op++⟨#[40]⟩),.slice pa len cap,.string ⟨#[41]⟩] W (Ar B b l (C6 op.data.toList kids).tx W)):=fun W hg=>by
  have:=Ja hW B b l W (op++⟨#[40]⟩) ⟨#[41]⟩ pa len cap kids (hr.kp (Kp.grew (b:=b) hg hB.low)) (hB.grew hg) (by rw[c];exact hlen);rw[c] at this;exact this
 have h:Hid (Bld B b l w):=hB;have f:Hid (Ak w be sort op nm i at' pa len cap):=he;have o:=Ab he;have g:op.size<=140737488355328:=by simp[C6] at hlen;omega
 have d:op.size<=9223372036854775806:=by omega
 have q:=Aa he 1;have r:=Aa he 5;have u:=follows;clear he hr hB hlen hW c ho;go_enter Tryz.func70,Tryz.ntmps70
 go_wp2_with (go_at_call 65;refine k.out.mono ?_;rintro e v ⟨rfl,a⟩;cases a)
 have s:=Aa (f.out.of (P:=fun _=>True) (Fr.grew (Ad.refl w).drew) trivial) 1;have t:=Aa (f.out.of (P:=fun _=>True) (Fr.grew (Ad.refl w).drew) trivial) 5;go_region_with (go_at_call 32;refine(j.out _ (Ad.refl w).drew).mono ?_;rintro e p ⟨rfl,a⟩;have m:Hid (Af B b l (C6 op.data.toList kids).tx w p):=⟨a.1,(Kp.grew (Ad.refl w).drew h.out.low).trans a.2⟩;clear a)
 all_goals go_wp2_with fail
 all_goals go_end0
 all_goals exact⟨rfl,m.out⟩
end Go.Proofs.YtjbfcadeapphbaaGreatDoor.Sx
namespace Go.Proofs.YtjbfcadeapphbaaGreatDoor.Sx
set_option maxRecDepth 100000
set_option maxHeartbeats 1000000
open Go.RowKit Go.Sort
attribute [local go_sem] I9
theorem Mt {n:Nat}(hW:WrE n)(B b be sort at' len cap:Nat)(l:List UInt8)(w:World)(op nm:ByteArray)(i:Int)(pa:Option Addr)(ka kb:PX)(he:Ak w be sort op nm i at' pa len cap)(hbe:be<B)(hr:Bh (·<B) w (Bi (·<B) w n) pa len [ka,kb])(hB:Bld B b l w)(hj:Ah op.data.toList≠0)
  (hlen:l.length+((Bl op.data.toList ka kb).tx).length<=140737488355328) :
  Calls Tryz.prog 35 #[.pointer (some ⟨b,0,none⟩),.pointer (some ⟨be,0,none⟩)] w (Ar B b l ((Bl op.data.toList ka kb).tx) w):=by
 have p:Hid (Ak w be sort op nm i at' pa len cap):=he;have HW:Hid (WrE n):=hW;have HB:Hid (Bld B b l w):=hB;have F:Hid (Af B b l ([]:List UInt8) w w):=Af.nil hB;have mo:=follows;have Q:Hid (l.length+((Bl op.data.toList ka kb).tx).length<=140737488355328):=hlen;obtain⟨rfl,q,c,a0,N,O,x0,q0,r0,x1,q1,r1⟩:=aL hr;subst a0;have U:Hid (Bi (·<B) w n _ _):=r0;have f:Hid (∀W,Kp B b w W->W.cell? ⟨q,c,none⟩=some (.pointer (some ⟨x0,0,none⟩))):=fun W k=>(World.cell?_of_block (w:=w) (k.1.block q N)).trans q0;have V:Hid (Bi (·<B) w n _ _):=r1;have g:Hid (∀W,Kp B b w W->W.cell? ⟨q,c+1,none⟩=some (.pointer (some ⟨x1,0,none⟩))):=fun W k=>(World.cell?_of_block (w:=w) (k.1.block q N)).trans q1;clear q0 r0 q1 r1;clear he hW hB hr hlen;obtain⟨a,s⟩:∃a,Ah op.data.toList=a:=⟨_,rfl⟩;rw[s] at hj;have HJ:Hid (Calls Tryz.prog 67 #[.string op] w fun e w'=>e=.returned (.agg #[.int .i64 (a:Int),.int .i64 (Ca a:Int),.int .i64 (Bm a:Int)])/\Ad w w'):=by
  have:=Ga op w;rw[s] at this;unfold Ic at this;rw[if_neg hj] at this;exact this
 simp only[Bl,s] at Q |-;have k0:((a:Int) != -1)=true:=by rw[bne_iff_ne];omega
 clear hj s;go_enter Tryz.func35,Tryz.ntmps35
 have Y:=Aa (p.out.kp F.out.kp hbe) 1;have c2:=Aa (p.out.kp F.out.kp hbe) 2;have K:=Aa (p.out.kp F.out.kp hbe) 5;have C:=f.out _ F.out.kp;have D:=g.out _ F.out.kp;go_wp2_with (go_at_call 67;refine HJ.out.mono ?_;rintro e A ⟨rfl,hg⟩;have S:Hid (Ad w A):=hg;clear hg)
 clear Y c2 K C D;have v:Hid (Af B b l ([]:List UInt8) w (A.alloc (.cells #[.int .i64 (a:Int),.int .i64 (Ca a:Int),.int .i64 (Bm a:Int)] 130))):=F.out.grew (S.out.alloc _);have G:Hid ((A.alloc (.cells #[.int .i64 (a:Int),.int .i64 (Ca a:Int),.int .i64 (Bm a:Int)] 130)).heap[A.heap.size]?=some (.cells #[.int .i64 (a:Int),.int .i64 (Ca a:Int),.int .i64 (Bm a:Int)] 130 (0,0))):=Al rfl;have Z:b<A.heap.size:=Nat.lt_of_lt_of_le HB.out.lt S.out.below.size;clear S HJ;generalize A.alloc (.cells #[.int .i64 (a:Int),.int .i64 (Ca a:Int),.int .i64 (Bm a:Int)] 130)=v0 at v G |-;obtain⟨d,M⟩:∃d,A.heap.size=d:=⟨_,rfl⟩;rw[M] at G Z |-;clear M;have z:d≠b:=by omega
 have K:=Aa (p.out.kp v.out.kp hbe) 5;have C:=f.out _ v.out.kp;have D:=g.out _ v.out.kp;have y:=Ab (p.out.kp v.out.kp hbe);have z1:=Aa G.out 1;have j:=Ab G.out;have m:q<v0.heap.size:=Nat.lt_of_lt_of_le O v.out.kp.1.size;have r:Hid (Af B b l ([]:List UInt8) w v0.drew):=v.out.grew (Ad.refl _).drew;have H:Hid (v0.drew.heap[d]?=_):=((Fr.grew (P:=fun _=>True) (Ad.refl v0).drew).block d j trivial).trans G.out;go_wp2_with fail
 go_region_held3 (fun w'=>w'.cell? ⟨be,5,none⟩=some (.slice (some ⟨q,c,none⟩) 2 cap)/\w'.cell? ⟨q,c,none⟩=some (.pointer (some ⟨x0,0,none⟩))/\w'.cell? ⟨d,1,none⟩=some (.int .i64 (Ca a:Int))) (first|(refine⟨?_,?_,?_⟩<;>assumption)|go_keep)
   ((go_at_call 66;refine(Eb HW.out B b _ v0.drew ka _ (Ca a) (U.out.kp r.out.kp) r.out.1 (by have L:=Q.out;simp only[List.length_append,List.length_cons,List.length_nil] at L |-;omega)).mono ?_;rintro e R ⟨rfl,o⟩;have x:Hid (Af B b l (([]:List UInt8)++Ai ka (Ca a)) w R):=r.out.put o rfl;have J:Hid (R.heap[d]?=_):=o.kp.kept (by decide) H.out z;have j5:=Aa (p.out.kp x.out.kp hbe) 5;have jy:=f.out _ x.out.kp;have jg:=Aa J.out 1;clear o))
 clear y z1 j m r H j5 jy jg K C D;have Y:=Aa (p.out.kp x.out.kp hbe) 1;have C:=f.out _ x.out.kp;have D:=g.out _ x.out.kp;go_wp2_with fail
 clear Y C D;refine(Ax B b _ R _ [⟨#[32]⟩,op,⟨#[32]⟩] 3 ([32]++op.data.toList++[32]) rfl rfl (by decide) (by simp[Dc]) x.out.1 (by have L:=Q.out;simp only[List.length_append,List.length_cons,List.length_nil] at L |-;omega)).mono ?_;rintro e t ⟨rfl,o⟩;have I:Hid (Af _ _ _ _ R t):=o;have E:Hid (Af B b l ((([]:List UInt8)++Ai ka (Ca a))++([32]++op.data.toList++[32])) w t):=x.out.put o rfl;clear o;have u:Hid (t.heap[d]?=_):=Kp.kept (Af.kp I.out) (by decide) J.out z;have K:=Aa (p.out.kp E.out.kp hbe) 5;have C:=f.out _ E.out.kp;have D:=g.out _ E.out.kp;have y:=Ab (p.out.kp E.out.kp hbe);have z2:=Aa u.out 2;have j:=Ab u.out;have m:q<t.heap.size:=Nat.lt_of_lt_of_le O E.out.kp.1.size;have r:Hid (Af B b l ((([]:List UInt8)++Ai ka (Ca a))++([32]++op.data.toList++[32])) w t.drew):=E.out.grew (Ad.refl _).drew;have H:Hid (t.drew.heap[d]?=_):=((Fr.grew (P:=fun _=>True) (Ad.refl t).drew).block d j trivial).trans u.out;go_wp2_with fail
 go_region_held3 (fun w'=>w'.cell? ⟨be,5,none⟩=some (.slice (some ⟨q,c,none⟩) 2 cap)/\w'.cell? ⟨q,c+1,none⟩=some (.pointer (some ⟨x1,0,none⟩))/\w'.cell? ⟨d,2,none⟩=some (.int .i64 (Bm a:Int))) (first|(refine⟨?_,?_,?_⟩<;>assumption)|go_keep)
   ((go_at_call 66;refine(Eb HW.out B b _ t.drew kb _ (Bm a) (V.out.kp r.out.kp) r.out.1 (by have L:=Q.out;simp only[List.length_append,List.length_cons,List.length_nil] at L |-;omega)).mono ?_;rintro e v3 ⟨rfl,o⟩;have X:Hid (Af B b l (((([]:List UInt8)++Ai ka (Ca a))++([32]++op.data.toList++[32]))++Ai kb (Bm a)) w v3):=r.out.put o rfl;have T:Hid (v3.heap[d]?=_):=o.kp.kept (by decide) H.out z;have j5:=Aa (p.out.kp X.out.kp hbe) 5;have jy:=g.out _ X.out.kp;have jg:=Aa T.out 2;clear o))
 clear y z2 j m r H j5 jy jg K C D;go_wp2_with fail
 refine bodyPost_ret (results_none rfl _ _ _) rfl ?_;exact⟨rfl,by have h:=X.out;simpa using h⟩
end Go.Proofs.YtjbfcadeapphbaaGreatDoor.Sx
