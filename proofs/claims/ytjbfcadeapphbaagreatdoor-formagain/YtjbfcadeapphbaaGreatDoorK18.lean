/- The writer: what stands behind a part; words ahead of one. -/
import Derived.Test.YtjbfcadeapphbaaGreatDoorK17
import Derived.Deep.RegionHeld3
namespace Go.Proofs.YtjbfcadeapphbaaGreatDoor.Sx
set_option maxRecDepth 100000
set_option maxHeartbeats 1000000
open Go.RowKit Go.Sort
theorem Xr {n:Nat}(hW:WrE n)(B b be sort at' len cap:Nat)(l:List UInt8)(w:World)(op nm:ByteArray)(i:Int)(pa:Option Addr)(ka kb:PX)(he:Ao w be sort op nm i at' pa len cap)(hbe:be<B)(hr:Ca (·<B) w (A7 (·<B) w n) pa len [ka,kb])(hB:Bld B b l w)(ho:Bd op.data.toList=0)
  (hlen:l.length+(En op.data.toList nm.data.toList ka kb).length<=140737488355328) :
  Calls Tryz.prog 34 #[.pointer (some ⟨b,0,none⟩),.pointer (some ⟨be,0,none⟩)] w (Av B b l (En op.data.toList nm.data.toList ka kb) w):=by
 have a:Hid (Ao w be sort op nm i at' pa len cap):=he;have G:Hid (WrE n):=hW;have X:Hid (Bld B b l w):=hB;have d:Hid (Ad B b l ([]:List UInt8) w w):=Ad.nil hB;have Y:=follows;have v:Hid (l.length+(En op.data.toList nm.data.toList ka kb).length<=140737488355328):=hlen;obtain⟨rfl,z,y,F,x,Q,U,H,J,V,I,K⟩:=dT hr;subst F;have A:Hid (A7 (·<B) w n _ _):=J;have f:Hid (∀W,Kp B b w W->W.cell? ⟨z,y,none⟩=some (.pointer (some ⟨U,0,none⟩))):=fun W k=>(World.cell?_of_block (w:=w) (k.1.block z x)).trans H;have C:Hid (A7 (·<B) w n _ _):=K;have g:Hid (∀W,Kp B b w W->W.cell? ⟨z,y+1,none⟩=some (.pointer (some ⟨V,0,none⟩))):=fun W k=>(World.cell?_of_block (w:=w) (k.1.block z x)).trans I;clear H J I K;clear he hW hB hr hlen;have O:Hid (Calls Tryz.prog 65 #[.string op] w fun e w'=>e=.returned (.int .i64 0)/\w'=w):=by have:=Er op w;rw[ho] at this;exact this
 clear ho;simp only[En] at v |-;go_enter Tryz.func34,Tryz.ntmps34
 have m:=Aa (a.out.kp d.out.kp hbe) 1;have o:=Aa (a.out.kp d.out.kp hbe) 2;have p:=Aa (a.out.kp d.out.kp hbe) 5;have q:=f.out _ d.out.kp;have r:=g.out _ d.out.kp;go_wp2_with (go_at_call 65;refine O.out.mono ?_;rintro e Z ⟨rfl,c⟩;cases c)
 clear m o p q r;have m:=Aa (a.out.kp d.out.kp hbe) 1;have o:=Aa (a.out.kp d.out.kp hbe) 2;have p:=Aa (a.out.kp d.out.kp hbe) 5;have q:=f.out _ d.out.kp;have r:=g.out _ d.out.kp;have E:=Ab (a.out.kp d.out.kp hbe);have D:Hid (Ad B b l ([]:List UInt8) w w.drew):=d.out.grew (Ag.refl _).drew;go_wp2_with fail
 go_region_held3 (fun w'=>w'.cell? ⟨be,1,none⟩=some (.string op)/\w'.cell? ⟨be,2,none⟩=some (.string nm)) (first|(constructor<;>assumption)|assumption|go_keep)
   ((go_at_call 30;refine(Ar B b _ w.drew _ [op,⟨#[32]⟩,nm,⟨#[32,105,110,32]⟩] 4 (op.data.toList++[32]++nm.data.toList++[32,105,110,32]) rfl rfl (by decide) (by simp[Cs]) D.out.1 (by have u:=v.out;simp only[List.length_append,List.length_cons,List.length_nil] at u |-;omega)).mono ?_;rintro e L ⟨rfl,c⟩;have j:Hid (Ad B b l (([]:List UInt8)++(op.data.toList++[32]++nm.data.toList++[32,105,110,32])) w L):=D.out.put c rfl;have R:=Aa (a.out.kp j.out.kp hbe) 1;have S:=Aa (a.out.kp j.out.kp hbe) 2;clear c))
 clear E D R S m o p q r;have m:=Aa (a.out.kp j.out.kp hbe) 1;have o:=Aa (a.out.kp j.out.kp hbe) 2;have p:=Aa (a.out.kp j.out.kp hbe) 5;have q:=f.out _ j.out.kp;have r:=g.out _ j.out.kp;go_wp2_with fail
 clear m o p q r;refine(Fv G.out B b _ L ka _ 8 (A.out.kp j.out.kp) j.out.1 (by have u:=v.out;simp only[List.length_append,List.length_cons,List.length_nil] at u |-;omega)).mono ?_;rintro e M ⟨rfl,c⟩;have t:Hid (Ad B b l ((([]:List UInt8)++(op.data.toList++[32]++nm.data.toList++[32,105,110,32]))++A9 ka 8) w M):=j.out.put c rfl;clear c;have m:=Aa (a.out.kp t.out.kp hbe) 1;have o:=Aa (a.out.kp t.out.kp hbe) 2;have p:=Aa (a.out.kp t.out.kp hbe) 5;have q:=f.out _ t.out.kp;have r:=g.out _ t.out.kp;go_wp2_with fail
 clear m o p q r;refine(Ar B b _ M _ [⟨#[32,58,32]⟩] 1 [32,58,32] rfl rfl (by decide) (by simp[Cs]) t.out.1 (by have u:=v.out;simp only[List.length_append,List.length_cons,List.length_nil] at u |-;omega)).mono ?_;rintro e N ⟨rfl,c⟩;have s:Hid (Ad B b l (((([]:List UInt8)++(op.data.toList++[32]++nm.data.toList++[32,105,110,32]))++A9 ka 8)++[32,58,32]) w N):=t.out.put c rfl;clear c;have m:=Aa (a.out.kp s.out.kp hbe) 1;have o:=Aa (a.out.kp s.out.kp hbe) 2;have p:=Aa (a.out.kp s.out.kp hbe) 5;have q:=f.out _ s.out.kp;have r:=g.out _ s.out.kp;go_wp2_with fail
 clear m o p q r;refine(G.out B b _ N kb _ (C.out.kp s.out.kp) s.out.1 (by have u:=v.out;simp only[List.length_append,List.length_cons,List.length_nil] at u |-;omega)).mono ?_;rintro e T ⟨rfl,c⟩;have P:Hid (Ad B b l ((((([]:List UInt8)++(op.data.toList++[32]++nm.data.toList++[32,105,110,32]))++A9 ka 8)++[32,58,32])++kb.tx) w T):=s.out.put c rfl;clear c;go_wp2_with fail
 go_end0
 exact⟨rfl,by have h:=P.out;simpa using h⟩
theorem dU {n:Nat}(hW:WrE n)(B b be sort at' len cap:Nat)(l:List UInt8)(w:World)(op nm:ByteArray)(i:Int)(pa:Option Addr)(ka kb:PX)(he:Ao w be sort op nm i at' pa len cap)(hbe:be<B)(hr:Ca (·<B) w (A7 (·<B) w n) pa len [ka,kb])(hB:Bld B b l w)(ho:Bd op.data.toList=14)
  (hlen:l.length+(123::(En op.data.toList nm.data.toList ka kb++[125])).length<=140737488355328) :
  Calls Tryz.prog 34 #[.pointer (some ⟨b,0,none⟩),.pointer (some ⟨be,0,none⟩)] w (Av B b l (123::(En op.data.toList nm.data.toList ka kb++[125])) w):=by
 have a:Hid (Ao w be sort op nm i at' pa len cap):=he;have J:Hid (WrE n):=hW;have HB:Hid (Bld B b l w):=hB;have y:Hid (Ad B b l ([]:List UInt8) w w):=Ad.nil hB;have mo:=follows;have t:Hid (l.length+(123::(En op.data.toList nm.data.toList ka kb++[125])).length<=140737488355328):=hlen;obtain⟨rfl,C,A,H,z,U,Z,K,M,x1,L,N⟩:=dT hr;subst H;have D:Hid (A7 (·<B) w n _ _):=M;have d:Hid (∀W,Kp B b w W->W.cell? ⟨C,A,none⟩=some (.pointer (some ⟨Z,0,none⟩))):=fun W k=>(World.cell?_of_block (w:=w) (k.1.block C z)).trans K;have E:Hid (A7 (·<B) w n _ _):=N;have f:Hid (∀W,Kp B b w W->W.cell? ⟨C,A+1,none⟩=some (.pointer (some ⟨x1,0,none⟩))):=fun W k=>(World.cell?_of_block (w:=w) (k.1.block C z)).trans L;clear K M L N;clear he hW hB hr hlen;have S:Hid (Calls Tryz.prog 65 #[.string op] w fun e w'=>e=.returned (.int .i64 14)/\w'=w):=by have:=Er op w;rw[ho] at this;exact this
 clear ho;simp only[En] at t |-;go_enter Tryz.func34,Tryz.ntmps34
 have g:=Aa (a.out.kp y.out.kp hbe) 1;have j:=Aa (a.out.kp y.out.kp hbe) 2;have m:=Aa (a.out.kp y.out.kp hbe) 5;have p:=d.out _ y.out.kp;have q:=f.out _ y.out.kp;go_wp2_with (go_at_call 65;refine S.out.mono ?_;rintro e w3 ⟨rfl,c⟩;cases c)
 clear g j m p q;refine(Ar B b _ w _ [⟨#[123]⟩] 1 [123] rfl rfl (by decide) (by simp[Cs]) y.out.1 (by have o:=t.out;simp only[List.length_append,List.length_cons,List.length_nil] at o |-;omega)).mono ?_;rintro e I ⟨rfl,c⟩;have u:Hid (Ad B b l (([]:List UInt8)++[123]) w I):=y.out.put c rfl;clear c;have g:=Aa (a.out.kp u.out.kp hbe) 1;have j:=Aa (a.out.kp u.out.kp hbe) 2;have m:=Aa (a.out.kp u.out.kp hbe) 5;have p:=d.out _ u.out.kp;have q:=f.out _ u.out.kp;have G:=Ab (a.out.kp u.out.kp hbe);have F:Hid (Ad B b l (([]:List UInt8)++[123]) w I.drew):=u.out.grew (Ag.refl _).drew;go_wp2_with fail
 go_region_held3 (fun w'=>w'.cell? ⟨be,1,none⟩=some (.string op)/\w'.cell? ⟨be,2,none⟩=some (.string nm)) (first|(constructor<;>assumption)|assumption|go_keep)
   ((go_at_call 30;refine(Ar B b _ I.drew _ [op,⟨#[32]⟩,nm,⟨#[32,105,110,32]⟩] 4 (op.data.toList++[32]++nm.data.toList++[32,105,110,32]) rfl rfl (by decide) (by simp[Cs]) F.out.1 (by have o:=t.out;simp only[List.length_append,List.length_cons,List.length_nil] at o |-;omega)).mono ?_;rintro e O ⟨rfl,c⟩;have r:Hid (Ad B b l ((([]:List UInt8)++[123])++(op.data.toList++[32]++nm.data.toList++[32,105,110,32])) w O):=F.out.put c rfl;have V:=Aa (a.out.kp r.out.kp hbe) 1;have X:=Aa (a.out.kp r.out.kp hbe) 2;clear c))
 clear G F V X g j m p q;have g:=Aa (a.out.kp r.out.kp hbe) 1;have j:=Aa (a.out.kp r.out.kp hbe) 2;have m:=Aa (a.out.kp r.out.kp hbe) 5;have p:=d.out _ r.out.kp;have q:=f.out _ r.out.kp;go_wp2_with fail
 clear g j m p q;refine(Fv J.out B b _ O ka _ 8 (D.out.kp r.out.kp) r.out.1 (by have o:=t.out;simp only[List.length_append,List.length_cons,List.length_nil] at o |-;omega)).mono ?_;rintro e P ⟨rfl,c⟩;have v:Hid (Ad B b l (((([]:List UInt8)++[123])++(op.data.toList++[32]++nm.data.toList++[32,105,110,32]))++A9 ka 8) w P):=r.out.put c rfl;clear c;have g:=Aa (a.out.kp v.out.kp hbe) 1;have j:=Aa (a.out.kp v.out.kp hbe) 2;have m:=Aa (a.out.kp v.out.kp hbe) 5;have p:=d.out _ v.out.kp;have q:=f.out _ v.out.kp;go_wp2_with fail
 clear g j m p q;refine(Ar B b _ P _ [⟨#[32,58,32]⟩] 1 [32,58,32] rfl rfl (by decide) (by simp[Cs]) v.out.1 (by have o:=t.out;simp only[List.length_append,List.length_cons,List.length_nil] at o |-;omega)).mono ?_;rintro e Q ⟨rfl,c⟩;have s:Hid (Ad B b l ((((([]:List UInt8)++[123])++(op.data.toList++[32]++nm.data.toList++[32,105,110,32]))++A9 ka 8)++[32,58,32]) w Q):=v.out.put c rfl;clear c;have g:=Aa (a.out.kp s.out.kp hbe) 1;have j:=Aa (a.out.kp s.out.kp hbe) 2;have m:=Aa (a.out.kp s.out.kp hbe) 5;have p:=d.out _ s.out.kp;have q:=f.out _ s.out.kp;go_wp2_with fail
 clear g j m p q;refine(J.out B b _ Q kb _ (E.out.kp s.out.kp) s.out.1 (by have o:=t.out;simp only[List.length_append,List.length_cons,List.length_nil] at o |-;omega)).mono ?_;rintro e R ⟨rfl,c⟩;have x:Hid (Ad B b l (((((([]:List UInt8)++[123])++(op.data.toList++[32]++nm.data.toList++[32,105,110,32]))++A9 ka 8)++[32,58,32])++kb.tx) w R):=s.out.put c rfl;clear c;have g:=Aa (a.out.kp x.out.kp hbe) 1;have j:=Aa (a.out.kp x.out.kp hbe) 2;have m:=Aa (a.out.kp x.out.kp hbe) 5;have p:=d.out _ x.out.kp;have q:=f.out _ x.out.kp;go_wp2_with fail
 clear g j m p q;refine(Ar B b _ R _ [⟨#[125]⟩] 1 [125] rfl rfl (by decide) (by simp[Cs]) x.out.1 (by have o:=t.out;simp only[List.length_append,List.length_cons,List.length_nil] at o |-;omega)).mono ?_;rintro e Y ⟨rfl,c⟩;have T:Hid (Ad B b l ((((((([]:List UInt8)++[123])++(op.data.toList++[32]++nm.data.toList++[32,105,110,32]))++A9 ka 8)++[32,58,32])++kb.tx)++[125]) w Y):=x.out.put c rfl;clear c;go_wp2_with fail
 go_end0
 exact⟨rfl,by have h:=T.out;simpa using h⟩
theorem aU {n:Nat}(hW:WrE n)(B b be sort at' len cap:Nat)(l:List UInt8)(w:World)(op nm:ByteArray)(i:Int)(pa:Option Addr)(ka kb:PX)(he:Ao w be sort op nm i at' pa len cap)(hbe:be<B)(hr:Ca (·<B) w (A7 (·<B) w n) pa len [ka,kb])(hB:Bld B b l w)(ho:op.data.toList∈Iu\/op.data.toList∈Cp)
  (hlen:l.length+(Ds op.data.toList nm.data.toList ka kb).tx.length<=140737488355328) :
  Calls Tryz.prog 34 #[.pointer (some ⟨b,0,none⟩),.pointer (some ⟨be,0,none⟩)] w (Av B b l (Ds op.data.toList nm.data.toList ka kb).tx w):=by
 rcases ho with ho|ho
 ·have a:Bd op.data.toList=0:=by
   simp only[Iu,List.mem_cons,List.not_mem_nil,or_false] at ho;rcases ho with ho|ho|ho|ho<;>rw[ho]<;>rfl
  have c:(Ds op.data.toList nm.data.toList ka kb).tx=En op.data.toList nm.data.toList ka kb:=by
   have:Cp.contains op.data.toList=false:=by
    simp only[Iu,List.mem_cons,List.not_mem_nil,or_false] at ho;rcases ho with ho|ho|ho|ho<;>rw[ho]<;>rfl
   unfold Ds;rw[this];rfl
  rw[c] at hlen |-;exact Xr hW B b be sort at' len cap l w op nm i pa ka kb he hbe hr hB a hlen
 ·have a:Bd op.data.toList=14:=by
   simp only[Cp,List.mem_cons,List.not_mem_nil,or_false] at ho;rcases ho with ho|ho<;>rw[ho]<;>rfl
  have c:(Ds op.data.toList nm.data.toList ka kb).tx=123::(En op.data.toList nm.data.toList ka kb++[125]):=by
   have:Cp.contains op.data.toList=true:=by
    simp only[Cp,List.mem_cons,List.not_mem_nil,or_false] at ho;rcases ho with ho|ho<;>rw[ho]<;>rfl
   unfold Ds;rw[this];rfl
  rw[c] at hlen |-;exact dU hW B b be sort at' len cap l w op nm i pa ka kb he hbe hr hB a hlen
theorem Pj:∀l:List UInt8,decide (Bx l=l.length)=l.all Ba
 | []=>rfl
 | c::l=>by
  have:=Pj l;unfold Bx at this |-;cases h:Ba c with
  | true=>simp only[List.takeWhile_cons,h,if_true,List.length_cons,List.all_cons,Bool.true_and,Nat.add_right_cancel_iff];exact this
  | false=>simp[h]
theorem Tf {l:List UInt8}{c:UInt8}{r:List UInt8}(h:l=c::r):Fq l=(A8 c&&decide (l.length<=16)&&l.all Ba&&!Bm l):=by subst h;rfl
theorem Pk (s:ByteArray)(w:World):Calls Tryz.prog 104 #[.string s] w fun e w'=>e=.returned (.bool (Fq s.data.toList))/\w'=w:=by
 have A:=follows;have l:s.data.toList.length=s.size:=by simp
 have d:s.toList=s.data.toList:=ByteArray.toList_eq s;obtain⟨q,a⟩:∃q,Fq s.data.toList=q:=⟨_,rfl⟩;rw[a];have k:Hid (Fq s.data.toList=q):=a;clear a;by_cases v:s.size=0
 ·have t:s.data.toList=[]:=List.length_eq_zero_iff.1 (by omega);have z:s.toList=[]:=by rw[d,t]
  have a:=k.out;rw[t] at a;have j:q=false:=by rw[<- a];rfl
  subst j;clear a k t d l v;go_enter Tryz.func104,Tryz.ntmps104
  go_wp2_with fail
  go_ret
  exact⟨rfl,rfl⟩
 have u:¬s.toList=[]:=by rw[d];intro h;rw[h] at l;simp at l;omega
 by_cases m:s.size<=16
 case neg =>
  have n:¬(s.size:Int)<=16:=by omega
  have j:q=false:=by rw[<- k.out];unfold Fq;rw[show decide (s.data.toList.length<=16)=false from by simp;omega];simp
  subst j;clear k d l v m;go_enter Tryz.func104,Tryz.ntmps104
  go_wp2_with fail
  go_ret
  exact⟨rfl,rfl⟩
 have n:(s.size:Int)<=16:=by omega
 have x:0<s.size:=by omega
 have p:∃r,s.data.toList=s[0]::r:=by
  have:s.data.toList.drop 0=s.data.toList[0]'(by omega)::s.data.toList.drop 1:=List.drop_eq_getElem_cons (by omega);exact⟨_,this⟩
 obtain⟨B,p⟩:=p;have c:Hid (∀W:World,_):=fun W=>Kv s[0] W;have f:Hid (∀W:World,_):=fun W=>Sr s W (by omega);have i:Hid (∀W:World,_):=fun W=>Lj s W;have a:=k.out;rw[Tf p,<- Pj,show decide (s.data.toList.length<=16)=true from by simp;omega,l] at a;clear p k l d m;generalize A8 s[0]=b1 at c a;generalize Bm s.data.toList=b3 at i a;generalize Bx s.data.toList=rn at f a;cases b1 with
 | false =>
  obtain rfl:false=q:=by simpa using a
  clear a;go_enter Tryz.func104,Tryz.ntmps104
  go_wp2_with (go_at_call 120;refine(c.out _).mono ?_;rintro e g ⟨rfl,b⟩;cases b)
  go_ret
  exact⟨rfl,rfl⟩
 | true =>
  by_cases o:rn=s.size
  ·have y:((rn:Int)==(s.size:Int))=true:=by simp;omega
   rw[show decide (rn=s.size)=true from by simpa using o] at a;cases b3 with
   | false =>
    obtain rfl:true=q:=by simpa using a
    have t:s.toList.isEmpty=false:=by simpa using u
    clear a o;go_enter Tryz.func104,Tryz.ntmps104
    go_wp2_with (first|(go_at_call 120;refine(c.out _).mono ?_;rintro e g ⟨rfl,b⟩;cases b)|(go_at_call 121;refine(f.out _).mono ?_;rintro e g ⟨rfl,b⟩;cases b)|(go_at_call 113;refine(i.out _).mono ?_;rintro e g ⟨rfl,b⟩;cases b))
    go_ret
    exact⟨rfl,rfl⟩
   | true =>
    obtain rfl:false=q:=by simpa using a
    clear a o;go_enter Tryz.func104,Tryz.ntmps104
    go_wp2_with (first|(go_at_call 120;refine(c.out _).mono ?_;rintro e g ⟨rfl,b⟩;cases b)|(go_at_call 121;refine(f.out _).mono ?_;rintro e g ⟨rfl,b⟩;cases b)|(go_at_call 113;refine(i.out _).mono ?_;rintro e g ⟨rfl,b⟩;cases b))
    go_ret
    exact⟨rfl,rfl⟩
  ·have y:((rn:Int)==(s.size:Int))=false:=by simp;omega
   rw[show decide (rn=s.size)=false from by simpa using o] at a;obtain rfl:false=q:=by simpa using a
   clear a o;go_enter Tryz.func104,Tryz.ntmps104
   go_wp2_with (first|(go_at_call 120;refine(c.out _).mono ?_;rintro e g ⟨rfl,b⟩;cases b)|(go_at_call 121;refine(f.out _).mono ?_;rintro e g ⟨rfl,b⟩;cases b))
   go_ret
   exact⟨rfl,rfl⟩
theorem dV {sort:Nat}{op nm:List UInt8}{n:Int}{kids:List PX}{x:PX}(h:M5 sort op nm n kids x)(hs:sort≠1):x.key=none:=by
 rcases h with⟨rfl,-,-,rfl⟩|⟨rfl,rfl⟩|⟨rfl,rfl⟩|⟨rfl,rfl⟩|⟨rfl,rfl⟩|⟨rfl,rfl⟩|⟨rfl,rfl⟩|⟨rfl,rfl⟩|⟨rfl,a,b,c,rfl,rfl⟩|⟨rfl,a,b,rfl,rfl⟩|⟨rfl,d,a,b,rfl,rfl⟩|⟨-,e⟩
 case inr.inl=>exact absurd rfl hs
 case inr.inr.inr.inr.inr.inr.inr.inr.inr.inr.inl=>unfold Ds;split<;>rfl
 case inr.inr.inr.inr.inr.inr.inr.inr.inr.inr.inr =>
  rcases e with⟨g,a,b,rfl,rfl⟩|⟨rfl,rfl⟩|⟨rfl,rfl⟩|⟨rfl,rfl⟩|⟨rfl,f,k,rfl,rfl⟩|⟨rfl,f,k,v,rfl,rfl⟩|⟨rfl,a,rfl,rfl⟩|⟨d,a,rfl,rfl⟩|⟨d,a,rfl,rfl⟩|⟨d,rfl⟩<;>rfl
 all_goals rfl
theorem fQ {op nm:List UInt8}{n:Int}{kids:List PX}{x:PX}(h:M5 1 op nm n kids x):x=Ee nm:=by
 rcases h with⟨q,-⟩|⟨-,h⟩|⟨q,-⟩|⟨q,-⟩|⟨q,-⟩|⟨q,-⟩|⟨q,-⟩|⟨q,-⟩|⟨q,-⟩|⟨q,-⟩|⟨q,-⟩|⟨q,-⟩
 case inr.inl=>exact h
 all_goals omega
theorem Xs {n:Nat}(hW:WrE n)(B b xf be sort at' len cap:Nat)(l:List UInt8)(w:World)(op nm:ByteArray)(i:Int)(pa:Option Addr)(kf kk:PX)(hf:A7 (·<B) w n kf (.pointer (some ⟨xf,0,none⟩)))(hk:A7 (·<B) w n kk (.pointer (some ⟨be,0,none⟩)))(he:Ao w be sort op nm i at' pa len cap)(hbe:be<B)(hB:Bld B b l w)(hs:sort=1)(hn:Fq nm.data.toList=true)
  (hlen:l.length+(A9 kf 13++46::nm.data.toList).length<=140737488355328) :
  Calls Tryz.prog 69 #[.pointer (some ⟨b,0,none⟩),.pointer (some ⟨xf,0,none⟩),.pointer (some ⟨be,0,none⟩)] w (Av B b l (A9 kf 13++46::nm.data.toList) w):=by
 have f:Hid (Ao w be sort op nm i at' pa len cap):=he;have r:Hid (WrE n):=hW;have d:Hid (Ad B b l ([]:List UInt8) w w):=Ad.nil hB;have p:Hid (l.length+(A9 kf 13++46::nm.data.toList).length<=140737488355328):=hlen;have j:Hid (A7 (·<B) w n _ _):=hf;have s:Hid (A7 (·<B) w n _ _):=hk;have c:Hid (∀W:World,_):=fun W=>Pk nm W;have v:=follows;clear he hW hB hlen hf hk;subst hs;rw[hn] at c;clear hn;go_enter Tryz.func69,Tryz.ntmps69
 have k:=Aa (f.out.kp d.out.kp hbe) 0;have m:=Aa (f.out.kp d.out.kp hbe) 2;go_wp2_with fail
 clear k m;refine(Fv r.out B b _ w kf _ 13 (j.out.kp d.out.kp) d.out.1 (by have o:=p.out;simp only[List.length_append,List.length_cons,List.length_nil] at o |-;omega)).mono ?_;rintro e q ⟨rfl,a⟩;have g:Hid (Ad B b l (([]:List UInt8)++A9 kf 13) w q):=d.out.put a rfl;clear a;have k:=Aa (f.out.kp g.out.kp hbe) 0;have m:=Aa (f.out.kp g.out.kp hbe) 2;go_wp2_with (go_at_call 104;refine(c.out _).mono ?_;rintro e x ⟨rfl,a⟩;cases a)
 clear k m;refine(Ar B b _ q _ [⟨#[46]⟩,nm] 2 ([46]++nm.data.toList) rfl rfl (by decide) (by simp[Cs]) g.out.1 (by have o:=p.out;simp only[List.length_append,List.length_cons,List.length_nil] at o |-;omega)).mono ?_;rintro e u ⟨rfl,a⟩;have t:Hid (Ad B b l ((([]:List UInt8)++A9 kf 13)++([46]++nm.data.toList)) w u):=g.out.put a rfl;clear a;go_wp2_with fail
 refine bodyPost_ret (results_none rfl _ _ _) rfl ?_;exact⟨rfl,by have h:=t.out;simpa using h⟩
theorem Rq {n:Nat}(hW:WrE n)(B b xf be sort at' len cap:Nat)(l:List UInt8)(w:World)(op nm:ByteArray)(i:Int)(pa:Option Addr)(kf kk:PX)(hf:A7 (·<B) w n kf (.pointer (some ⟨xf,0,none⟩)))(hk:A7 (·<B) w n kk (.pointer (some ⟨be,0,none⟩)))(he:Ao w be sort op nm i at' pa len cap)(hbe:be<B)(hB:Bld B b l w)(hs:sort≠1\/sort=1/\Fq nm.data.toList=false)
  (hlen:l.length+(A9 kf 13++91::(kk.tx++[93])).length<=140737488355328) :
  Calls Tryz.prog 69 #[.pointer (some ⟨b,0,none⟩),.pointer (some ⟨xf,0,none⟩),.pointer (some ⟨be,0,none⟩)] w (Av B b l (A9 kf 13++91::(kk.tx++[93])) w):=by
 have c:Hid (Ao w be sort op nm i at' pa len cap):=he;have u:Hid (WrE n):=hW;have r:Hid (Ad B b l ([]:List UInt8) w w):=Ad.nil hB;have p:Hid (l.length+(A9 kf 13++91::(kk.tx++[93])).length<=140737488355328):=hlen;have v:Hid (A7 (·<B) w n _ _):=hf;have q:Hid (A7 (·<B) w n _ _):=hk;have o:Hid (∀W:World,_):=fun W=>Pk nm W;have E:=follows;clear he hW hB hlen hf hk;go_enter Tryz.func69,Tryz.ntmps69
 have d:=Aa (c.out.kp r.out.kp hbe) 0;have f:=Aa (c.out.kp r.out.kp hbe) 2;go_wp2_with fail
 clear d f;refine(Fv u.out B b _ w kf _ 13 (v.out.kp r.out.kp) r.out.1 (by have g:=p.out;simp only[List.length_append,List.length_cons,List.length_nil] at g |-;omega)).mono ?_;rintro e y ⟨rfl,a⟩;have m:Hid (Ad B b l (([]:List UInt8)++A9 kf 13) w y):=r.out.put a rfl;clear a;rcases hs with hs|⟨rfl,A⟩
 ·have C:((sort:Int)==1)=false:=by simp;omega
  clear hs;have d:=Aa (c.out.kp m.out.kp hbe) 0;have f:=Aa (c.out.kp m.out.kp hbe) 2;go_wp2_with (go_at_call 104;refine(o.out _).mono ?_;rintro e D ⟨rfl,a⟩;cases a)
  clear d f;refine(Ar B b _ y _ [⟨#[91]⟩] 1 [91] rfl rfl (by decide) (by simp[Cs]) m.out.1 (by have g:=p.out;simp only[List.length_append,List.length_cons,List.length_nil] at g |-;omega)).mono ?_;rintro e s ⟨rfl,a⟩;have j:Hid (Ad B b l ((([]:List UInt8)++A9 kf 13)++[91]) w s):=m.out.put a rfl;clear a;have d:=Aa (c.out.kp j.out.kp hbe) 0;have f:=Aa (c.out.kp j.out.kp hbe) 2;go_wp2_with fail
  clear d f;refine(u.out B b _ s kk _ (q.out.kp j.out.kp) j.out.1 (by have g:=p.out;simp only[List.length_append,List.length_cons,List.length_nil] at g |-;omega)).mono ?_;rintro e t ⟨rfl,a⟩;have k:Hid (Ad B b l (((([]:List UInt8)++A9 kf 13)++[91])++kk.tx) w t):=j.out.put a rfl;clear a;have d:=Aa (c.out.kp k.out.kp hbe) 0;have f:=Aa (c.out.kp k.out.kp hbe) 2;go_wp2_with fail
  clear d f;refine(Ar B b _ t _ [⟨#[93]⟩] 1 [93] rfl rfl (by decide) (by simp[Cs]) k.out.1 (by have g:=p.out;simp only[List.length_append,List.length_cons,List.length_nil] at g |-;omega)).mono ?_;rintro e z ⟨rfl,a⟩;have x:Hid (Ad B b l ((((([]:List UInt8)++A9 kf 13)++[91])++kk.tx)++[93]) w z):=k.out.put a rfl;clear a;go_wp2_with fail
  go_end0
  exact⟨rfl,by have h:=x.out;simpa using h⟩
 ·rw[A] at o;clear A;have d:=Aa (c.out.kp m.out.kp hbe) 0;have f:=Aa (c.out.kp m.out.kp hbe) 2;go_wp2_with (go_at_call 104;refine(o.out _).mono ?_;rintro e D ⟨rfl,a⟩;cases a)
  clear d f;refine(Ar B b _ y _ [⟨#[91]⟩] 1 [91] rfl rfl (by decide) (by simp[Cs]) m.out.1 (by have g:=p.out;simp only[List.length_append,List.length_cons,List.length_nil] at g |-;omega)).mono ?_;rintro e s ⟨rfl,a⟩;have j:Hid (Ad B b l ((([]:List UInt8)++A9 kf 13)++[91]) w s):=m.out.put a rfl;clear a;have d:=Aa (c.out.kp j.out.kp hbe) 0;have f:=Aa (c.out.kp j.out.kp hbe) 2;go_wp2_with fail
  clear d f;refine(u.out B b _ s kk _ (q.out.kp j.out.kp) j.out.1 (by have g:=p.out;simp only[List.length_append,List.length_cons,List.length_nil] at g |-;omega)).mono ?_;rintro e t ⟨rfl,a⟩;have k:Hid (Ad B b l (((([]:List UInt8)++A9 kf 13)++[91])++kk.tx) w t):=j.out.put a rfl;clear a;have d:=Aa (c.out.kp k.out.kp hbe) 0;have f:=Aa (c.out.kp k.out.kp hbe) 2;go_wp2_with fail
  clear d f;refine(Ar B b _ t _ [⟨#[93]⟩] 1 [93] rfl rfl (by decide) (by simp[Cs]) k.out.1 (by have g:=p.out;simp only[List.length_append,List.length_cons,List.length_nil] at g |-;omega)).mono ?_;rintro e z ⟨rfl,a⟩;have x:Hid (Ad B b l ((((([]:List UInt8)++A9 kf 13)++[91])++kk.tx)++[93]) w z):=k.out.put a rfl;clear a;go_wp2_with fail
  go_end0
  exact⟨rfl,by have h:=x.out;simpa using h⟩
theorem Xt {n:Nat}(hW:WrE n)(B b xf xk:Nat)(l:List UInt8)(w:World)(kf kk:PX)(hf:A7 (·<B) w n kf (.pointer (some ⟨xf,0,none⟩)))(hk:A7 (·<B) w n kk (.pointer (some ⟨xk,0,none⟩)))(hB:Bld B b l w)
  (hlen:l.length+(dAt kf kk).tx.length<=140737488355328) :
  Calls Tryz.prog 69 #[.pointer (some ⟨b,0,none⟩),.pointer (some ⟨xf,0,none⟩),.pointer (some ⟨xk,0,none⟩)] w (Av B b l (dAt kf kk).tx w):=by
 cases n with
 | zero=>exact absurd hk id
 | succ n =>
  obtain⟨u,c,p,h,i,a,q,f,d,t,e,k,m,v,r⟩:=id hk;obtain rfl:xk=u:=by simpa using e
  by_cases o:c=1
  ·subst o;have s:=fQ r;cases j:Fq h.data.toList with
   | true =>
    have g:(dAt kf kk).tx=A9 kf 13++46::h.data.toList:=by rw[s];simp[dAt,Ee,j]
    rw[g] at hlen |-;exact Xs hW B b xf xk 1 a f d l w p h i q kf kk hf hk m k hB rfl j hlen
   | false =>
    have g:(dAt kf kk).tx=A9 kf 13++91::(kk.tx++[93]):=by simp only[dAt];rw[show kk.key=none from by rw[s];simp[Ee,j]]
    rw[g] at hlen |-;exact Rq hW B b xf xk 1 a f d l w p h i q kf kk hf hk m k hB (.inr ⟨rfl,j⟩) hlen
  ·have g:(dAt kf kk).tx=A9 kf 13++91::(kk.tx++[93]):=by simp only[dAt];rw[dV r o]
   rw[g] at hlen |-;exact Rq hW B b xf xk c a f d l w p h i q kf kk hf hk m k hB (.inl o) hlen
end Go.Proofs.YtjbfcadeapphbaaGreatDoor.Sx
