/- form.Expr. -/
import Derived.Test.YtjbfcadeapphbaaGreatDoorK20
import Derived.Test.YtjbfcadeapphbaaGreatDoorShelf
import Derived.Test.YtjbfcadeapphbaaGreatDoorK04
import Derived.Test.YtjbfcadeapphbaaGreatDoorK16
namespace Go.Proofs.YtjbfcadeapphbaaGreatDoor.Sx
set_option maxRecDepth 100000
set_option maxHeartbeats 2000000
open Go.RowKit Go.Sort
def fR (l:List UInt8):List UInt8:=[34]++l++[34]
theorem aV (B b be at' len cap:Nat)(l:List UInt8)(w:World)(op nm:ByteArray)(i:Int)(pa:Option Addr)(he:Ao w be 1 op nm i at' pa len cap)(hB:Bld B b l w)
  (hlen:l.length+(fR nm.data.toList).length<=140737488355328) :
  Calls Tryz.prog 15 #[.pointer (some ⟨b,0,none⟩),.pointer (some ⟨be,0,none⟩)] w (Av B b l (fR nm.data.toList) w):=by
 have c:Hid (Ad B b l ([]:List UInt8) w w):=Ad.nil hB;have a:Hid (l.length+(fR nm.data.toList).length<=140737488355328):=hlen;have g:=Aa he 0;have j:=Aa he 1;have k:=Aa he 2;have o:=follows;clear he hB hlen;simp only[fR] at a |-;go_enter Tryz.func15,Tryz.ntmps15
 go_wp2_with fail
 clear g j k;refine(Ar B b _ w _ [⟨#[34]⟩,nm,⟨#[34]⟩] 3 ([34]++nm.data.toList++[34]) rfl rfl (by decide) (by simp[Cs]) c.out.1 (by have m:=a.out;simp only[List.length_append,List.length_cons,List.length_nil] at m |-;omega)).mono ?_;rintro e n ⟨rfl,d⟩;have f:Hid (Ad B b l (([]:List UInt8)++([34]++nm.data.toList++[34])) w n):=c.out.put d rfl;clear d;go_wp2_with fail
 go_end0
 exact⟨rfl,by have h:=f.out;simpa using h⟩
theorem Vd (B b be at' len cap:Nat)(l:List UInt8)(w:World)(op nm:ByteArray)(i:Int)(pa:Option Addr)(he:Ao w be 2 op nm i at' pa len cap)(hB:Bld B b l w)
  (hlen:l.length+(op.data.toList).length<=140737488355328) :
  Calls Tryz.prog 15 #[.pointer (some ⟨b,0,none⟩),.pointer (some ⟨be,0,none⟩)] w (Av B b l (op.data.toList) w):=by
 have a:Hid (Ad B b l ([]:List UInt8) w w):=Ad.nil hB;have d:Hid (l.length+(op.data.toList).length<=140737488355328):=hlen;have g:=Aa he 0;have j:=Aa he 1;have k:=Aa he 2;have o:=follows;clear he hB hlen;go_enter Tryz.func15,Tryz.ntmps15
 go_wp2_with fail
 clear g j k;refine(Ar B b _ w _ [op] 1 op.data.toList rfl rfl (by decide) (by simp[Cs]) a.out.1 (by have m:=d.out;simp only[List.length_append,List.length_nil] at m |-;omega)).mono ?_;rintro e n ⟨rfl,c⟩;have f:Hid (Ad B b l (([]:List UInt8)++op.data.toList) w n):=a.out.put c rfl;clear c;go_wp2_with fail
 go_end0
 exact⟨rfl,by have h:=f.out;simpa using h⟩
theorem Xu (B b be at' len cap:Nat)(l:List UInt8)(w:World)(op nm:ByteArray)(i:Int)(pa:Option Addr)(he:Ao w be 3 op nm i at' pa len cap)(hB:Bld B b l w)
  (hlen:l.length+(nm.data.toList).length<=140737488355328) :
  Calls Tryz.prog 15 #[.pointer (some ⟨b,0,none⟩),.pointer (some ⟨be,0,none⟩)] w (Av B b l (nm.data.toList) w):=by
 have a:Hid (Ad B b l ([]:List UInt8) w w):=Ad.nil hB;have d:Hid (l.length+(nm.data.toList).length<=140737488355328):=hlen;have g:=Aa he 0;have j:=Aa he 1;have k:=Aa he 2;have o:=follows;clear he hB hlen;go_enter Tryz.func15,Tryz.ntmps15
 go_wp2_with fail
 clear g j k;refine(Ar B b _ w _ [nm] 1 nm.data.toList rfl rfl (by decide) (by simp[Cs]) a.out.1 (by have m:=d.out;simp only[List.length_append,List.length_nil] at m |-;omega)).mono ?_;rintro e n ⟨rfl,c⟩;have f:Hid (Ad B b l (([]:List UInt8)++nm.data.toList) w n):=a.out.put c rfl;clear c;go_wp2_with fail
 go_end0
 exact⟨rfl,by have h:=f.out;simpa using h⟩
theorem Tj (B b be at' len cap:Nat)(l:List UInt8)(w:World)(op nm:ByteArray)(i:Int)(pa:Option Addr)(he:Ao w be 4 op nm i at' pa len cap)(hB:Bld B b l w)
  (hlen:l.length+(nm.data.toList++[39]).length<=140737488355328) :
  Calls Tryz.prog 15 #[.pointer (some ⟨b,0,none⟩),.pointer (some ⟨be,0,none⟩)] w (Av B b l (nm.data.toList++[39]) w):=by
 have a:Hid (Ad B b l ([]:List UInt8) w w):=Ad.nil hB;have d:Hid (l.length+(nm.data.toList++[39]).length<=140737488355328):=hlen;have g:=Aa he 0;have j:=Aa he 1;have k:=Aa he 2;have o:=follows;clear he hB hlen;go_enter Tryz.func15,Tryz.ntmps15
 go_wp2_with fail
 clear g j k;refine(Ar B b _ w _ [nm,⟨#[39]⟩] 2 (nm.data.toList++[39]) rfl rfl (by decide) (by simp[Cs]) a.out.1 (by have m:=d.out;simp only[List.length_append,List.length_cons,List.length_nil] at m |-;omega)).mono ?_;rintro e n ⟨rfl,c⟩;have f:Hid (Ad B b l (([]:List UInt8)++(nm.data.toList++[39])) w n):=a.out.put c rfl;clear c;go_wp2_with fail
 go_end0
 exact⟨rfl,by have h:=f.out;simpa using h⟩
theorem Nv (B b be at' len cap:Nat)(l:List UInt8)(w:World)(op nm:ByteArray)(i:Int)(pa:Option Addr)(he:Ao w be 6 op nm i at' pa len cap)(hB:Bld B b l w)
  (hlen:l.length+([117,110,99,104,97,110,103,101,100,32]++nm.data.toList).length<=140737488355328) :
  Calls Tryz.prog 15 #[.pointer (some ⟨b,0,none⟩),.pointer (some ⟨be,0,none⟩)] w (Av B b l ([117,110,99,104,97,110,103,101,100,32]++nm.data.toList) w):=by
 have a:Hid (Ad B b l ([]:List UInt8) w w):=Ad.nil hB;have d:Hid (l.length+([117,110,99,104,97,110,103,101,100,32]++nm.data.toList).length<=140737488355328):=hlen;have g:=Aa he 0;have j:=Aa he 1;have k:=Aa he 2;have o:=follows;clear he hB hlen;go_enter Tryz.func15,Tryz.ntmps15
 go_wp2_with fail
 clear g j k;refine(Ar B b _ w _ [⟨#[117,110,99,104,97,110,103,101,100,32]⟩,nm] 2 ([117,110,99,104,97,110,103,101,100,32]++nm.data.toList) rfl rfl (by decide) (by simp[Cs]) a.out.1 (by have m:=d.out;simp only[List.length_append,List.length_cons,List.length_nil] at m |-;omega)).mono ?_;rintro e n ⟨rfl,c⟩;have f:Hid (Ad B b l (([]:List UInt8)++([117,110,99,104,97,110,103,101,100,32]++nm.data.toList)) w n):=a.out.put c rfl;clear c;go_wp2_with fail
 go_end0
 exact⟨rfl,by have h:=f.out;simpa using h⟩
theorem Q4 (B b be at' len cap:Nat)(l:List UInt8)(w:World)(op nm:ByteArray)(i:Int)(pa:Option Addr)(he:Ao w be 7 op nm i at' pa len cap)(hB:Bld B b l w)
  (hlen:l.length+([101,110,97,98,108,101,100,32]++nm.data.toList).length<=140737488355328) :
  Calls Tryz.prog 15 #[.pointer (some ⟨b,0,none⟩),.pointer (some ⟨be,0,none⟩)] w (Av B b l ([101,110,97,98,108,101,100,32]++nm.data.toList) w):=by
 have a:Hid (Ad B b l ([]:List UInt8) w w):=Ad.nil hB;have d:Hid (l.length+([101,110,97,98,108,101,100,32]++nm.data.toList).length<=140737488355328):=hlen;have g:=Aa he 0;have j:=Aa he 1;have k:=Aa he 2;have o:=follows;clear he hB hlen;go_enter Tryz.func15,Tryz.ntmps15
 go_wp2_with fail
 clear g j k;refine(Ar B b _ w _ [⟨#[101,110,97,98,108,101,100,32]⟩,nm] 2 ([101,110,97,98,108,101,100,32]++nm.data.toList) rfl rfl (by decide) (by simp[Cs]) a.out.1 (by have m:=d.out;simp only[List.length_append,List.length_cons,List.length_nil] at m |-;omega)).mono ?_;rintro e n ⟨rfl,c⟩;have f:Hid (Ad B b l (([]:List UInt8)++([101,110,97,98,108,101,100,32]++nm.data.toList)) w n):=a.out.put c rfl;clear c;go_wp2_with fail
 go_end0
 exact⟨rfl,by have h:=f.out;simpa using h⟩
theorem aW {n:Nat}(hW:WrE n)(B b be sort at' len cap:Nat)(l:List UInt8)(w:World)(op nm:ByteArray)(i:Int)(pa:Option Addr)(ka kb:PX)(he:Ao w be sort op nm i at' pa len cap)(hbe:be<B)(hr:Ca (·<B) w (A7 (·<B) w n) pa len [ka,kb])(hB:Bld B b l w)(hs:sort=9)
  (hlen:l.length+((L7 nm.data.toList ka kb).tx).length<=140737488355328) :
  Calls Tryz.prog 15 #[.pointer (some ⟨b,0,none⟩),.pointer (some ⟨be,0,none⟩)] w (Av B b l ((L7 nm.data.toList ka kb).tx) w):=by
 have a:Hid (Ao w be sort op nm i at' pa len cap):=he;have E:Hid (WrE n):=hW;have R:Hid (Bld B b l w):=hB;have o:Hid (Ad B b l ([]:List UInt8) w w):=Ad.nil hB;have S:=follows;have v:Hid (l.length+((L7 nm.data.toList ka kb).tx).length<=140737488355328):=hlen;obtain⟨rfl,z,y,D,x,N,P,F,H,Q,G,I⟩:=dT hr;subst D;have A:Hid (A7 (·<B) w n _ _):=H;have d:Hid (∀W,Kp B b w W->W.cell? ⟨z,y,none⟩=some (.pointer (some ⟨P,0,none⟩))):=fun W k=>(World.cell?_of_block (w:=w) (k.1.block z x)).trans F;have C:Hid (A7 (·<B) w n _ _):=I;have f:Hid (∀W,Kp B b w W->W.cell? ⟨z,y+1,none⟩=some (.pointer (some ⟨Q,0,none⟩))):=fun W k=>(World.cell?_of_block (w:=w) (k.1.block z x)).trans G;clear F H G I;clear he hW hB hr hlen;simp only[L7] at v |-;subst hs;go_enter Tryz.func15,Tryz.ntmps15
 have p:=Aa (a.out.kp o.out.kp hbe) 0;have q:=Aa (a.out.kp o.out.kp hbe) 2;have r:=Aa (a.out.kp o.out.kp hbe) 5;have t:=d.out _ o.out.kp;have u:=f.out _ o.out.kp;go_wp2_with fail
 clear p q r t u;refine(Ar B b _ w _ [⟨#[108,101,116,32]⟩,nm,⟨#[32,61,32]⟩] 3 ([108,101,116,32]++nm.data.toList++[32,61,32]) rfl rfl (by decide) (by simp[Cs]) o.out.1 (by have s:=v.out;simp only[List.length_append,List.length_cons,List.length_nil] at s |-;omega)).mono ?_;rintro e J ⟨rfl,c⟩;have g:Hid (Ad B b l (([]:List UInt8)++([108,101,116,32]++nm.data.toList++[32,61,32])) w J):=o.out.put c rfl;clear c;have p:=Aa (a.out.kp g.out.kp hbe) 0;have q:=Aa (a.out.kp g.out.kp hbe) 2;have r:=Aa (a.out.kp g.out.kp hbe) 5;have t:=d.out _ g.out.kp;have u:=f.out _ g.out.kp;go_wp2_with fail
 clear p q r t u;refine(E.out B b _ J ka _ (A.out.kp g.out.kp) g.out.1 (by have s:=v.out;simp only[List.length_append,List.length_cons,List.length_nil] at s |-;omega)).mono ?_;rintro e K ⟨rfl,c⟩;have m:Hid (Ad B b l ((([]:List UInt8)++([108,101,116,32]++nm.data.toList++[32,61,32]))++ka.tx) w K):=g.out.put c rfl;clear c;have p:=Aa (a.out.kp m.out.kp hbe) 0;have q:=Aa (a.out.kp m.out.kp hbe) 2;have r:=Aa (a.out.kp m.out.kp hbe) 5;have t:=d.out _ m.out.kp;have u:=f.out _ m.out.kp;go_wp2_with fail
 clear p q r t u;refine(Ar B b _ K _ [⟨#[32,58,32]⟩] 1 [32,58,32] rfl rfl (by decide) (by simp[Cs]) m.out.1 (by have s:=v.out;simp only[List.length_append,List.length_cons,List.length_nil] at s |-;omega)).mono ?_;rintro e L ⟨rfl,c⟩;have j:Hid (Ad B b l (((([]:List UInt8)++([108,101,116,32]++nm.data.toList++[32,61,32]))++ka.tx)++[32,58,32]) w L):=m.out.put c rfl;clear c;have p:=Aa (a.out.kp j.out.kp hbe) 0;have q:=Aa (a.out.kp j.out.kp hbe) 2;have r:=Aa (a.out.kp j.out.kp hbe) 5;have t:=d.out _ j.out.kp;have u:=f.out _ j.out.kp;go_wp2_with fail
 clear p q r t u;refine(E.out B b _ L kb _ (C.out.kp j.out.kp) j.out.1 (by have s:=v.out;simp only[List.length_append,List.length_cons,List.length_nil] at s |-;omega)).mono ?_;rintro e O ⟨rfl,c⟩;have M:Hid (Ad B b l ((((([]:List UInt8)++([108,101,116,32]++nm.data.toList++[32,61,32]))++ka.tx)++[32,58,32])++kb.tx) w O):=j.out.put c rfl;clear c;go_wp2_with fail
 go_end0
 exact⟨rfl,by have h:=M.out;simpa using h⟩
theorem K1 (B b be sort at' len cap f:Nat)(l T:List UInt8)(w:World)(op nm:ByteArray)(i:Int)(pa:Option Addr)(he:Ao w be sort op nm i at' pa len cap)
  (hs:sort=8/\f=33\/sort=10/\f=34\/sort=11/\f=35\/sort=12/\f=35)
  (hC:Calls Tryz.prog f #[.pointer (some ⟨b,0,none⟩),.pointer (some ⟨be,0,none⟩)] w (Av B b l T w)) :
  Calls Tryz.prog 15 #[.pointer (some ⟨b,0,none⟩),.pointer (some ⟨be,0,none⟩)] w (Av B b l T w):=by
 have a:Hid (Calls _ _ _ _ _):=hC;have h:=Aa he 0;have j:=follows;clear he hC;rcases hs with⟨rfl,rfl⟩|⟨rfl,rfl⟩|⟨rfl,rfl⟩|⟨rfl,rfl⟩
 all_goals
  go_enter Tryz.func15,Tryz.ntmps15
  go_wp2_with fail
  refine a.out.mono ?_;rintro e g ⟨rfl,c⟩;have d:Hid (Ad B b l T w g):=c;clear c a;go_wp2_with fail
  go_end0
  exact⟨rfl,d.out⟩
theorem aX (B b be at' len cap:Nat)(l:List UInt8)(w:World)(op nm:ByteArray)(i:Int)(pa:Option Addr)(he:Ao w be 0 op nm i at' pa len cap)(hi:-9223372036854775808<=i/\i<=9223372036854775807)(hB:Bld B b l w)
  (hlen:l.length+(Lib.itoa i).length<=140737488355328) :
  Calls Tryz.prog 15 #[.pointer (some ⟨b,0,none⟩),.pointer (some ⟨be,0,none⟩)] w (Av B b l (Lib.itoa i) w):=by
 have k:Hid (Ad B b l ([]:List UInt8) w w):=Ad.nil hB;have c:Hid (Calls _ 31 #[_,_] w _):=Tryz.strconv_FormatInt_10 i hi.1 hi.2 w hB.tab;have n:=Aa he 0;have o:=Aa he 3;have q:=follows;generalize Lib.itoa i=t at c hlen |-;have h:Hid (l.length+t.length<=140737488355328):=hlen;clear he hB hi hlen;go_enter Tryz.func15,Tryz.ntmps15
 go_wp2_with (go_at_call 31;refine c.out.mono ?_;rintro e g ⟨rfl,d⟩;have a:Hid (Ad B b l ([]:List UInt8) w g):=k.out.grew d;clear d)
 refine(Ar B b _ g _ [⟨t.toArray⟩] 1 t rfl rfl (by decide) (by simp[Cs]) a.out.1 (by have p:=h.out;rw[List.append_nil];omega)).mono ?_;rintro e m ⟨rfl,f⟩;have j:Hid (Ad B b l t w m):=a.out.put f rfl;clear f a;go_wp2_with fail
 go_end0
 exact⟨rfl,j.out⟩
theorem Xv {n:Nat}(hW:WrE n)(B b be at' len cap:Nat)(l:List UInt8)(w:World)(op nm:ByteArray)(i:Int)(pa:Option Addr)(kids:List PX)(he:Ao w be 5 op nm i at' pa len cap)(hr:Ca (·<B) w (A7 (·<B) w n) pa len kids)(hB:Bld B b l w)
  (hlen:l.length+(Ed nm.data.toList kids).tx.length<=140737488355328) :
  Calls Tryz.prog 15 #[.pointer (some ⟨b,0,none⟩),.pointer (some ⟨be,0,none⟩)] w (Av B b l (Ed nm.data.toList kids).tx w):=by
 have a:(nm++⟨#[40]⟩:ByteArray).data.toList++(C0 kids++(⟨#[41]⟩:ByteArray).data.toList)=(Ed nm.data.toList kids).tx:=by simp[Ed,ByteArray.data_append]
 have j:Hid (∀W,Ag w W->Calls Tryz.prog 32 #[.pointer (some ⟨b,0,none⟩),.string (nm++⟨#[40]⟩),.slice pa len cap,.string ⟨#[41]⟩] W (Av B b l (Ed nm.data.toList kids).tx W)):=fun W hg=>by
  have:=Kh hW B b l W (nm++⟨#[40]⟩) ⟨#[41]⟩ pa len cap kids (hr.kp (Kp.grew (b:=b) hg hB.low)) (hB.grew hg) (by rw[a];exact hlen);rw[a] at this;exact this
 have h:Hid (Bld B b l w):=hB;have f:Hid (Ao w be 5 op nm i at' pa len cap):=he;have m:=Ab he;have g:nm.size<=140737488355328:=by simp[Ed] at hlen;omega
 have c:nm.size<=9223372036854775806:=by omega
 have p:=Aa he 0;have q:=Aa he 2;have r:=Aa he 5;have s:=Aa (f.out.of (P:=fun _=>True) (Fr.grew (Ag.refl w).drew) trivial) 2;have t:=Aa (f.out.of (P:=fun _=>True) (Fr.grew (Ag.refl w).drew) trivial) 5;have u:=follows;clear he hr hB hlen hW a;go_enter Tryz.func15,Tryz.ntmps15
 go_wp2_with fail
 go_region_with (go_at_call 32;refine(j.out _ (Ag.refl w).drew).mono ?_;rintro e o ⟨rfl,d⟩;have k:Hid (Ad B b l (Ed nm.data.toList kids).tx w o):=⟨d.1,(Kp.grew (Ag.refl w).drew h.out.low).trans d.2⟩;clear d)
 all_goals go_wp2_with fail
 all_goals go_end0
 all_goals exact⟨rfl,k.out⟩
theorem wrE:∀n,WrE n
 | 0=>fun _ _ _ _ _ _ h=>absurd h id
 | n+1=>fun B b l w x v h hB hlen=>by
  obtain⟨be,sort,op,nm,i,a,pa,len,cap,kids,rfl,h2,h3,h4,h5⟩:=h;have hW:=wrE n;rcases h5 with⟨rfl,hi1,hi2,rfl⟩|⟨rfl,rfl⟩|⟨rfl,rfl⟩|⟨rfl,rfl⟩|⟨rfl,rfl⟩|⟨rfl,rfl⟩|⟨rfl,rfl⟩|⟨rfl,rfl⟩|⟨rfl,ka,kb,kc,rfl,rfl⟩|⟨rfl,ka,kb,rfl,rfl⟩|⟨rfl,ho,ka,kb,rfl,rfl⟩|⟨hs,hop⟩
  ·exact aX B b be a len cap l w op nm i pa h3 ⟨hi1,hi2⟩ hB hlen
  ·exact aV B b be a len cap l w op nm i pa h3 hB hlen
  ·exact Vd B b be a len cap l w op nm i pa h3 hB hlen
  ·exact Xu B b be a len cap l w op nm i pa h3 hB hlen
  ·exact Tj B b be a len cap l w op nm i pa h3 hB hlen
  ·exact Xv hW B b be a len cap l w op nm i pa kids h3 h4 hB hlen
  ·exact Nv B b be a len cap l w op nm i pa h3 hB hlen
  ·exact Q4 B b be a len cap l w op nm i pa h3 hB hlen
  ·exact K1 B b be 8 a len cap _ l _ w op nm i pa h3 (.inl ⟨rfl,rfl⟩) (Vb hW B b be 8 a len cap l w op nm i pa ka kb kc h3 h2 h4 hB hlen)
  ·exact aW hW B b be 9 a len cap l w op nm i pa ka kb h3 h2 h4 hB rfl hlen
  ·exact K1 B b be 10 a len cap _ l _ w op nm i pa h3 (.inr (.inl ⟨rfl,rfl⟩)) (aU hW B b be 10 a len cap l w op nm i pa ka kb h3 h2 h4 hB ho hlen)
  ·exact K1 B b be sort a len cap _ l _ w op nm i pa h3 (.inr (.inr (hs.imp (fun q=>⟨q,rfl⟩) (fun q=>⟨q,rfl⟩)))) (Q3 hW B b be sort a len cap l w op nm i pa kids x h3 h2 h4 hB hop hlen)
theorem Nf (B b:Nat)(l:List UInt8)(w:World)(h:Lib.IsBuilder 45 5 B b (Lib.byteCells l) w)(h0:0<l.length) :
  Calls Tryz.prog 16 #[.pointer (some ⟨b,0,none⟩)] w fun e w'=>e=.returned (.string ⟨l.toArray⟩)/\Below B w w':=by
 obtain⟨p,y,v,d,c,t⟩:∃p,Lib.BuilderAt 45 5 B b p (Lib.byteCells l) w:=by
  rcases h with h|h
  ·exact⟨_,h⟩
  ·exact⟨_,h⟩
 rw[Lib.byteCells_length] at c;have a:=c;rcases c.2 with⟨-,E⟩|⟨g,f,i,rfl,m,u,s,n,r,-⟩
 ·omega
 have k:w.drew.heap[b]?=some (.cells #[p,.slice (some ⟨g,0,none⟩) l.length f] 45 (0,0)):=d;have o:w.drew.heap[g]?=some (.cells i 5 (0,0)):=u;have C:=Aa d 1;have D:=Aa k 1;have z:(Builtin.unsafeSliceData_ #[41] 85 #[.slice (some ⟨g,0,none⟩) l.length f]).run Tryz.prog w.drew=.ok (.pointer (some ⟨g,0,none⟩)) w.drew :=
  Lib.run_unsafeSliceData_row _ _ _ _ _ _ (by omega)
 have A:(Builtin.unsafeString_ #[85,3] 9 #[.pointer (some ⟨g,0,none⟩),.int .i64 l.length]).run Tryz.prog w.drew=.ok (.string ⟨l.toArray⟩) (w.drew.freeze ⟨g,0,none⟩ l.length) :=
  Lib.run_unsafeString_row w.drew 85 3 9 5 Tryz.underlying85 (by kernel_rfl) g i.size (by simp[World.shape?,o]) l (by intro e;rw[e] at h0;simp at h0) (by omega) (by unfold maxLen at n;omega)
   fun j x hx=>a.cells (g:=g) rfl j (.int .u8 x.toNat) (by simp[Lib.byteCells,hx])
 have F:=follows;have q:Hid (B<=g):=m;clear d k u o c a s n r m t y h;go_enter Tryz.func16,Tryz.ntmps16
 go_wp2_with fail
 go_region_o
 all_goals go_wp2_with fail
 all_goals go_ret
 all_goals exact⟨rfl,Lib.below_freeze (Below.drew (Below.refl B w)) (p:=⟨g,0,none⟩) q.out _⟩
def Du (w:World)(r:Except (Nat×Nat) (PX×Nat))(e:Ending)(w':World):Prop :=
 Fr (fun _=>True) w w'/\match r with
  | .ok (x,_)=>e=.returned (.tuple #[.string ⟨x.tx.toArray⟩,.int .i64 0,.nilIface])
  | .error (c,p)=>e=.returned (.tuple #[.string ⟨#[]⟩,.int .i64 (p:Int),.iface 58 (.int .i64 (c:Int))])
theorem Fr.low {w w':World}{B:Nat}(h:Below B w w')(hb:w.heap.size<=B):Fr (fun _=>True) w w':=⟨h.os,h.tape,h.output,h.size,fun k hk _=>h.block k (by omega)⟩
theorem Ve (t : ByteArray) (w : World) (r : Except (Nat × Nat) (PX × Nat)) (HC : Hid (Calls Tryz.prog 14 #[.string t] w (Eg w r))) (htab : Lib.TabIs Tryz.prog w "internal/strconv.uint64pow10" .u64 Lib.pow10Tab) (hg : 1 < w.heap.size) (hlen : ∀ x j, r = .ok (x, j) -> x.tx.length <= 140737488355328 /\ 0 < x.tx.length) :
  Calls Tryz.prog 6 #[.string t] w (Du w r):=by
 have z : Hid (Lib.TabIs Tryz.prog w "internal/strconv.uint64pow10" .u64 Lib.pow10Tab) := htab;clear htab;go_enter Tryz.func6,Tryz.ntmps6
 go_wp2_with fail
 refine HC.out.mono ?_;rintro e b ⟨d,A⟩;rcases r with⟨c,p⟩|⟨x,j⟩
 ·obtain rfl:=A;have D:Hid (Du w (.error (c,p)) (.returned (.tuple #[.string ⟨#[]⟩,.int .i64 (p:Int),.iface 58 (.int .i64 (c:Int))])) b):=⟨d,rfl⟩;clear d HC;go_wp2_with fail
  refine bodyPost_ret (v:=.tuple #[.string ⟨#[]⟩,.int .i64 (p:Int),.iface 58 (.int .i64 (c:Int))]) (by simp[results,Tryz.results6,go_sem]) rfl D.out
 ·obtain⟨v,rfl,C⟩:=A;obtain⟨F,rfl,-,-⟩:=C.ptr;obtain⟨n,B⟩:=C;obtain⟨q,s⟩:=hlen x j rfl;have H:=d.size;have a:Fr (fun _=>True) b (b.alloc (.cells #[.pointer none,.slice none 0 0] 45)):=(Fr.refl _ b).alloc _;have o:Hid (A7 (·<b.heap.size) (b.alloc (.cells #[.pointer none,.slice none 0 0] 45)) n x (.pointer (some ⟨F,0,none⟩))):=A7.fr (a.mono fun _ _=>trivial) (fun k hk _=>hk) n x _ B;have g:(b.alloc (.cells #[.pointer none,.slice none 0 0] 45)).heap[b.heap.size]?=some (.cells #[.pointer none,.slice none 0 0] 45 (0,0)):=Aj rfl;have f:Below w.heap.size w (b.alloc (.cells #[.pointer none,.slice none 0 0] 45)):=⟨a.os.trans d.os,a.tape.trans d.tape,a.output.trans d.output,Nat.le_trans d.size a.size,fun k hk=>(a.block k (by omega) trivial).trans (d.block k hk trivial)⟩;have h:Hid (Bld b.heap.size b.heap.size [] (b.alloc (.cells #[.pointer none,.slice none 0 0] 45))):=⟨.inl ⟨Nat.le_refl _,_,g,⟨rfl,.inl ⟨rfl,rfl⟩⟩,by simp[Value.ownBlock]⟩,a.size,Hn f hg z.out,by omega⟩;have i:Hid (Fr (fun _=>True) w (b.alloc (.cells #[.pointer none,.slice none 0 0] 45))):=d.trans a;clear d B a g f HC z hlen;go_wp2_with fail
  generalize b.alloc (.cells #[.pointer none,.slice none 0 0] 45)=w2 at o h i |-;refine(wrE n b.heap.size b.heap.size [] w2 x _ o.out h.out (by simpa using q)).mono ?_;rintro e y ⟨rfl,u⟩;have E:Hid (Calls _ 16 #[_] y _):=Nf b.heap.size b.heap.size x.tx y u.1.is s;have l:Hid (Fr (fun _=>True) w y):=i.out.newer (frB u.2.1) fun k hk=>by omega
  clear u h o i;go_wp2_with (go_at_call 16;refine E.out.mono ?_;rintro e G ⟨rfl,g⟩;have m:Hid (Fr (fun _=>True) w G):=l.out.newer (frB g) fun k hk=>(by omega);clear g)
  refine bodyPost_ret (v:=.tuple #[.string ⟨x.tx.toArray⟩,.int .i64 0,.nilIface]) (by simp[results,Tryz.results6,go_sem]) rfl ⟨m.out,rfl⟩
end Go.Proofs.YtjbfcadeapphbaaGreatDoor.Sx
