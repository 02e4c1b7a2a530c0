/- The reference: a text is read as an expression. -/
import Derived.Test.YtjbfcadeapphbaaGreatDoorF29
import Derived.Test.YtjbfcadeapphbaaGreatDoorF35
namespace Go.Proofs.YtjbfcadeapphbaaGreatDoor.Sx
open Go.RowKit Go.Sort
theorem kM (T:List UInt8)(i:Nat):Xm (tkF T i):=by
 intro h;have f:(Ey (T.drop (atF T i))).1=2:=h;show(∀c∈(T.drop (atF T i)).take (Ey (T.drop (atF T i))).2,Bg c=true)/\Lib.parseIntB 64 ((T.drop (atF T i)).take (Ey (T.drop (atF T i))).2)=_;have j:∀l:List UInt8,(Ey l).1=2->(∀c∈l.take (Ey l).2,Bg c=true)/\l.take (Ey l).2≠[]:=by
  intro l h;cases l with
  | nil=>simp[Ey] at h
  | cons c l =>
   rw[Ie] at h |-;have o:=Gz l 1;cases k:Bp c with
   | true=>rw[k] at h;simp at h
   | false =>
    rw[k,if_neg (by simp)] at h;rw[if_neg (by simp)];cases f:Bu c with
    | true =>
     rw[f,if_pos rfl] at h;rw[if_pos rfl];have n:=Mb (l:=l) f;refine⟨?_,?_⟩
     ·have g:Mr (c::l)=true:=by
       cases g:Mr (c::l) with
       | true=>rfl
       | false=>rw[g] at h;simp at h
      unfold Mr at g;rw[Bool.and_eq_true] at g;intro d m;exact List.all_eq_true.1 g.1 d m
     ·intro e;have:((c::l).take (Cm (c::l))).length=0:=by rw[e];rfl
      rw[List.length_take] at this;simp at this;omega
    | false =>
     rw[f,if_neg (by simp)] at h;exfalso
     revert h
     split
     ·intro h;omega
     ·split<;>simp
 obtain⟨a,b⟩:=j _ f;exact⟨a,eP _ b a⟩
theorem Nz (T:List UInt8)(hT:T.length<=4000)(i:Nat):(tkF T i).tx.length<=4000:=by
 show(txF T i).length<=4000;rw[G6];have:=(Ji T i).2.2;omega
theorem Fr.newerT {P:Nat->Prop}{w w0 w':World}(h:Fr (fun _=>True) w w0)(f:Fr P w0 w')(hp:∀k,k<w.heap.size->P k):Fr (fun _=>True) w w' :=
 ⟨f.os.trans h.os,f.tape.trans h.tape,f.output.trans h.output,Nat.le_trans h.size f.size,fun k hk _=>(f.block k (Nat.lt_of_lt_of_le hk h.size) (hp k hk)).trans (h.block k hk trivial)⟩
theorem RSd.faults {K:Nat->Tk}{N br bl d c p:Nat}{w:World}(h:RSd K N w br bl (.error (c,p)) d):w.cell? ⟨br,3,none⟩=some (.int .i64 (c:Int))/\w.cell? ⟨br,4,none⟩=some (.int .i64 (p:Int)):=by
 obtain⟨g,⟨e,I,b,a,-,-,-,f⟩,-⟩:=h;obtain⟨-,rfl⟩:=f;exact⟨Aa a 3,Aa a 4⟩
theorem RSd.start {K:Nat->Tk}{N bl cap:Nat}{w:World}(h:Gr K N bl w):RSd K N (w.alloc (.cells #[.slice (some ⟨bl,0,none⟩) (N+1) cap,.int .i64 0,.int .i64 0,.int .i64 0,.int .i64 0] 52)) w.heap.size bl (.ok 0) 0 :=
 ⟨0,⟨cap,0,0,Af rfl,Nat.zero_le _,by have:=h.1;omega,h.of (P:=fun _=>True) ((Fr.refl _ w).alloc _) trivial,rfl⟩,fun _=>rfl⟩
end Go.Proofs.YtjbfcadeapphbaaGreatDoor.Sx
