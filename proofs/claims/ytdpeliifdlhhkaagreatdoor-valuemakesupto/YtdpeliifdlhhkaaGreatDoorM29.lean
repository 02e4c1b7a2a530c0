/- The reference: sets. -/
import Derived.Test.YtdpeliifdlhhkaaGreatDoorM28
namespace Go.Proofs.YtdpeliifdlhhkaaGreatDoor.Sx
open Go.RowKit Go.Sort Tryz
set_option maxRecDepth 100000
set_option maxHeartbeats 4000000
theorem Mz (n m:Nat)(P:Nat->Prop)(w:World)(op:ByteArray)(o1:(op.toList==[105,110])=false)(o2:(op.toList==[115,117,98,115,101,116])=false)(x y:Ag (AV n))(u v:Value)(hx:Ref P w (n+1) x u)(hy:Ref P w (n+1) y v)(h:(((x.kind:Nat):Int)==5)=false\/(((x.kind:Nat):Int)==5)=true/\(((y.kind:Nat):Int)==5)=false)(z:AV (m+1))(hz:z=(Ar:Ag (AV m))) :
  Calls prog 51 #[.string op,u,v] w (Aw P w (m+1) z):=by
 obtain⟨s,X,a,Y,va,vl,vc,rfl,-,S,-,-⟩:=id hx;obtain⟨Z,t,B,A,M,O,N,rfl,-,-,-,-⟩:=id hy;have U:a<=4294967296:=S.2.1;have mo:=follows;obtain⟨c,b,-,e⟩:=Qf w #[.int .i64 x.kind,.int .i64 x.int,.string s,.slice X a Y,.slice va vl vc] #[.int .i64 y.kind,.int .i64 y.int,.string Z,.slice t B A,.slice M O N] #[.int .i64 0,.int .i64 0,.string ⟨#[]⟩,.slice none 0 0,.slice none 0 0] 30;have R:Hid (∀W:World,Ref (fun k=>P k/\k≠w.heap.size+1+1) W (m+1) z Bk):=fun W=>by rw[hz];exact Cm _ W _
 clear hx hy S hz;rcases h with T|⟨T,b2⟩
 all_goals
  go_enter func51,ntmps51
  go_wp2_with fail
  generalize ((w.alloc _).alloc _).alloc _=W0 at c b e |-;go_loopw [9,10,11] (fun l ms i wr=>l=.slice none 0 0/\ms=.bool false/\i=.int .i64 0/\W0=wr) (fun _ _ _ _=>0)
  case atStart=>exact⟨rfl,rfl,rfl,rfl⟩
  case round =>
   obtain⟨rfl,rfl,rfl,rfl⟩:=hrel;have i3:=Ab b.out 3;have za:=Aa b.out;clear b;rcases Nat.eq_zero_or_pos a with g|g
   ·have V:¬(0:Int)<(a:Int):=by omega
    clear g;obtain⟨d,C,D,E,F,G,H,I,J,K,L,Q,f⟩:=Bg e.out (by omega) c.out.below (R.out W0);go_wp2_with fail
    obtain⟨j,o,p,q,r⟩:=Ah f.out;change bodyPost _ _ _ _ _ (Ao _ _ 0 _ _ _ _ _);exact Ae2 (by simp[results,results51,go_sem,j,o,p,q,r]) rfl d.out
   ·have V:(0:Int)<(a:Int):=by omega
    clear g;obtain⟨d,C,D,E,F,G,H,I,J,K,L,Q,f⟩:=Bg e.out (by omega) c.out.below (R.out W0);go_wp2_with fail
    obtain⟨j,o,p,q,r⟩:=Ah f.out;change bodyPost _ _ _ _ _ (Ao _ _ 0 _ _ _ _ _);exact Ae2 (by simp[results,results51,go_sem,j,o,p,q,r]) rfl d.out
end Go.Proofs.YtdpeliifdlhhkaaGreatDoor.Sx
