/- The reference: what a token is, plainly; its rows. -/
import Derived.Test.YtjbfcadeapphbaaGreatDoorK30
import Derived.Deep.LoopGhost
namespace Go.Proofs.YtjbfcadeapphbaaGreatDoor.Sx
open Go.RowKit Go.Sort
theorem eA (M:Nat)(hM:M<=18446744073709551615):∀(l:List UInt8)(a:Nat),(∀c∈l,Bn c=true)->a<=M->Lib.parseUintM M a l=if Q8 a l<=M then .ok (Q8 a l) else .range
 | [],a,_,ha=>by
  show Lib.NumEnd.ok a=if a<=M then .ok a else .range;rw[if_pos ha]
 | c::l,a,hd,ha=>by
  have hc:=hd c (by simp);simp[Bn,UInt8.le_iff_toNat_le] at hc;have e:Q8 a (c::l)=Q8 _ l:=rfl;rw[e];have hmono:=Zt l (a*10+(c.toNat-48));have ih:=fun h=>eA M hM l (a*10+(c.toNat-48)) (fun d hd'=>hd d (by simp[hd'])) h;clear e;rw[Lib.parseUintM,if_pos hc];obtain⟨z,hz⟩:∃z,a*10+(c.toNat-48)=z:=⟨_,rfl⟩;rw[hz] at hmono ih |-;by_cases h1:1844674407370955162<=a
  ·rw[if_pos h1,if_neg (by omega)]
  ·rw[if_neg h1];by_cases h2:M<z
   ·rw[if_pos h2,if_neg (by omega)]
   ·rw[if_neg h2];exact ih (by omega)
theorem bB (l:List UInt8)(hn:l≠[])(hd:∀c∈l,Bn c=true):Lib.parseIntB 64 l=if Q8 0 l<9223372036854775808 then .ok (Q8 0 l:Int) else .range:=by
 cases l with
 | nil=>exact absurd rfl hn
 | cons c r =>
  have f:=hd c (by simp);simp[Bn,UInt8.le_iff_toNat_le] at f;have e:¬(c.toNat=43\/c.toNat=45):=by omega
  have a:¬c.toNat=45:=by omega
  have g:=eA (2 ^ 64-1) (by decide) _ 0 hd (by omega);simp only[Lib.parseIntB];rw[if_neg e];unfold Lib.parseUintB;rw[if_neg (by simp),g];generalize Q8 0 (c::r)=N;by_cases b:N<=2 ^ 64-1
  ·rw[if_pos b];simp only;by_cases d:N<9223372036854775808
   ·rw[if_neg (by simp[a];omega),if_neg (by simp[a]),if_neg a,if_pos d]
   ·rw[if_pos (by simp[a];omega),if_neg d]
  ·rw[if_neg b,if_neg (by omega)]
end Go.Proofs.YtjbfcadeapphbaaGreatDoor.Sx
