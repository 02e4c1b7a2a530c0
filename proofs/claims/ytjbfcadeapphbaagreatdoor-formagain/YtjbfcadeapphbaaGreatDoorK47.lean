/- FormAgain: the contract of the row. -/
import Derived.Test.YtjbfcadeapphbaaGreatDoorK23
import Derived.Test.YtjbfcadeapphbaaGreatDoorK46
namespace Go.Proofs.YtjbfcadeapphbaaGreatDoor
set_option maxRecDepth 100000
open Go.ChangeShapes Go.WideShapes Go.ChangeAt Go.RowKit
open Go.ChangeMaps (open_string shut_string)
theorem Sx.agains_lifted (os:Os)(started:os.Started)(H:Type)(enc:TypeId×Value->H) :
  ReturnsInHanded {} Tryz.checked os 5 .any (fun w args=>(Rows.formAgainSpec.pre enc Tryz.prog Tryz.f5 [] false w args/\laidMetH Tryz.prog Sx.laidLF w)/\sizedMet enc Tryz.prog Tryz.f5 (OpenSpec.ofChange Rows.formAgainSpec) false w args)
   (Rows.formAgainSpec.post enc Tryz.prog Tryz.f5 false true false false):=by
 refine returnsInHanded_of_change_and (C:=Tryz.checked) (X:=fun w _=>laidMetH Tryz.prog Sx.laidLF w) (fun _ _ _ hh h=>h.of_heap hh) Sx.ownKn started (by kernel_rfl) Tryz.func5
  (ChangeSpec.witness_shaped (enc:=enc) (C:=Tryz.checked) (os:=os) (X:=fun w _=>laidMetH Tryz.prog Sx.laidLF w) false (World.laidAll Tryz.prog os Sx.laidLF) #[.string ⟨#[]⟩] 8 (World.laidAll_os _ _ _) (World.shaped_of_ZipB (by kernel_rfl) (by kernel_rfl)) (by kernel_rfl) (by kernel_rfl) (by kernel_rfl) (laidMet_laidAll _ (by kernel_rfl) (by kernel_rfl))) ?_
 intro W d args x l k c B _ a z _;have f:(DataW.weightsEach Tryz.prog (Tryz.f5.params.toList++Rows.formAgainSpec.plain.varTypes Tryz.prog) (x++l)).all (·<=reachBytes)=true:=a;clear a;have b:∀(j:Nat) t v,Tryz.f5.params[j]?=some t->args[j]?=some v->Value.okWide Tryz.prog W .any d t v:=c;have u:=B;obtain⟨p,q,o,s,rfl,F,G⟩:=B;have y:DataW.TrodAll enc Tryz.prog W 0 (fun _=>true) true Tryz.f5.params.toList args.toList x p:=o;have A:DataW.TrodVars enc Tryz.prog W (fun _=>true) [] l q:=s;rw[Tryz.params5] at y b f;obtain⟨J,M,rfl,rfl,E⟩:=trodAll_one y;obtain⟨i,rfl,rfl,rfl,K⟩:=open_string Tryz.underlying9 (b 0 9 J rfl rfl) E;obtain⟨rfl,rfl⟩:l=[]/\q=[]:=by
  cases l with
  | nil=>exact⟨rfl,A⟩
  | cons g r=>exact absurd A (by intro h;cases h)
 have D:=sized_string f (j:=0) (t:=9) rfl rfl;have N:i.data.toList.length=i.size:=by simp
 have I:reachBytes=140737488351232:=rfl;rw[I] at D;have n:Rows.formAgainSpec.fn H ([.lit (.string i.data.toList)]++[])={ results:=[.lit (.bool true)],args:=[.lit (.string i.data.toList)] }:=by simp[Rows.formAgainSpec]
 refine(Sx.agains_any i W ⟨(Sx.base_of_laidF z).1,(Sx.base_of_laidF z).2⟩ (by omega)).mono ?_;rintro e L ⟨rfl,m⟩;refine⟨_,rfl,_,_,_,[],[],[],u,?_,?_,?_,m.frame _,fun h=>by cases h⟩
 ·rw[n];exact trodAll_mk1 (shut_bool Tryz.underlying4 true)
 ·rw[n];exact trodAll_mk1 (shut_string Tryz.underlying9 K)
 ·rw[n];rfl
end Go.Proofs.YtjbfcadeapphbaaGreatDoor
