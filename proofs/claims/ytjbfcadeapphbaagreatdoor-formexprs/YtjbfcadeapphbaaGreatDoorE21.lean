/- The row of expressions: what the law starts from. -/
import Derived.Test.YtjbfcadeapphbaaGreatDoorE20
import Derived.Test.YtjbfcadeapphbaaGreatDoorRows
import Derived.ChangeSame
import Derived.ChangeVars
import Derived.JoinedOf
import Derived.RowKit
import Derived.RowKitTokens
import Derived.LaidLaws
import Derived.LaidHandle
import Derived.Lay
import Derived.Lib.LaidTab
import Derived.Stop.Joined
import Derived.Stop.LaidErr
import Derived.ProofKit
import Derived.SizedLaws
import Derived.LaidSub
namespace Go.Proofs.YtjbfcadeapphbaaGreatDoor.Sx
open Go.RowKit Go.Sort Go.ChangeShapes Go.WideShapes Go.ChangeAt
theorem ownKn:ownKnob Tryz.prog.godebug=none:=by kernel_rfl
theorem eW:(Tryz.prog.globals[1]?).map (·.type)=some 193:=by kernel_rfl
theorem gRF : Tryz.prog.globalNamed "strconv.ErrRange" = some 6 := by kernel_rfl
theorem gSF : Tryz.prog.globalNamed "strconv.ErrSyntax" = some 5 := by kernel_rfl
theorem fD:(Tryz.prog.globals[6]?).map (·.type)=some 23:=by kernel_rfl
theorem fE:(Tryz.prog.globals[5]?).map (·.type)=some 23:=by kernel_rfl
theorem cY:Tryz.prog.cellsOf 158=1:=by kernel_rfl
theorem cZ:Tryz.prog.cellsOf 193=20:=by kernel_rfl
theorem Ww:Tryz.prog.cellsOf 231=1:=by kernel_rfl
theorem Wx:Tryz.prog.cellsOf 9=1:=by kernel_rfl
theorem dG : "*" ++ "errors.errorString" = "*errors.errorString" := by decide
theorem dH (u : TypeId) (h : Tryz.prog.typeName? 3 u = some "*errors.errorString") : u = 229 :=
 typeName_ptr_named (nm := "errors.errorString") (by rw [dG]; kernel_rfl) (by kernel_rfl) (by decide) u (by rw [dG]; exact h)
def laidLF : List (String × DataW Unit) := [("math/bits.deBruijn32tab", Rows.laid_math_bits_deBruijn32tab), ("math/bits.deBruijn64tab", Rows.laid_math_bits_deBruijn64tab), ("internal/strconv.uint64pow10", Rows.laid_internal_strconv_uint64pow10), ("strconv.ErrRange", Rows.laid_strconv_ErrRange), ("strconv.ErrSyntax", Rows.laid_strconv_ErrSyntax)]
theorem bO {W:World}{k o:Nat}{v:Value}(h:W.cell? ⟨k,o,none⟩=some v):k<W.heap.size:=by
 rcases Nat.lt_or_ge k W.heap.size with q|q
 ·exact q
 ·simp[World.cell?,Array.getElem?_eq_none q] at h
theorem Ji {W : World} (h : laidMetH Tryz.prog laidLF W) : (6 < W.heap.size /\ (∃ ev, W.cell? ⟨6, 0, none⟩ = some ev /\ (ev = .nilIface \/ ∃ te pe, ev = .iface te pe)) /\ ∃ ev, W.cell? ⟨5, 0, none⟩ = some ev /\ (ev = .nilIface \/ ∃ te pe, ev = .iface te pe)) /\ Lib.TabIs Tryz.prog W "internal/strconv.uint64pow10" .u64 Lib.pow10Tab := by
 have j:laidMet Tryz.prog laidLF W:=h;have b : laidMet Tryz.prog [("internal/strconv.uint64pow10", Lib.tabData .u64 Lib.pow10Tab), ("strconv.ErrRange", Rows.laid_strconv_ErrRange), ("strconv.ErrSyntax", Rows.laid_strconv_ErrSyntax)] W := j.tail.tail;have a:=Lib.tabIs_of_head Mp eW Tryz.underlying193 Tryz.underlying158 cY cZ b;obtain⟨f,k,c,_⟩:=laid_sentinel b.tail gRF fD Tryz.underlying23 dH Tryz.underlying229 Tryz.underlying231 rfl rfl Tryz.underlying9 Ww Wx;obtain⟨g,l,d,_⟩:=laid_sentinel b.tail.tail gSF fE Tryz.underlying23 dH Tryz.underlying229 Tryz.underlying231 rfl rfl Tryz.underlying9 Ww Wx;have e:W.cell? ⟨6,0,none⟩=some (.iface 229 (.pointer (some f))):=by simpa using World.var?_cell gRF c 0
 have i:W.cell? ⟨5,0,none⟩=some (.iface 229 (.pointer (some g))):=by simpa using World.var?_cell gSF d 0
 exact⟨⟨bO e,⟨_,e,.inr ⟨_,_,rfl⟩⟩,⟨_,i,.inr ⟨_,_,rfl⟩⟩⟩,a⟩
def laidEF : List (String × DataW Unit) := [("math/bits.deBruijn32tab", Rows.laid_math_bits_deBruijn32tab), ("math/bits.deBruijn64tab", Rows.laid_math_bits_deBruijn64tab), ("internal/strconv.uint64pow10", Rows.laid_internal_strconv_uint64pow10), ("errors.errorType", Rows.laid_errors_errorType), ("strconv.ErrRange", Rows.laid_strconv_ErrRange), ("strconv.ErrSyntax", Rows.laid_strconv_ErrSyntax)]
theorem fF : Tryz.prog.globalNamed "errors.errorType" = some 0 := by kernel_rfl
theorem eX : (Tryz.prog.cutTypes.find? (·.1 == "internal/reflectlite.rtype")).map (·.2) = some 171 := by kernel_rfl
theorem dA:((List.range 263).filter fun t=>Tryz.prog.rowNamed t [101,114,114,111,114])=[23]:=by kernel_rfl
theorem dB:Tryz.prog.types.size=263:=by kernel_rfl
theorem filtLF:(laidEF.filter fun x=>x.2.handleName?.isNone)=laidLF:=by kernel_rfl
theorem eE : (laidEF.filter fun x => x.2.handleName?.isSome) = [("errors.errorType", Rows.laid_errors_errorType)] := by kernel_rfl
theorem basee_of_laidF {W:World}(h:laidMetH Tryz.prog laidEF W):I1 W:=by
 have b:laidMet Tryz.prog (laidEF.filter fun x=>x.2.handleName?.isNone) W/\handlesMet Tryz.prog (laidEF.filter fun x=>x.2.handleName?.isSome) W:=h;rw[filtLF,eE] at b;obtain⟨a,u,l,e,f,g,i,c⟩:=b.2 _ (List.mem_singleton.2 rfl);have j:a=[101,114,114,111,114]:=(Option.some.inj e).symm;subst j;obtain rfl:=Option.some.inj (eX.symm.trans f);have d:l∈(List.range 263).filter fun t=>Tryz.prog.rowNamed t [101,114,114,111,114]:=List.mem_filter.2 ⟨List.mem_range.2 (by rw[<- dB];exact g),i⟩;rw[dA] at d;obtain rfl:=List.mem_singleton.1 d;have k:typeHandle Tryz.prog 23=.pointer (some ⟨7,23,none⟩):=by kernel_rfl
 rw[k] at c;refine⟨(Ji b.1).1,(Ji b.1).2,?_⟩;simpa using World.var?_cell fF c 0
end Go.Proofs.YtjbfcadeapphbaaGreatDoor.Sx
