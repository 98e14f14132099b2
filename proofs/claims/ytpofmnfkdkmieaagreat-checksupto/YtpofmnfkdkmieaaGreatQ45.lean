/- What is proved here: ChecksUptoSaid: for every class of bulk  -/
import Derived.Test.YtpofmnfkdkmieaaGreatQ26
import Derived.Test.YtpofmnfkdkmieaaGreatQ44
set_option linter.unusedVariables false
set_option linter.unusedSimpArgs false
namespace Go.Proofs.YtpofmnfkdkmieaaGreat
namespace checks
open Go Go.RowKit Go.ChangeShapes Go.WideShapes Go.ChangeAt At E
theorem structOf {P:Program} {t:TypeId} {L:List (TypeId × Nat)} (h:T7 P t=some L):∃ fs,P.underlying t=some (.struct fs):=by
 unfold T7 at h;split at h
 ·rename_i fs hf;exact ⟨fs,hf⟩
 ·cases h
set_option maxRecDepth 100000 in
theorem contract (H:Type) (enc:TypeId × Value→H) (W:World) (base:Nat) (args:Array Value) (ds gs:List (DataW H)) (before:List MemPlace)
  (hval:∀ (j:Nat) t v,Tryz.f4.params[j]?=some t→args[j]?=some v→Value.okWide Tryz.prog W .any base t v)
  (hW:DataW.Whole enc Tryz.prog Tryz.f4.params.toList Rows.checksSpec.vars false W args.toList ds gs before) (hk:Rows.uptoSmall H (ds++gs)=true) :
  Calls Tryz.prog 4 args W fun e W'=>∃ v,e=.returned v∧Rows.checksSpec.post enc Tryz.prog Tryz.f4 false true false false W args v W':=by
 have hW':=hW;obtain ⟨p,q,hA0,hV,rfl,hfz,hnd⟩:=hW;have hA:DataW.TrodAll enc Tryz.prog W 0 (fun _=>true) true Tryz.f4.params.toList args.toList ds p:=hA0;rw [pars] at hA hval;obtain ⟨v0,vs0,d0,ds0,p0,q0,hargs,rfl,rfl,h0,r0⟩:=trodAll_cons hA;obtain ⟨rfl,rfl,rfl⟩:=trodAll_nil r0;obtain rfl:args=#[v0]:=by cases args;simp_all
 obtain ⟨rfl,rfl⟩:=trodVars_none hV;have hbulk:Rows.uptoBulkAll ([d0]++[])≤1048576:=of_decide_eq_true hk;simp only [List.append_nil,Rows.uptoBulkAll] at hbulk;have k0:=h0;have hlt:=hW'.lt;obtain ⟨n0,g0⟩:=h0;obtain ⟨fs,hfs⟩:=structOf fl_cl;have hv0:Value.okWide Tryz.prog W .any base 25 v0:=hval 0 25 v0 rfl rfl;obtain ⟨cs,rfl, -⟩:=okWide_struct hfs hv0;have e0:(Value.agg cs).cells.toList=cs.toList:=rfl;rw [e0] at g0;obtain ⟨c,fv,mv,hcs,hcl,hg⟩:=rd_cl g0 (show Rows.uptoBulk d0≤1048576 from Nat.le_trans (Nat.le_add_right _ _) hbulk);obtain rfl:cs=(clV c fv mv).toArray:=by rw [← hcs]
 refine Calls.mono (checksAll_any c fv mv W hcl hg) ?_;rintro e W' ⟨rfl,hb⟩;have l0:∀ x ∈ p0,x.block<W.heap.size:=fun x hx=>hlt x (by simp [hx]);refine ⟨_,J,[d0],[],_,[],p0++[],[],hW',?_,?_,J,hb.frame _,fun h=>by cases h⟩
 ·rw [ress];exact trodAll_cons_mk (shut_bool ul_bool true) trodAll_mk0
 ·rw [pars];exact ⟨p0,[],Below.trod laid (by kernel_rfl) (of_decide_eq_true (by kernel_rfl)) k0 hb l0,J,J⟩
end checks
end Go.Proofs.YtpofmnfkdkmieaaGreat
