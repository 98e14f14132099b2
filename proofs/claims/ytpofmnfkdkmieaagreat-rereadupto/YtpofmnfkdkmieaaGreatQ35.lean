/- What is proved here: RereadUptoSaid: for every class, all bytes and each byte of bulk at most 1048576 the statement Reread gives true, and they read behind the call as they read before. -/
import Derived.Test.YtpofmnfkdkmieaaGreatQ21
import Derived.Test.YtpofmnfkdkmieaaGreatQ34
set_option linter.unusedVariables false
set_option linter.unusedSimpArgs false
namespace Go.Proofs.YtpofmnfkdkmieaaGreat.reread
open Go Go.RowKit Go.ChangeShapes Go.WideShapes Go.ChangeAt At E

theorem structOf {P : Program} {t : TypeId} {L : List (TypeId × Nat)} (h : fieldsOf P t = some L) : ∃ fs, P.underlying t = some (.struct fs) := by
  unfold fieldsOf at h
  split at h
  · rename_i fs hf; exact ⟨fs, hf⟩
  · cases h
theorem ul_u8 : Tryz.prog.underlying 5 = some (.int .u8) := by kernel_rfl
theorem byte_of {z : Int} (h : (Lit.int .u8 z).wf = true) : ∃ m : UInt8, Value.int .u8 z = byteV m := by
  simp only [Lit.wf, Bool.and_eq_true, decide_eq_true_eq] at h
  have h1 : (0 : Int) ≤ z := h.1
  have h2 : z ≤ 255 := h.2
  refine ⟨UInt8.ofNat z.toNat, ?_⟩
  unfold byteV
  have : (UInt8.ofNat z.toNat).toNat = z.toNat := by
    rw [UInt8.toNat_ofNat']
    exact Nat.mod_eq_of_lt (by omega)
  rw [this, Int.toNat_of_nonneg h1]
set_option maxRecDepth 100000 in
theorem contract (H : Type) (enc : TypeId × Value → H) (W : World) (base : Nat) (args : Array Value) (ds gs : List (DataW H)) (before : List MemPlace)
    (hval : ∀ (j : Nat) t v, Tryz.f6.params[j]? = some t → args[j]? = some v → Value.okWide Tryz.prog W .any base t v)
    (hW : DataW.Whole enc Tryz.prog Tryz.f6.params.toList Rows.rereadSpec.vars false W args.toList ds gs before) (hk : Rows.uptoSmall H (ds ++ gs) = true) :
    Calls Tryz.prog 6 args W fun e W' => ∃ v, e = .returned v ∧ Rows.rereadSpec.post enc Tryz.prog Tryz.f6 false true false false W args v W' := by
  have hW' := hW
  obtain ⟨p, q, hA0, hV, rfl, hfz, hnd⟩ := hW
  have hA : DataW.TrodAll enc Tryz.prog W 0 (fun _ => true) true Tryz.f6.params.toList args.toList ds p := hA0
  rw [pars] at hA hval
  obtain ⟨v0, vs0, d0, ds0, p0, q0, hargs, rfl, rfl, h0, r0⟩ := trodAll_cons hA
  obtain ⟨v1, vs1, d1, ds1, p1, q1, hargs1, rfl, rfl, h1, r1⟩ := trodAll_cons r0
  obtain ⟨v2, vs2, d2, ds2, p2, q2, hargs2, rfl, rfl, h2, r2⟩ := trodAll_cons r1
  obtain ⟨rfl, rfl, rfl⟩ := trodAll_nil r2
  subst hargs2
  subst hargs1
  obtain rfl : args = #[v0, v1, v2] := by cases args; simp_all
  obtain ⟨rfl, rfl⟩ := trodVars_none hV
  have hbulk : Rows.uptoBulkAll ([d0, d1, d2] ++ []) ≤ 1048576 := of_decide_eq_true hk
  simp only [List.append_nil, Rows.uptoBulkAll] at hbulk
  have k0 := h0
  have k1 := h1
  have k2 := h2
  have hlt := hW'.lt
  obtain ⟨n0, g0⟩ := h0
  obtain ⟨n1, g1⟩ := h1
  obtain ⟨n2, g2⟩ := h2
  obtain ⟨fs, hfs⟩ := structOf fl_cl
  have hv0 : Value.okWide Tryz.prog W .any base 25 v0 := hval 0 25 v0 rfl rfl
  have hv1 : Value.okWide Tryz.prog W .any base 9 v1 := hval 1 9 v1 rfl rfl
  have hv2 : Value.okWide Tryz.prog W .any base 5 v2 := hval 2 5 v2 rfl rfl
  obtain ⟨cs, rfl, -⟩ := okWide_struct hfs hv0
  have e0 : (Value.agg cs).cells.toList = cs.toList := rfl
  rw [e0] at g0
  obtain ⟨c, fv, mv, hcs, hcl, hg⟩ := rd_cl g0 (show Rows.uptoBulk d0 ≤ 1048576 from Nat.le_trans (Nat.le_add_right _ _) hbulk)
  obtain rfl : cs = (clV c fv mv).toArray := by rw [← hcs]
  obtain ⟨s, rfl⟩ := okWide_string ul_str hv1
  have e1 : (Value.string s).cells.toList = [.string s] := rfl
  rw [e1] at g1
  obtain ⟨s', hs', hs1⟩ := rd_str ul_str g1
  cases hs'
  replace hs1 : Rows.uptoBulk d1 = s.size + 1 := hs1
  obtain ⟨z, rfl⟩ := okWide_int ul_u8 hv2
  have e2 : (Value.int .u8 z).cells.toList = [.int .u8 z] := rfl
  rw [e2] at g2
  obtain ⟨z', hz', -, hwf⟩ := DataW.trod_int ul_u8 g2
  cases hz'
  obtain ⟨m, hm⟩ := byte_of hwf
  have hcall := reread_any c fv mv s m W hcl (by omega)
  rw [← hm] at hcall
  refine Calls.mono hcall ?_
  rintro e W' ⟨rfl, hb⟩
  have l0 : ∀ x ∈ p0, x.block < W.heap.size := fun x hx => hlt x (by simp [hx])
  have l1 : ∀ x ∈ p1, x.block < W.heap.size := fun x hx => hlt x (by simp [hx])
  have l2 : ∀ x ∈ p2, x.block < W.heap.size := fun x hx => hlt x (by simp [hx])
  refine ⟨_, rfl, [d0, d1, d2], [], _, [], p0 ++ (p1 ++ (p2 ++ [])), [], hW', ?_, ?_, rfl, hb.frame _, fun h => by cases h⟩
  · rw [ress]
    exact trodAll_cons_mk (shut_bool ul_bool true) trodAll_mk0
  · rw [pars]
    exact ⟨p0, p1 ++ (p2 ++ []), Below.trod laid (by kernel_rfl) (of_decide_eq_true (by kernel_rfl)) k0 hb l0, ⟨p1, p2 ++ [], Below.trod laid (by kernel_rfl) (of_decide_eq_true (by kernel_rfl)) k1 hb l1, ⟨p2, [], Below.trod laid (by kernel_rfl) (of_decide_eq_true (by kernel_rfl)) k2 hb l2, rfl, rfl⟩, rfl⟩, rfl⟩
end Go.Proofs.YtpofmnfkdkmieaaGreat.reread
