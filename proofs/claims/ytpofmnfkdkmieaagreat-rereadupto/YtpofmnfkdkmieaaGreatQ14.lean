/- What is proved here: the program's own asking of signatures, fields, methods, classes (package shape). -/
import Derived.Test.YtpofmnfkdkmieaaGreatQ13
import Derived.Test.YtpofmnfkdkmieaaGreatQ10
import Derived.Test.YtpofmnfkdkmieaaGreatQ06
set_option linter.unusedVariables false
set_option linter.unusedSimpArgs false
namespace Go.Proofs.YtpofmnfkdkmieaaGreat
open Go.RowKit At E

def tyEq (a b : Ty) : Bool := decide (a.kind = b.kind) && eqS a.cls b.cls
def tysEq (l l' : List Ty) : Bool := decide (l.length = l'.length) && (List.range l.length).all (fun i => match l[i]?, l'[i]? with | some a, some b => tyEq a b | _, _ => true)
theorem tysEq_eq (l l' : List Ty) : tysEq l l' = decide (l.map (fun t => (t.kind, t.cls)) = l'.map (fun t => (t.kind, t.cls))) := by
  rw [Bool.eq_iff_iff]
  simp only [tysEq, Bool.and_eq_true, decide_eq_true_eq, List.all_eq_true, List.mem_range]
  constructor
  · rintro ⟨h1, h2⟩
    apply List.ext_getElem?
    intro i
    rw [List.getElem?_map, List.getElem?_map]
    by_cases hi : i < l.length
    · have h3 := h2 i hi
      rw [List.getElem?_eq_getElem hi, List.getElem?_eq_getElem (h1 ▸ hi)] at h3 ⊢
      simp only [tyEq, eqS, Bool.and_eq_true, decide_eq_true_eq] at h3
      simp [h3.1, h3.2]
    · rw [List.getElem?_eq_none (by omega), List.getElem?_eq_none (by omega)]
  · intro h
    have hl : l.length = l'.length := by have := congrArg List.length h; simpa using this
    refine ⟨hl, fun i hi => ?_⟩
    have h3 := congrArg (fun x => x[i]?) h
    simp only [List.getElem?_map] at h3
    rw [List.getElem?_eq_getElem hi, List.getElem?_eq_getElem (hl ▸ hi)] at h3 ⊢
    simp only [Option.map_some, Option.some.injEq, Prod.mk.injEq] at h3
    simp [tyEq, eqS, h3.1, h3.2]
theorem tys_no {l l' : List Ty} {k : Nat} (hk : k < l.length) (hk' : k < l'.length) (h : tyEq l[k] l'[k] = false) : tysEq l l' = false := by
  unfold tysEq
  rw [range_no hk (by rw [List.getElem?_eq_getElem hk, List.getElem?_eq_getElem hk']; exact h)]; simp
theorem equal_any (v v' : Value) (l l' : List Ty) (w : World) (hv : TysAt w v l) (hv' : TysAt w v' l') : Pure Tryz.prog 324 #[v, v'] w (.bool (tysEq l l')) := by
  obtain ⟨p, c, rfl, hl, hr⟩ := hv.parts
  obtain ⟨p', c', rfl, hl', hr'⟩ := hv'.parts
  replace hr : Hid _ := hr
  replace hr' : Hid _ := hr'
  clear hv hv'
  refine opens (args := [.slice p l.length c, .slice p' l'.length c']) Tryz.func324 rfl Tryz.ntmps324 ?_
  refine WC_seq ?_
  refine WC_region ?_
  refine WL_op rfl (Ex_assign rfl) ?_
  refine WL_nil ?_
  refine WQ_next ?_
  refine WC_seq ?_
  refine WC_seq ?_
  refine WC_region ?_
  refine WL_op rfl (Ex_move rfl) ?_
  refine WL_op rfl (Ex_lenL (ts rfl) rfl) ?_
  refine WL_op rfl (Ex_move rfl) ?_
  refine WL_op rfl (Ex_lenL (ts rfl) rfl) ?_
  refine WL_op rfl (Ex_neq rfl rfl) ?_
  refine WL_nil ?_
  refine WQ_next ?_
  refine WC_if rfl ?_ ?_  -- cond 1 slices.go:21
  · intro c1
    try (first | replace c1 := of_decide_eq_true c1 | replace c1 := of_nd_true c1)
    have hF : tysEq l l' = false := by unfold tysEq; rw [decide_eq_false (by omega)]; rfl
    refine WC_seq ?_
    refine WC_region ?_
    refine WL_op rfl (Ex_assign rfl) ?_
    refine WL_nil ?_
    refine WQ_next ?_
    refine WC_ret ?_
    refine WQ_ret ?_
    refine P_end1 rfl rfl ?_
    first | exact congrArg Value.bool hF.symm | (have hT : tysEq l l' = true := by unfold tysEq; rw [decide_eq_true hE, range_end hI.1 (by omega) hI.2]; rfl); exact congrArg Value.bool hT.symm
  · intro c1
    try (first | replace c1 := of_decide_eq_false c1 | replace c1 := of_nd_false c1)
    have hE : l.length = l'.length := by omega
    refine WC_skip ?_
    refine WQ_next ?_
    refine WC_seq ?_
    refine WC_seq ?_
    refine WC_region ?_
    refine WL_op rfl (Ex_move rfl) ?_
    refine WL_op rfl (Ex_lenL (ts rfl) rfl) ?_
    refine WL_op rfl (Ex_move rfl) ?_
    refine WL_nil ?_
    refine WQ_next ?_
    refine WC_block ?_
    refine WC_sub (E' := (fun k : Nat => [(0, .slice p l.length c), (1, .slice p' l'.length c'), (12, .int .i64 (l.length : Nat)), (13, .int .i64 (k : Nat))]) (0)) ⟨rfl, rfl, rfl, rfl, trivial⟩ (WC_loop (X := Nat) (fun k : Nat => [(0, .slice p l.length c), (1, .slice p' l'.length c'), (12, .int .i64 (l.length : Nat)), (13, .int .i64 (k : Nat))]) _ _ (fun k : Nat => []) (fun k : Nat => Asr.none) (fun k : Nat => k ≤ l.length ∧ (List.range k).all (fun i => match l[i]?, l'[i]? with | some a, some b => tyEq a b | _, _ => true) = true) (fun k : Nat => l.length - k) (0) (⟨Nat.zero_le _, rfl⟩) ?_)
    intro k hI
    refine WC_seq ?_
    refine WC_region ?_
    refine WL_op rfl (Ex_lss rfl rfl) ?_
    refine WL_nil ?_
    refine WQ_next ?_
    refine WC_seq ?_
    refine WC_if rfl ?_ ?_  -- cond 2 slices.go:24
    · intro c2
      try (first | replace c2 := of_decide_eq_true c2 | replace c2 := of_nd_true c2)
      have hk : k < l.length := by omega
      have hk' : k < l'.length := by omega
      obtain ⟨b, o, hp, hb, hc⟩ := hr.out k l[k] (List.getElem?_eq_getElem hk)
      obtain ⟨b', o', hp', hb', hc'⟩ := hr'.out k l'[k] (List.getElem?_eq_getElem hk')
      subst hp; subst hp'
      refine WC_skip ?_
      refine WQ_next ?_
      refine WC_seq ?_
      refine WC_block ?_
      refine WC_seq ?_
      refine WC_region ?_
      refine WL_op rfl (Ex_move rfl) ?_
      refine WL_op rfl (Ex_assign rfl) ?_
      refine WL_nil ?_
      refine WQ_next ?_
      refine WC_seq ?_
      refine WC_draw mixed (by kernel_rfl) ?_
      refine WO_op rfl (Ex_move rfl) ?_
      refine WO_op rfl (Ex_move rfl) ?_
      refine WO_op rfl (Ex_at (ts rfl) rfl rfl ?_) ?_
      · omega
      (first | refine WO_op rfl (Ex_loadN (tn rfl) rfl (row_old hc hb) rfl) ?_ | refine WO_op rfl (Ex_loadN (tn rfl) rfl (row_old hc' hb') rfl) ?_)
      refine WO_op rfl (Ex_move rfl) ?_
      refine WO_op rfl (Ex_move rfl) ?_
      refine WO_op rfl (Ex_at (ts rfl) rfl rfl ?_) ?_
      · omega
      (first | refine WO_op rfl (Ex_loadN (tn rfl) rfl (row_old hc hb) rfl) ?_ | refine WO_op rfl (Ex_loadN (tn rfl) rfl (row_old hc' hb') rfl) ?_)
      refine WO_op rfl (Ex_neqTy rfl rfl) ?_
      refine WO_nil ?_
      refine WQ_next ?_
      refine WC_if rfl ?_ ?_  -- cond 3 slices.go:25
      · intro c3
        try (first | replace c3 := of_decide_eq_true c3 | replace c3 := of_nd_true c3)
        have hF : tysEq l l' = false := tys_no hk hk' (by have h9 := c3; rw [Bool.not_eq_true'] at h9; exact h9)
        refine WC_seq ?_
        refine WC_region ?_
        refine WL_op rfl (Ex_assign rfl) ?_
        refine WL_nil ?_
        refine WQ_next ?_
        refine WC_ret ?_
        refine WQ_ret ?_
        refine WQ_ret ?_
        refine WQ_ret ?_
        refine WQ_ret ?_
        refine WQ_ret ?_
        refine P_end1 rfl rfl ?_
        first | exact congrArg Value.bool hF.symm | (have hT : tysEq l l' = true := by unfold tysEq; rw [decide_eq_true hE, range_end hI.1 (by omega) hI.2]; rfl); exact congrArg Value.bool hT.symm
      · intro c3
        try (first | replace c3 := of_decide_eq_false c3 | replace c3 := of_nd_false c3)
        refine WC_skip ?_
        refine WQ_bnext ?_
        refine WQ_next ?_
        refine WC_region ?_
        (first | (refine WL_op rfl (Ex_inc rfl rfl ?_) ?_; omega) | (refine WL_op rfl (Ex_addB rfl rfl ?_) ?_; omega) | refine WL_op rfl (Ex_add rfl rfl) ?_)
        refine WL_op rfl (Ex_move rfl) ?_
        refine WL_nil ?_
        refine WQ_again (k + 1) ?_ (⟨hk, range_snoc hI.2 (by rw [List.getElem?_eq_getElem hk, List.getElem?_eq_getElem hk']; have h9 := c3; rw [Bool.not_eq_false'] at h9; exact h9)⟩) 0 rfl (rfl) ⟨rfl, rfl, rfl, rfl, trivial⟩
        omega
    · intro c2
      try (first | replace c2 := of_decide_eq_false c2 | replace c2 := of_nd_false c2)
      refine WC_exit ?_
      refine WQ_exit ?_
      refine WQ_lexit ?_
      refine WQ_here ?_
      refine WQ_next ?_
      refine WC_seq ?_
      refine WC_region ?_
      refine WL_op rfl (Ex_assign rfl) ?_
      refine WL_nil ?_
      refine WQ_next ?_
      refine WC_ret ?_
      refine P_end1 rfl rfl ?_
      first | exact congrArg Value.bool hF.symm | (have hT : tysEq l l' = true := by unfold tysEq; rw [decide_eq_true hE, range_end hI.1 (by omega) hI.2]; rfl); exact congrArg Value.bool hT.symm
theorem haveOne_any (a b : Me) (pv cv hv fv pv' cv' hv' fv' : Value) (w : World) (ha : TysAt w pv a.params) (hb : TysAt w pv' b.params) :
    Pure Tryz.prog 248 #[.agg (meV a pv cv hv fv).toArray, .agg (meV b pv' cv' hv' fv').toArray] w (.bool (sameSig a b)) := by
  refine opens (args := [.agg (meV a pv cv hv fv).toArray, .agg (meV b pv' cv' hv' fv').toArray]) Tryz.func248 rfl Tryz.ntmps248 ?_
  refine WC_seq ?_
  refine WC_region ?_
  refine WL_box rfl rfl ?_
  intro b0 hb0
  refine WL_box rfl rfl ?_
  intro b1 hb1
  refine WL_op rfl (Ex_assign rfl) ?_
  refine WL_nil ?_
  refine WQ_next ?_
  refine WC_seq ?_
  refine WC_region ?_
  refine WL_op rfl (Ex_field (ff rfl) rfl) ?_
  refine WL_op rfl (Ex_load (t1 rfl) rfl (cell_mine 1 rfl rfl)) ?_
  refine WL_op rfl (Ex_field (ff rfl) rfl) ?_
  refine WL_op rfl (Ex_load (t1 rfl) rfl (cell_mine 0 rfl rfl)) ?_
  refine WL_op rfl (Ex_eqlS rfl rfl) ?_
  refine WL_op rfl (Ex_move rfl) ?_
  refine WL_part rfl rfl rfl ?_ ?_
  · intro h1
    try (first | replace h1 := of_decide_eq_true h1 | replace h1 := of_nd_true h1)
    refine WL_yes rfl rfl rfl (Ex_field (ff rfl) rfl) ?_
    refine WL_yes rfl rfl rfl (Ex_loadM (tn rfl) rfl 1 rfl rfl) ?_
    refine WL_yes rfl rfl rfl (Ex_field (ff rfl) rfl) ?_
    refine WL_yes rfl rfl rfl (Ex_loadM (tn rfl) rfl 0 rfl rfl) ?_
    refine WL_yes rfl rfl rfl (Ex_eqlTy rfl rfl) ?_
    refine WL_op rfl (Ex_pickT rfl rfl) ?_
    refine WL_op rfl (Ex_move rfl) ?_
    refine WL_part rfl rfl rfl ?_ ?_
    · intro h2
      try (first | replace h2 := of_decide_eq_true h2 | replace h2 := of_nd_true h2)
      refine WL_yes rfl rfl rfl (Ex_field (ff rfl) rfl) ?_
      refine WL_yes rfl rfl rfl (Ex_load (t1 rfl) rfl (cell_mine 1 rfl rfl)) ?_
      refine WL_yes rfl rfl rfl (Ex_field (ff rfl) rfl) ?_
      refine WL_yes rfl rfl rfl (Ex_load (t1 rfl) rfl (cell_mine 0 rfl rfl)) ?_
      refine WL_callYes fn324 rfl rfl rfl rfl (fun w hs => equal_any _ _ a.params b.params w (TysAt.mono ha (lowOf hs)) (TysAt.mono hb (lowOf hs))) ?_
      refine WL_op rfl (Ex_pickT rfl rfl) ?_
      refine WL_op rfl (Ex_assign rfl) ?_
      refine WL_nil ?_
      refine WQ_next ?_
      refine WC_ret ?_
      refine P_end1 rfl rfl ?_
      clear ha hb; congr 1; rw [Bool.eq_iff_iff]; simp_all [sameSig, tysEq_eq, eqS]
    · intro h2
      try (first | replace h2 := of_decide_eq_false h2 | replace h2 := of_nd_false h2)
      refine WL_no rfl rfl rfl ?_
      refine WL_no rfl rfl rfl ?_
      refine WL_no rfl rfl rfl ?_
      refine WL_no rfl rfl rfl ?_
      refine WL_no rfl rfl rfl ?_
      refine WL_op rfl (Ex_pickF rfl rfl) ?_
      refine WL_op rfl (Ex_assign rfl) ?_
      refine WL_nil ?_
      refine WQ_next ?_
      refine WC_ret ?_
      refine P_end1 rfl rfl ?_
      clear ha hb; congr 1; rw [Bool.eq_iff_iff]; simp_all [sameSig, tysEq_eq, eqS]
  · intro h1
    try (first | replace h1 := of_decide_eq_false h1 | replace h1 := of_nd_false h1)
    refine WL_no rfl rfl rfl ?_
    refine WL_no rfl rfl rfl ?_
    refine WL_no rfl rfl rfl ?_
    refine WL_no rfl rfl rfl ?_
    refine WL_no rfl rfl rfl ?_
    refine WL_op rfl (Ex_pickF rfl rfl) ?_
    refine WL_op rfl (Ex_move rfl) ?_
    refine WL_no rfl rfl rfl ?_
    refine WL_no rfl rfl rfl ?_
    refine WL_no rfl rfl rfl ?_
    refine WL_no rfl rfl rfl ?_
    refine WL_no rfl rfl rfl ?_
    refine WL_op rfl (Ex_pickF rfl rfl) ?_
    refine WL_op rfl (Ex_assign rfl) ?_
    refine WL_nil ?_
    refine WQ_next ?_
    refine WC_ret ?_
    refine P_end1 rfl rfl ?_
    clear ha hb; congr 1; rw [Bool.eq_iff_iff]; simp_all [sameSig, tysEq_eq, eqS]
def fdsB (l : List Fld) : Bool := decide ((l.length : Int) ≤ 20) && (List.range l.length).all (fdAt l)
theorem mustBeFields_any (v : Value) (l : List Fld) (w : World) (hv : FdsAt w v l) : PureP Tryz.prog 140 #[v] w (fdsB l) := by
  obtain ⟨p, e, rfl, hl, hr1⟩ := hv.is
  replace hr1 : Hid _ := hr1
  clear hv
  refine opens (args := [.slice p l.length e]) Tryz.func140 rfl Tryz.ntmps140 ?_
  refine WC_seq ?_
  refine WC_region ?_
  refine WL_op rfl (Ex_move rfl) ?_
  refine WL_op rfl (Ex_lenL (ts rfl) rfl) ?_
  refine WL_op rfl (Ex_leq rfl rfl) ?_
  refine WL_callP fn111 rfl rfl (fun w _ => must_any _ w) ?_ ?_
  rotate_left
  · intro o1
    try (first | replace o1 := of_decide_eq_false o1 | replace o1 := of_nd_false o1)
    have hF : fdsB l = false := by first | (simp_all [fdsB]; done) | (simp_all [fdsB]; omega)
    refine WQ_pan ?_
    refine PP_dies ?_
    exact hF
  intro o1
  try (first | replace o1 := of_decide_eq_true o1 | replace o1 := of_nd_true o1)
  have hZ : decide ((l.length : Int) ≤ 20) = true := by simp_all
  refine WL_nil ?_
  refine WQ_next ?_
  refine WC_seq ?_
  refine WC_region ?_
  refine WL_op rfl (Ex_move rfl) ?_
  refine WL_op rfl (Ex_lenL (ts rfl) rfl) ?_
  refine WL_op rfl (Ex_move rfl) ?_
  refine WL_nil ?_
  refine WQ_next ?_
  refine WC_block ?_
  refine WC_sub (E' := (fun i : Nat => [(0, .slice p l.length e), (10, .slice p l.length e), (11, .int .i64 (l.length : Nat)), (12, .int .i64 (i : Nat))]) (0)) ⟨rfl, rfl, rfl, rfl, trivial⟩ (WC_loop (X := Nat) (fun i : Nat => [(0, .slice p l.length e), (10, .slice p l.length e), (11, .int .i64 (l.length : Nat)), (12, .int .i64 (i : Nat))]) _ _ (fun i : Nat => []) (fun i : Nat => Asr.none) (fun i : Nat => i ≤ l.length ∧ (List.range i).all (fdAt l) = true) (fun i : Nat => l.length - i) (0) (⟨Nat.zero_le _, rfl⟩) ?_)
  intro i hI
  refine WC_seq ?_
  refine WC_region ?_
  refine WL_op rfl (Ex_lss rfl rfl) ?_
  refine WL_nil ?_
  refine WQ_next ?_
  refine WC_seq ?_
  refine WC_if rfl ?_ ?_  -- cond 1 shape.go:31
  · intro c1
    try (first | replace c1 := of_decide_eq_true c1 | replace c1 := of_nd_true c1)
    have hi : i < l.length := by omega
    obtain ⟨b, o, r, hp, hb, ⟨hr, hfo⟩, hc⟩ := hr1.out i l[i] (List.getElem?_eq_getElem hi)
    subst hp; subst hr
    refine WC_skip ?_
    refine WQ_next ?_
    refine WC_seq ?_
    refine WC_block ?_
    refine WC_seq ?_
    refine WC_region ?_
    refine WL_op rfl (Ex_move rfl) ?_
    refine WL_op rfl (Ex_at (ts rfl) rfl rfl ?_) ?_
    · omega
    refine WL_op rfl (Ex_loadN (tn rfl) rfl (row_old hc hb) rfl) ?_
    refine WL_alloc rfl (tz rfl) ?_
    intro b0 hb0
    refine WL_op rfl (Ex_assign rfl) ?_
    refine WL_storeN (tn rfl) rfl rfl 0 rfl rfl rfl rfl ?_
    refine WL_nil ?_
    refine WQ_next ?_
    refine WC_seq ?_
    refine WC_region ?_
    refine WL_op rfl (Ex_field (ff rfl) rfl) ?_
    refine WL_op rfl (Ex_load (t1 rfl) rfl (cell_mine 0 rfl rfl)) ?_
    refine WL_callP fn139 rfl rfl (fun w _ => mustBeName_any _ w hfo.1) ?_ ?_
    rotate_left
    · intro o2
      try (first | replace o2 := of_decide_eq_false o2 | replace o2 := of_nd_false o2)
      have hF : fdsB l = false := by unfold fdsB; rw [range_no hi (by rw [fdAt_some hi]; simp_all)]; simp
      refine WQ_pan ?_
      refine WQ_pan ?_
      refine WQ_pan ?_
      refine WQ_pan ?_
      refine WQ_pan ?_
      refine PP_dies ?_
      exact hF
    intro o2
    try (first | replace o2 := of_decide_eq_true o2 | replace o2 := of_nd_true o2)
    refine WL_nil ?_
    refine WQ_next ?_
    refine WC_seq ?_
    refine WC_region ?_
    refine WL_op rfl (Ex_field (ff rfl) rfl) ?_
    refine WL_op rfl (Ex_loadM (tn rfl) rfl 0 rfl rfl) ?_
    refine WL_callP fn245 rfl rfl (fun w _ => (mustBeType_any 246 valB fn246 isOfValue_any _ w hfo.2).of_eq (mayB_val _)) ?_ ?_
    rotate_left
    · intro o3
      try (first | replace o3 := of_decide_eq_false o3 | replace o3 := of_nd_false o3)
      have hF : fdsB l = false := by unfold fdsB; rw [range_no hi (by rw [fdAt_some hi]; simp_all)]; simp
      refine WQ_pan ?_
      refine WQ_pan ?_
      refine WQ_pan ?_
      refine WQ_pan ?_
      refine WQ_pan ?_
      refine PP_dies ?_
      exact hF
    intro o3
    try (first | replace o3 := of_decide_eq_true o3 | replace o3 := of_nd_true o3)
    refine WL_nil ?_
    refine WQ_next ?_
    refine WC_seq ?_
    refine WC_region ?_
    refine WL_op rfl (Ex_move rfl) ?_
    refine WL_op rfl (Ex_move rfl) ?_
    refine WL_op rfl (Ex_sliceL (ts rfl) rfl rfl ?_) ?_
    · omega
    refine WL_op rfl (Ex_lenL (ts rfl) rfl) ?_
    refine WL_op rfl (Ex_move rfl) ?_
    refine WL_nil ?_
    refine WQ_next ?_
    refine WC_block ?_
    have hO := hI
    refine WC_sub (E' := (fun k : Nat => [(0, .slice (some ⟨b, o, none⟩) l.length e), (3, .pointer (some ⟨b0, 0, none⟩)), (10, .slice (some ⟨b, o, none⟩) l.length e), (11, .int .i64 (l.length : Nat)), (12, .int .i64 (i : Nat)), (25, .slice (some ⟨b, o, none⟩) i e), (26, .int .i64 (i : Nat)), (27, .int .i64 (k : Nat))]) (0)) ⟨rfl, rfl, rfl, rfl, rfl, rfl, rfl, rfl, trivial⟩ (WC_loop (X := Nat) (fun k : Nat => [(0, .slice (some ⟨b, o, none⟩) l.length e), (3, .pointer (some ⟨b0, 0, none⟩)), (10, .slice (some ⟨b, o, none⟩) l.length e), (11, .int .i64 (l.length : Nat)), (12, .int .i64 (i : Nat)), (25, .slice (some ⟨b, o, none⟩) i e), (26, .int .i64 (i : Nat)), (27, .int .i64 (k : Nat))]) _ _ (fun k : Nat => [(b0, fdV l[i])]) (fun k : Nat => Asr.none) (fun k : Nat => k ≤ i ∧ (List.range k).all (fdNe l i) = true) (fun k : Nat => i - k) (0) (⟨Nat.zero_le _, rfl⟩) ?_)
    intro k hI
    refine WC_seq ?_
    refine WC_region ?_
    refine WL_op rfl (Ex_lss rfl rfl) ?_
    refine WL_nil ?_
    refine WQ_next ?_
    refine WC_seq ?_
    refine WC_if rfl ?_ ?_  -- cond 2 shape.go:34
    · intro c2
      try (first | replace c2 := of_decide_eq_true c2 | replace c2 := of_nd_true c2)
      have hki : k < i := by omega
      have hk : k < l.length := by omega
      obtain ⟨b', o', r', hp', hb', ⟨hr', -⟩, hc'⟩ := hr1.out k l[k] (List.getElem?_eq_getElem hk)
      cases hp'; subst hr'
      refine WC_skip ?_
      refine WQ_next ?_
      refine WC_seq ?_
      refine WC_block ?_
      refine WC_seq ?_
      refine WC_region ?_
      refine WL_op rfl (Ex_at (ts rfl) rfl rfl ?_) ?_
      · omega
      refine WL_op rfl (Ex_loadN (tn rfl) rfl (row_old hc' hb') rfl) ?_
      refine WL_alloc rfl (tz rfl) ?_
      intro b1 hb1
      refine WL_storeN (tn rfl) rfl rfl 0 rfl rfl rfl rfl ?_
      refine WL_nil ?_
      refine WQ_next ?_
      refine WC_region ?_
      refine WL_op rfl (Ex_field (ff rfl) rfl) ?_
      refine WL_op rfl (Ex_load (t1 rfl) rfl (cell_mine 0 rfl rfl)) ?_
      refine WL_op rfl (Ex_field (ff rfl) rfl) ?_
      refine WL_op rfl (Ex_load (t1 rfl) rfl (cell_mine 1 rfl rfl)) ?_
      refine WL_op rfl (Ex_neqS rfl rfl) ?_
      refine WL_callP fn111 rfl rfl (fun w _ => must_any _ w) ?_ ?_
      rotate_left
      · intro o4
        try (first | replace o4 := of_decide_eq_false o4 | replace o4 := of_nd_false o4)
        have hF : fdsB l = false := by unfold fdsB; rw [range_no hi (by rw [fdAt_some hi, show fdNew l i = false from range_no hki (by rw [fdNe_some hi hk]; simp_all [eqS])]; simp)]; simp
        refine WQ_pan ?_
        refine WQ_pan ?_
        refine WQ_pan ?_
        refine WQ_pan ?_
        refine WQ_pan ?_
        refine WQ_pan ?_
        refine WQ_pan ?_
        refine WQ_pan ?_
        refine PP_dies ?_
        exact hF
      intro o4
      try (first | replace o4 := of_decide_eq_true o4 | replace o4 := of_nd_true o4)
      refine WL_nil ?_
      refine WQ_bnext ?_
      refine WQ_next ?_
      refine WC_region ?_
      (first | (refine WL_op rfl (Ex_inc rfl rfl ?_) ?_; omega) | (refine WL_op rfl (Ex_addB rfl rfl ?_) ?_; omega) | refine WL_op rfl (Ex_add rfl rfl) ?_)
      refine WL_op rfl (Ex_move rfl) ?_
      refine WL_nil ?_
      refine WQ_again (k + 1) ?_ (⟨hki, range_snoc hI.2 (by rw [fdNe_some hi hk]; simp_all [eqS])⟩) 1 rfl (rfl) ⟨rfl, rfl, rfl, rfl, rfl, rfl, rfl, rfl, trivial⟩
      omega
    · intro c2
      try (first | replace c2 := of_decide_eq_false c2 | replace c2 := of_nd_false c2)
      have hN : fdNew l i = true := range_end hI.1 (by omega) hI.2
      have hA : fdAt l i = true := by rw [fdAt_some hi, hN]; simp_all
      refine WC_exit ?_
      refine WQ_exit ?_
      refine WQ_lexit ?_
      refine WQ_here ?_
      refine WQ_bnext ?_
      refine WQ_next ?_
      refine WC_region ?_
      (first | (refine WL_op rfl (Ex_inc rfl rfl ?_) ?_; omega) | (refine WL_op rfl (Ex_addB rfl rfl ?_) ?_; omega) | refine WL_op rfl (Ex_add rfl rfl) ?_)
      refine WL_op rfl (Ex_move rfl) ?_
      refine WL_nil ?_
      refine WQ_again (i + 1) ?_ (⟨hi, range_snoc hO.2 hA⟩) 1 rfl (rfl) ⟨rfl, rfl, rfl, rfl, trivial⟩
      omega
  · intro c1
    try (first | replace c1 := of_decide_eq_false c1 | replace c1 := of_nd_false c1)
    have hFd := range_end hI.1 (by omega) hI.2
    refine WC_exit ?_
    refine WQ_exit ?_
    refine WQ_lexit ?_
    refine WQ_here ?_
    refine PP_end rfl ?_
    unfold fdsB; rw [hZ, hFd]; rfl
end Go.Proofs.YtpofmnfkdkmieaaGreat
namespace Go.Proofs.YtpofmnfkdkmieaaGreat.E
open Go Go.RowKit

section
variable {P : Program} {n : Nat} {E : Env} {w0 : World} {F : List Nat} {H : Hp} {R : Asr}
theorem Ex_neqI0 {t t' : TypeId} {x y : Operand} {k : IntKind} {i : Int} (hx : ev E x = some (.int k i)) (hy : ev E y = some (.int k i)) : Ex P n E w0 F H R (.binOp .neq t x y t') (.bool false) := by
  have h := Ex_neq (P := P) (n := n) (w0 := w0) (F := F) (H := H) (R := R) (t := t) (t' := t') hx hy
  simpa using h
theorem Ex_eqlI1 {t t' : TypeId} {x y : Operand} {k : IntKind} {i : Int} (hx : ev E x = some (.int k i)) (hy : ev E y = some (.int k i)) : Ex P n E w0 F H R (.binOp .eql t x y t') (.bool true) := by
  have h := Ex_eql (P := P) (n := n) (w0 := w0) (F := F) (H := H) (R := R) (t := t) (t' := t') hx hy
  simpa using h
theorem eqS_self (s : ByteArray) : eqS s s = true := by simp [eqS]
theorem Ex_neqS0 {t t' : TypeId} {x y : Operand} {s : ByteArray} (hx : ev E x = some (.string s)) (hy : ev E y = some (.string s)) : Ex P n E w0 F H R (.binOp .neq t x y t') (.bool false) := by
  have h := Ex_neqS (P := P) (n := n) (w0 := w0) (F := F) (H := H) (R := R) (t := t) (t' := t') hx hy
  rw [eqS_self] at h; exact h
theorem Ex_eqlS1 {t t' : TypeId} {x y : Operand} {s : ByteArray} (hx : ev E x = some (.string s)) (hy : ev E y = some (.string s)) : Ex P n E w0 F H R (.binOp .eql t x y t') (.bool true) := by
  have h := Ex_eqlS (P := P) (n := n) (w0 := w0) (F := F) (H := H) (R := R) (t := t) (t' := t') hx hy
  rw [eqS_self] at h; exact h
end
end Go.Proofs.YtpofmnfkdkmieaaGreat.E
namespace Go.Proofs.YtpofmnfkdkmieaaGreat
open Go Go.RowKit At E
def rfV (r : Rf) (pv : Value) : List Value := [.string r.cls, .string r.name, pv, .int .i64 r.ty.kind, .string r.ty.cls]
end Go.Proofs.YtpofmnfkdkmieaaGreat
