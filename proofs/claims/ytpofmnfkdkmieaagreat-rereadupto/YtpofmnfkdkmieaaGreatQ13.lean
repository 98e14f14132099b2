/- What is proved here: the program's own asking of code, handlers, frames, signatures (package shape). -/
import Derived.Test.YtpofmnfkdkmieaaGreatQ08
set_option linter.unusedVariables false
set_option linter.unusedSimpArgs false
namespace Go.Proofs.YtpofmnfkdkmieaaGreat
open Go.RowKit At E

theorem sort_opd (op : Int) : sortB op = if op < 0 ∨ 32 < op then -1 else opdB op := by
  unfold sortB opdB
  repeat' split
  all_goals first | rfl | omega
theorem opd_range (op : Int) : opdB op = 0 ∨ opdB op = 1 ∨ opdB op = 2 ∨ opdB op = 3 ∨ opdB op = 4 ∨ opdB op = 5 ∨ opdB op = 6 := by
  unfold opdB
  repeat' split
  all_goals simp
theorem isInstrB_parts (i : Ins) (a : Int) (n : Nat) : isInstrB i a n = (decide (0 ≤ i.op) && decide (i.op ≤ 32) && numB i a n && refB i) := by
  unfold isInstrB
  rw [sort_opd]
  by_cases ho : i.op < 0 ∨ 32 < i.op
  · rw [if_pos ho, if_pos (by omega)]
    have : (decide (0 ≤ i.op) && decide (i.op ≤ 32)) = false := by
      rcases ho with h | h
      · rw [decide_eq_false (by omega)]; rfl
      · rw [decide_eq_false (p := i.op ≤ 32) (by omega)]; simp
    rw [this]; rfl
  · rw [if_neg ho]
    have h1 : (decide (0 ≤ i.op) && decide (i.op ≤ 32)) = true := by rw [decide_eq_true (by omega), decide_eq_true (by omega)]; rfl
    rw [h1]
    simp only [Bool.true_and]
    unfold numB refB mtT
    have hlen : (0 < (i.ref.params.length : Int)) ↔ ¬ ((i.ref.params.length : Int) = 0) := by omega
    have hff : ∀ (p : Prop) [Decidable p] (x : Bool), (if p then false else x) = (!decide p && x) := by intro p _ x; by_cases hp : p <;> simp [hp]
    have hnb : ∀ b : Bool, decide (b = false) = !b := by intro b; cases b <;> rfl
    rcases opd_range i.op with h | h | h | h | h | h | h
    all_goals
      simp only [h, hff, Bool.decide_or, decide_not, hlen, hnb]
      generalize decide (i.ref.cls = _) = b1
      generalize decide (i.ref.name = _) = b2
      generalize decide ((i.ref.params.length : Int) = 0) = b3
      generalize decide (i.ref.ty.kind = 0) = b4
      generalize decide (i.ref.ty.cls = _) = b5
      generalize decide (i.n = 0) = b6
      generalize isNameB i.ref.cls = b7
      simp
    all_goals (cases b1 <;> cases b2 <;> cases b3 <;> cases b4 <;> cases b5 <;> cases b6 <;> cases b7 <;> simp [Bool.and_assoc])

def codeB (m : Me) : Bool := decide (0 < (m.code.length : Int)) && decide ((m.code.length : Int) ≤ 200) && m.code.all (fun i => isInstrB i m.locals m.code.length)
theorem mustBeCode_any (m : Me) (pv hv fv : Value) (cv : Value) (w : World) (hm : MeParts w m pv cv hv fv) : PureP Tryz.prog 321 #[.agg (meV m pv cv hv fv).toArray] w (codeB m) := by
  obtain ⟨p2, e2, rfl, hl2, hr2⟩ := hm.cs.is
  replace hr2 : Hid _ := hr2
  clear hm
  refine opens (args := [.agg (meV m pv (.slice p2 m.code.length e2) hv fv).toArray]) Tryz.func321 rfl Tryz.ntmps321 ?_
  refine WC_seq ?_
  refine WC_region ?_
  refine WL_box rfl rfl ?_
  intro b0 hb0
  refine WL_nil ?_
  refine WQ_next ?_
  refine WC_seq ?_
  refine WC_region ?_
  refine WL_op rfl (Ex_field (ff rfl) rfl) ?_
  refine WL_op rfl (Ex_load (t1 rfl) rfl (cell_mine 0 rfl rfl)) ?_
  refine WL_op rfl (Ex_lenL (ts rfl) rfl) ?_
  refine WL_op rfl (Ex_lss rfl rfl) ?_
  refine WL_op rfl (Ex_move rfl) ?_
  refine WL_part rfl rfl rfl ?_ ?_
  · intro h1
    try (first | replace h1 := of_decide_eq_true h1 | replace h1 := of_nd_true h1)
    refine WL_yes rfl rfl rfl (Ex_field (ff rfl) rfl) ?_
    refine WL_yes rfl rfl rfl (Ex_load (t1 rfl) rfl (cell_mine 0 rfl rfl)) ?_
    refine WL_yes rfl rfl rfl (Ex_lenL (ts rfl) rfl) ?_
    refine WL_yes rfl rfl rfl (Ex_leq rfl rfl) ?_
    refine WL_op rfl (Ex_pickT rfl rfl) ?_
    refine WL_callP fn111 rfl rfl (fun w _ => must_any _ w) ?_ ?_
    rotate_left
    · intro o2
      try (first | replace o2 := of_decide_eq_false o2 | replace o2 := of_nd_false o2)
      have hF : codeB m = false := by first | (simp_all [codeB]; done) | (simp_all [codeB]; omega)
      refine WQ_pan ?_
      refine PP_dies ?_
      exact hF
    intro o2
    try (first | replace o2 := of_decide_eq_true o2 | replace o2 := of_nd_true o2)
    have hZ : (decide (0 < (m.code.length : Int)) && decide ((m.code.length : Int) ≤ 200)) = true := by first | (simp_all; done) | (simp_all; omega)
    refine WL_nil ?_
    refine WQ_next ?_
    refine WC_seq ?_
    refine WC_region ?_
    refine WL_op rfl (Ex_field (ff rfl) rfl) ?_
    refine WL_op rfl (Ex_load (t1 rfl) rfl (cell_mine 0 rfl rfl)) ?_
    refine WL_op rfl (Ex_lenL (ts rfl) rfl) ?_
    refine WL_op rfl (Ex_move rfl) ?_
    refine WL_nil ?_
    refine WQ_next ?_
    refine WC_block ?_
    refine WC_sub (E' := (fun k : Nat => [(1, .pointer (some ⟨b0, 0, none⟩)), (16, .slice p2 m.code.length e2), (17, .int .i64 (m.code.length : Nat)), (18, .int .i64 (k : Nat))]) (0)) ⟨rfl, rfl, rfl, rfl, trivial⟩ (WC_loop (X := Nat) (fun k : Nat => [(1, .pointer (some ⟨b0, 0, none⟩)), (16, .slice p2 m.code.length e2), (17, .int .i64 (m.code.length : Nat)), (18, .int .i64 (k : Nat))]) _ _ (fun k : Nat => [(b0, meV m pv (.slice p2 m.code.length e2) hv fv)]) (fun k : Nat => Asr.none) (fun k : Nat => k ≤ m.code.length ∧ (m.code.take k).all (fun i => isInstrB i m.locals m.code.length) = true) (fun k : Nat => m.code.length - k) (0) (⟨Nat.zero_le _, rfl⟩) ?_)
    intro k hI
    refine WC_seq ?_
    refine WC_region ?_
    refine WL_op rfl (Ex_lss rfl rfl) ?_
    refine WL_nil ?_
    refine WQ_next ?_
    refine WC_seq ?_
    refine WC_if rfl ?_ ?_  -- cond 1 code.go:7
    · intro c1
      try (first | replace c1 := of_decide_eq_true c1 | replace c1 := of_nd_true c1)
      have hk : k < m.code.length := by omega
      obtain ⟨b, o, r, hp, hb, ⟨qv, hr, hpt, hio⟩, hc⟩ := hr2.out k m.code[k] (List.getElem?_eq_getElem hk)
      obtain ⟨q1, f1, hq1, -, -⟩ := hpt.is
      subst hp; subst hr; subst hq1
      have hIP := isInstrB_parts m.code[k] m.locals m.code.length
      refine WC_skip ?_
      refine WQ_next ?_
      refine WC_seq ?_
      refine WC_block ?_
      refine WC_seq ?_
      refine WC_region ?_
      refine WL_op rfl (Ex_at (ts rfl) rfl rfl ?_) ?_
      · omega
      refine WL_op rfl (Ex_loadN (tn rfl) rfl (row_old hc hb) rfl) ?_
      refine WL_alloc rfl (tz rfl) ?_
      intro b1 hb1
      refine WL_storeN (tn rfl) rfl rfl 0 rfl rfl rfl rfl ?_
      refine WL_nil ?_
      refine WQ_next ?_
      refine WC_seq ?_
      refine WC_region ?_
      refine WL_op rfl (Ex_field (ff rfl) rfl) ?_
      refine WL_op rfl (Ex_load (t1 rfl) rfl (cell_mine 0 rfl rfl)) ?_
      refine WL_op rfl (Ex_leq rfl rfl) ?_
      refine WL_op rfl (Ex_move rfl) ?_
      refine WL_part rfl rfl rfl ?_ ?_
      · intro h3
        try (first | replace h3 := of_decide_eq_true h3 | replace h3 := of_nd_true h3)
        refine WL_yes rfl rfl rfl (Ex_field (ff rfl) rfl) ?_
        refine WL_yes rfl rfl rfl (Ex_load (t1 rfl) rfl (cell_mine 0 rfl rfl)) ?_
        refine WL_yes rfl rfl rfl (Ex_leq rfl rfl) ?_
        refine WL_op rfl (Ex_pickT rfl rfl) ?_
        refine WL_callP fn111 rfl rfl (fun w _ => must_any _ w) ?_ ?_
        rotate_left
        · intro o4
          try (first | replace o4 := of_decide_eq_false o4 | replace o4 := of_nd_false o4)
          have hF : codeB m = false := by unfold codeB; rw [all_no hk (f := fun i => isInstrB i m.locals m.code.length) (by rw [hIP]; first | (simp_all; done) | (simp_all; omega))]; simp
          refine WQ_pan ?_
          refine WQ_pan ?_
          refine WQ_pan ?_
          refine WQ_pan ?_
          refine WQ_pan ?_
          refine PP_dies ?_
          exact hF
        intro o4
        try (first | replace o4 := of_decide_eq_true o4 | replace o4 := of_nd_true o4)
        refine WL_nil ?_
        refine WQ_next ?_
        refine WC_seq ?_
        refine WC_region ?_
        refine WL_op rfl (Ex_loadM (tn rfl) rfl 0 rfl rfl) ?_
        refine WL_op rfl (Ex_loadM (tn rfl) rfl 1 rfl rfl) ?_
        refine WL_callP fn355 rfl rfl (fun w _ => mustHaveNumber_any _ _ m _ _ _ _ _ w) ?_ ?_
        rotate_left
        · intro o5
          try (first | replace o5 := of_decide_eq_false o5 | replace o5 := of_nd_false o5)
          have hF : codeB m = false := by unfold codeB; rw [all_no hk (f := fun i => isInstrB i m.locals m.code.length) (by rw [hIP]; simp_all)]; simp
          refine WQ_pan ?_
          refine WQ_pan ?_
          refine WQ_pan ?_
          refine WQ_pan ?_
          refine WQ_pan ?_
          refine PP_dies ?_
          exact hF
        intro o5
        try (first | replace o5 := of_decide_eq_true o5 | replace o5 := of_nd_true o5)
        refine WL_nil ?_
        refine WQ_next ?_
        refine WC_region ?_
        refine WL_op rfl (Ex_loadM (tn rfl) rfl 0 rfl rfl) ?_
        refine WL_callP fn356 rfl rfl (fun w hs => mustHaveRef_any _ _ w (TysAt.mono hpt (lowOf hs)) hio) ?_ ?_
        rotate_left
        · intro o6
          try (first | replace o6 := of_decide_eq_false o6 | replace o6 := of_nd_false o6)
          have hF : codeB m = false := by unfold codeB; rw [all_no hk (f := fun i => isInstrB i m.locals m.code.length) (by rw [hIP]; simp_all)]; simp
          refine WQ_pan ?_
          refine WQ_pan ?_
          refine WQ_pan ?_
          refine WQ_pan ?_
          refine PP_dies ?_
          exact hF
        intro o6
        try (first | replace o6 := of_decide_eq_true o6 | replace o6 := of_nd_true o6)
        refine WL_nil ?_
        refine WQ_bnext ?_
        refine WQ_next ?_
        refine WC_region ?_
        (first | (refine WL_op rfl (Ex_inc rfl rfl ?_) ?_; omega) | (refine WL_op rfl (Ex_addB rfl rfl ?_) ?_; omega) | refine WL_op rfl (Ex_add rfl rfl) ?_)
        refine WL_op rfl (Ex_move rfl) ?_
        refine WL_nil ?_
        refine WQ_again (k + 1) ?_ (⟨hk, all_snoc hk hI.2 (by rw [hIP]; first | (simp_all; done) | (simp_all; omega))⟩) 1 rfl (rfl) ⟨rfl, rfl, rfl, rfl, trivial⟩
        omega
      · intro h3
        try (first | replace h3 := of_decide_eq_false h3 | replace h3 := of_nd_false h3)
        refine WL_no rfl rfl rfl ?_
        refine WL_no rfl rfl rfl ?_
        refine WL_no rfl rfl rfl ?_
        refine WL_op rfl (Ex_pickF rfl rfl) ?_
        refine WL_callP fn111 rfl rfl (fun w _ => must_any _ w) ?_ ?_
        · intro o7; cases o7
        intro _
        have hF : codeB m = false := by unfold codeB; rw [all_no hk (f := fun i => isInstrB i m.locals m.code.length) (by rw [hIP]; first | (simp_all; done) | (simp_all; omega))]; simp
        refine WQ_pan ?_
        refine WQ_pan ?_
        refine WQ_pan ?_
        refine WQ_pan ?_
        refine WQ_pan ?_
        refine PP_dies ?_
        exact hF
    · intro c1
      try (first | replace c1 := of_decide_eq_false c1 | replace c1 := of_nd_false c1)
      refine WC_exit ?_
      refine WQ_exit ?_
      refine WQ_lexit ?_
      refine WQ_here ?_
      refine PP_end rfl ?_
      unfold codeB; rw [hZ, all_end (by omega) hI.2]; rfl
  · intro h1
    try (first | replace h1 := of_decide_eq_false h1 | replace h1 := of_nd_false h1)
    refine WL_no rfl rfl rfl ?_
    refine WL_no rfl rfl rfl ?_
    refine WL_no rfl rfl rfl ?_
    refine WL_no rfl rfl rfl ?_
    refine WL_op rfl (Ex_pickF rfl rfl) ?_
    refine WL_callP fn111 rfl rfl (fun w _ => must_any _ w) ?_ ?_
    · intro o8; cases o8
    intro _
    have hF : codeB m = false := by first | (simp_all [codeB]; done) | (simp_all [codeB]; omega)
    refine WQ_pan ?_
    refine PP_dies ?_
    exact hF
def hdsB (m : Me) : Bool := decide ((m.handlers.length : Int) ≤ 10) && m.handlers.all (fun h => isHdB h m.code.length)
theorem mustBeHandlers_any (m : Me) (pv hv fv : Value) (cv : Value) (w : World) (hm : MeParts w m pv cv hv fv) : PureP Tryz.prog 322 #[.agg (meV m pv cv hv fv).toArray] w (hdsB m) := by
  obtain ⟨p2, e2, rfl, hl2, -⟩ := hm.cs.is
  obtain ⟨p3, e3, rfl, hl3, hr3⟩ := hm.hs.is
  replace hr3 : Hid _ := hr3
  clear hm
  refine opens (args := [.agg (meV m pv (.slice p2 m.code.length e2) (.slice p3 m.handlers.length e3) fv).toArray]) Tryz.func322 rfl Tryz.ntmps322 ?_
  refine WC_seq ?_
  refine WC_region ?_
  refine WL_box rfl rfl ?_
  intro b0 hb0
  refine WL_nil ?_
  refine WQ_next ?_
  refine WC_seq ?_
  refine WC_region ?_
  refine WL_op rfl (Ex_field (ff rfl) rfl) ?_
  refine WL_op rfl (Ex_load (t1 rfl) rfl (cell_mine 0 rfl rfl)) ?_
  refine WL_op rfl (Ex_lenL (ts rfl) rfl) ?_
  refine WL_op rfl (Ex_leq rfl rfl) ?_
  refine WL_callP fn111 rfl rfl (fun w _ => must_any _ w) ?_ ?_
  rotate_left
  · intro o1
    try (first | replace o1 := of_decide_eq_false o1 | replace o1 := of_nd_false o1)
    have hF : hdsB m = false := by first | (simp_all [hdsB]; done) | (simp_all [hdsB]; omega)
    refine WQ_pan ?_
    refine PP_dies ?_
    exact hF
  intro o1
  try (first | replace o1 := of_decide_eq_true o1 | replace o1 := of_nd_true o1)
  have hZ : decide ((m.handlers.length : Int) ≤ 10) = true := by simp_all
  refine WL_nil ?_
  refine WQ_next ?_
  refine WC_seq ?_
  refine WC_region ?_
  refine WL_op rfl (Ex_field (ff rfl) rfl) ?_
  refine WL_op rfl (Ex_load (t1 rfl) rfl (cell_mine 0 rfl rfl)) ?_
  refine WL_op rfl (Ex_lenL (ts rfl) rfl) ?_
  refine WL_op rfl (Ex_move rfl) ?_
  refine WL_nil ?_
  refine WQ_next ?_
  refine WC_block ?_
  refine WC_sub (E' := (fun k : Nat => [(1, .pointer (some ⟨b0, 0, none⟩)), (10, .slice p3 m.handlers.length e3), (11, .int .i64 (m.handlers.length : Nat)), (12, .int .i64 (k : Nat))]) (0)) ⟨rfl, rfl, rfl, rfl, trivial⟩ (WC_loop (X := Nat) (fun k : Nat => [(1, .pointer (some ⟨b0, 0, none⟩)), (10, .slice p3 m.handlers.length e3), (11, .int .i64 (m.handlers.length : Nat)), (12, .int .i64 (k : Nat))]) _ _ (fun k : Nat => [(b0, meV m pv (.slice p2 m.code.length e2) (.slice p3 m.handlers.length e3) fv)]) (fun k : Nat => Asr.none) (fun k : Nat => k ≤ m.handlers.length ∧ (m.handlers.take k).all (fun h => isHdB h m.code.length) = true) (fun k : Nat => m.handlers.length - k) (0) (⟨Nat.zero_le _, rfl⟩) ?_)
  intro k hI
  refine WC_seq ?_
  refine WC_region ?_
  refine WL_op rfl (Ex_lss rfl rfl) ?_
  refine WL_nil ?_
  refine WQ_next ?_
  refine WC_seq ?_
  refine WC_if rfl ?_ ?_  -- cond 1 shape.go:76
  · intro c1
    try (first | replace c1 := of_decide_eq_true c1 | replace c1 := of_nd_true c1)
    have hk : k < m.handlers.length := by omega
    obtain ⟨b, o, r, hp, hb, ⟨hr, hho⟩, hc⟩ := hr3.out k m.handlers[k] (List.getElem?_eq_getElem hk)
    subst hp; subst hr
    refine WC_skip ?_
    refine WQ_next ?_
    refine WC_seq ?_
    refine WC_block ?_
    refine WC_seq ?_
    refine WC_region ?_
    refine WL_op rfl (Ex_at (ts rfl) rfl rfl ?_) ?_
    · omega
    refine WL_op rfl (Ex_loadN (tn rfl) rfl (row_old hc hb) rfl) ?_
    refine WL_alloc rfl (tz rfl) ?_
    intro b1 hb1
    refine WL_storeN (tn rfl) rfl rfl 0 rfl rfl rfl rfl ?_
    refine WL_nil ?_
    refine WQ_next ?_
    refine WC_seq ?_
    refine WC_region ?_
    refine WL_op rfl (Ex_field (ff rfl) rfl) ?_
    refine WL_op rfl (Ex_load (t1 rfl) rfl (cell_mine 0 rfl rfl)) ?_
    refine WL_op rfl (Ex_leq rfl rfl) ?_
    refine WL_op rfl (Ex_move rfl) ?_
    refine WL_part rfl rfl rfl ?_ ?_
    · intro h2
      try (first | replace h2 := of_decide_eq_true h2 | replace h2 := of_nd_true h2)
      refine WL_yes rfl rfl rfl (Ex_field (ff rfl) rfl) ?_
      refine WL_yes rfl rfl rfl (Ex_load (t1 rfl) rfl (cell_mine 0 rfl rfl)) ?_
      refine WL_yes rfl rfl rfl (Ex_field (ff rfl) rfl) ?_
      refine WL_yes rfl rfl rfl (Ex_load (t1 rfl) rfl (cell_mine 0 rfl rfl)) ?_
      refine WL_yes rfl rfl rfl (Ex_lss rfl rfl) ?_
      refine WL_op rfl (Ex_pickT rfl rfl) ?_
      refine WL_op rfl (Ex_move rfl) ?_
      refine WL_part rfl rfl rfl ?_ ?_
      · intro h3
        try (first | replace h3 := of_decide_eq_true h3 | replace h3 := of_nd_true h3)
        refine WL_yes rfl rfl rfl (Ex_field (ff rfl) rfl) ?_
        refine WL_yes rfl rfl rfl (Ex_load (t1 rfl) rfl (cell_mine 0 rfl rfl)) ?_
        refine WL_yes rfl rfl rfl (Ex_field (ff rfl) rfl) ?_
        refine WL_yes rfl rfl rfl (Ex_load (t1 rfl) rfl (cell_mine 1 rfl rfl)) ?_
        refine WL_yes rfl rfl rfl (Ex_lenL (ts rfl) rfl) ?_
        refine WL_yes rfl rfl rfl (Ex_leq rfl rfl) ?_
        refine WL_op rfl (Ex_pickT rfl rfl) ?_
        refine WL_callP fn111 rfl rfl (fun w _ => must_any _ w) ?_ ?_
        rotate_left
        · intro o4
          try (first | replace o4 := of_decide_eq_false o4 | replace o4 := of_nd_false o4)
          have hF : hdsB m = false := by unfold hdsB; rw [all_no hk (f := fun h => isHdB h m.code.length) (by first | (simp_all [isHdB]; done) | (simp_all [isHdB]; omega))]; simp
          refine WQ_pan ?_
          refine WQ_pan ?_
          refine WQ_pan ?_
          refine WQ_pan ?_
          refine WQ_pan ?_
          refine PP_dies ?_
          exact hF
        intro o4
        try (first | replace o4 := of_decide_eq_true o4 | replace o4 := of_nd_true o4)
        refine WL_nil ?_
        refine WQ_next ?_
        refine WC_seq ?_
        refine WC_region ?_
        refine WL_op rfl (Ex_field (ff rfl) rfl) ?_
        refine WL_op rfl (Ex_load (t1 rfl) rfl (cell_mine 0 rfl rfl)) ?_
        refine WL_op rfl (Ex_loadM (tn rfl) rfl 1 rfl rfl) ?_
        refine WL_call fn357 rfl rfl (fun w _ => isPlace_any _ m _ _ _ _ _ w) ?_
        refine WL_callP fn111 rfl rfl (fun w _ => must_any _ w) ?_ ?_
        rotate_left
        · intro o5
          try (first | replace o5 := of_decide_eq_false o5 | replace o5 := of_nd_false o5)
          have hF : hdsB m = false := by unfold hdsB; rw [all_no hk (f := fun h => isHdB h m.code.length) (by first | (simp_all [isHdB]; done) | (simp_all [isHdB]; omega))]; simp
          refine WQ_pan ?_
          refine WQ_pan ?_
          refine WQ_pan ?_
          refine WQ_pan ?_
          refine WQ_pan ?_
          refine PP_dies ?_
          exact hF
        intro o5
        try (first | replace o5 := of_decide_eq_true o5 | replace o5 := of_nd_true o5)
        refine WL_nil ?_
        refine WQ_next ?_
        refine WC_seq ?_
        refine WC_region ?_
        refine WL_op rfl (Ex_field (ff rfl) rfl) ?_
        refine WL_op rfl (Ex_load (t1 rfl) rfl (cell_mine 0 rfl rfl)) ?_
        refine WL_op rfl (Ex_neqS rfl rfl) ?_
        refine WL_nil ?_
        refine WQ_next ?_
        refine WC_if rfl ?_ ?_  -- cond 2 shape.go:79
        · intro c2
          try (first | replace c2 := of_decide_eq_true c2 | replace c2 := of_nd_true c2)
          refine WC_region ?_
          refine WL_op rfl (Ex_field (ff rfl) rfl) ?_
          refine WL_op rfl (Ex_load (t1 rfl) rfl (cell_mine 0 rfl rfl)) ?_
          refine WL_callP fn139 rfl rfl (fun w _ => mustBeName_any _ w hho.2.2.2) ?_ ?_
          rotate_left
          · intro o6
            try (first | replace o6 := of_decide_eq_false o6 | replace o6 := of_nd_false o6)
            have hF : hdsB m = false := by unfold hdsB; rw [all_no hk (f := fun h => isHdB h m.code.length) (by first | (simp_all [isHdB]; done) | (simp_all [isHdB]; omega))]; simp
            refine WQ_pan ?_
            refine WQ_pan ?_
            refine WQ_pan ?_
            refine WQ_pan ?_
            refine PP_dies ?_
            exact hF
          intro o6
          try (first | replace o6 := of_decide_eq_true o6 | replace o6 := of_nd_true o6)
          refine WL_nil ?_
          refine WQ_bnext ?_
          refine WQ_next ?_
          refine WC_region ?_
          (first | (refine WL_op rfl (Ex_inc rfl rfl ?_) ?_; omega) | (refine WL_op rfl (Ex_addB rfl rfl ?_) ?_; omega) | refine WL_op rfl (Ex_add rfl rfl) ?_)
          refine WL_op rfl (Ex_move rfl) ?_
          refine WL_nil ?_
          refine WQ_again (k + 1) ?_ (⟨hk, all_snoc hk hI.2 (by first | (simp_all [isHdB]; done) | (simp_all [isHdB]; omega))⟩) 1 rfl (rfl) ⟨rfl, rfl, rfl, rfl, trivial⟩
          omega
        · intro c2
          try (first | replace c2 := of_decide_eq_false c2 | replace c2 := of_nd_false c2)
          refine WC_skip ?_
          refine WQ_bnext ?_
          refine WQ_next ?_
          refine WC_region ?_
          (first | (refine WL_op rfl (Ex_inc rfl rfl ?_) ?_; omega) | (refine WL_op rfl (Ex_addB rfl rfl ?_) ?_; omega) | refine WL_op rfl (Ex_add rfl rfl) ?_)
          refine WL_op rfl (Ex_move rfl) ?_
          refine WL_nil ?_
          refine WQ_again (k + 1) ?_ (⟨hk, all_snoc hk hI.2 (by first | (simp_all [isHdB]; done) | (simp_all [isHdB]; omega))⟩) 1 rfl (rfl) ⟨rfl, rfl, rfl, rfl, trivial⟩
          omega
      · intro h3
        try (first | replace h3 := of_decide_eq_false h3 | replace h3 := of_nd_false h3)
        refine WL_no rfl rfl rfl ?_
        refine WL_no rfl rfl rfl ?_
        refine WL_no rfl rfl rfl ?_
        refine WL_no rfl rfl rfl ?_
        refine WL_no rfl rfl rfl ?_
        refine WL_no rfl rfl rfl ?_
        refine WL_op rfl (Ex_pickF rfl rfl) ?_
        refine WL_callP fn111 rfl rfl (fun w _ => must_any _ w) ?_ ?_
        · intro o7; cases o7
        intro _
        have hF : hdsB m = false := by unfold hdsB; rw [all_no hk (f := fun h => isHdB h m.code.length) (by first | (simp_all [isHdB]; done) | (simp_all [isHdB]; omega))]; simp
        refine WQ_pan ?_
        refine WQ_pan ?_
        refine WQ_pan ?_
        refine WQ_pan ?_
        refine WQ_pan ?_
        refine PP_dies ?_
        exact hF
    · intro h2
      try (first | replace h2 := of_decide_eq_false h2 | replace h2 := of_nd_false h2)
      refine WL_no rfl rfl rfl ?_
      refine WL_no rfl rfl rfl ?_
      refine WL_no rfl rfl rfl ?_
      refine WL_no rfl rfl rfl ?_
      refine WL_no rfl rfl rfl ?_
      refine WL_op rfl (Ex_pickF rfl rfl) ?_
      refine WL_op rfl (Ex_move rfl) ?_
      refine WL_no rfl rfl rfl ?_
      refine WL_no rfl rfl rfl ?_
      refine WL_no rfl rfl rfl ?_
      refine WL_no rfl rfl rfl ?_
      refine WL_no rfl rfl rfl ?_
      refine WL_no rfl rfl rfl ?_
      refine WL_op rfl (Ex_pickF rfl rfl) ?_
      refine WL_callP fn111 rfl rfl (fun w _ => must_any _ w) ?_ ?_
      · intro o8; cases o8
      intro _
      have hF : hdsB m = false := by unfold hdsB; rw [all_no hk (f := fun h => isHdB h m.code.length) (by first | (simp_all [isHdB]; done) | (simp_all [isHdB]; omega))]; simp
      refine WQ_pan ?_
      refine WQ_pan ?_
      refine WQ_pan ?_
      refine WQ_pan ?_
      refine WQ_pan ?_
      refine PP_dies ?_
      exact hF
  · intro c1
    try (first | replace c1 := of_decide_eq_false c1 | replace c1 := of_nd_false c1)
    refine WC_exit ?_
    refine WQ_exit ?_
    refine WQ_lexit ?_
    refine WQ_here ?_
    refine PP_end rfl ?_
    unfold hdsB; rw [hZ, all_end (by omega) hI.2]; rfl
def frsB (m : Me) : Bool := decide ((m.frames.length : Int) ≤ 60) && (List.range m.frames.length).all (frAt m.frames m.locals m.stack m.code.length)
theorem all_fra (l : List Ty) : l.all (mayB fraB) = areTypesB l true := by unfold areTypesB; congr 1; funext t; exact mayB_fra t
theorem aheadOf_succ {l : List Fr} {k : Nat} (hk : k < l.length) : aheadOf l (k + 1) = (l[k]).pos := by simp [aheadOf, posAt, List.getElem?_eq_getElem hk]
theorem mustBeFrames_any (m : Me) (pv hv fv : Value) (cv : Value) (w : World) (hm : MeParts w m pv cv hv fv) : PureP Tryz.prog 323 #[.agg (meV m pv cv hv fv).toArray] w (frsB m) := by
  obtain ⟨p2, e2, rfl, hl2, -⟩ := hm.cs.is
  obtain ⟨p4, e4, rfl, hl4, hr4⟩ := hm.fs.is
  replace hr4 : Hid _ := hr4
  clear hm
  refine opens (args := [.agg (meV m pv (.slice p2 m.code.length e2) hv (.slice p4 m.frames.length e4)).toArray]) Tryz.func323 rfl Tryz.ntmps323 ?_
  refine WC_seq ?_
  refine WC_region ?_
  refine WL_box rfl rfl ?_
  intro b0 hb0
  refine WL_nil ?_
  refine WQ_next ?_
  refine WC_seq ?_
  refine WC_region ?_
  refine WL_op rfl (Ex_field (ff rfl) rfl) ?_
  refine WL_op rfl (Ex_load (t1 rfl) rfl (cell_mine 0 rfl rfl)) ?_
  refine WL_op rfl (Ex_lenL (ts rfl) rfl) ?_
  refine WL_op rfl (Ex_leq rfl rfl) ?_
  refine WL_callP fn111 rfl rfl (fun w _ => must_any _ w) ?_ ?_
  rotate_left
  · intro o1
    try (first | replace o1 := of_decide_eq_false o1 | replace o1 := of_nd_false o1)
    have hF : frsB m = false := by first | (simp_all [frsB]; done) | (simp_all [frsB]; omega)
    refine WQ_pan ?_
    refine PP_dies ?_
    exact hF
  intro o1
  try (first | replace o1 := of_decide_eq_true o1 | replace o1 := of_nd_true o1)
  have hZ : decide ((m.frames.length : Int) ≤ 60) = true := by simp_all
  refine WL_nil ?_
  refine WQ_next ?_
  refine WC_seq ?_
  refine WC_region ?_
  refine WL_op rfl (Ex_assign rfl) ?_
  refine WL_nil ?_
  refine WQ_next ?_
  refine WC_seq ?_
  refine WC_region ?_
  refine WL_op rfl (Ex_field (ff rfl) rfl) ?_
  refine WL_op rfl (Ex_load (t1 rfl) rfl (cell_mine 0 rfl rfl)) ?_
  refine WL_op rfl (Ex_lenL (ts rfl) rfl) ?_
  refine WL_op rfl (Ex_move rfl) ?_
  refine WL_nil ?_
  refine WQ_next ?_
  refine WC_block ?_
  refine WC_sub (E' := (fun k : Nat => [(1, .pointer (some ⟨b0, 0, none⟩)), (2, .int .i64 (aheadOf m.frames k)), (11, .slice p4 m.frames.length e4), (12, .int .i64 (m.frames.length : Nat)), (13, .int .i64 (k : Nat))]) (0)) ⟨rfl, rfl, rfl, rfl, rfl, trivial⟩ (WC_loop (X := Nat) (fun k : Nat => [(1, .pointer (some ⟨b0, 0, none⟩)), (2, .int .i64 (aheadOf m.frames k)), (11, .slice p4 m.frames.length e4), (12, .int .i64 (m.frames.length : Nat)), (13, .int .i64 (k : Nat))]) _ _ (fun k : Nat => [(b0, meV m pv (.slice p2 m.code.length e2) hv (.slice p4 m.frames.length e4))]) (fun k : Nat => Asr.none) (fun k : Nat => k ≤ m.frames.length ∧ (List.range k).all (frAt m.frames m.locals m.stack m.code.length) = true) (fun k : Nat => m.frames.length - k) (0) (⟨Nat.zero_le _, rfl⟩) ?_)
  intro k hI
  refine WC_seq ?_
  refine WC_region ?_
  refine WL_op rfl (Ex_lss rfl rfl) ?_
  refine WL_nil ?_
  refine WQ_next ?_
  refine WC_seq ?_
  refine WC_if rfl ?_ ?_  -- cond 1 shape.go:88
  · intro c1
    try (first | replace c1 := of_decide_eq_true c1 | replace c1 := of_nd_true c1)
    have hk : k < m.frames.length := by omega
    obtain ⟨b, o, r, hp, hb, ⟨lv, sv, hr, hfl, hfs, hfo⟩, hc⟩ := hr4.out k m.frames[k] (List.getElem?_eq_getElem hk)
    obtain ⟨q1, f1, hq1, hm1, -⟩ := hfl.is
    obtain ⟨q2, f2, hq2, hm2, -⟩ := hfs.is
    subst hp; subst hr; subst hq1; subst hq2
    replace hfl : Hid _ := hfl
    replace hfs : Hid _ := hfs
    have hFA := frAt_some hk m.locals m.stack m.code.length
    refine WC_skip ?_
    refine WQ_next ?_
    refine WC_seq ?_
    refine WC_block ?_
    refine WC_seq ?_
    refine WC_region ?_
    refine WL_op rfl (Ex_at (ts rfl) rfl rfl ?_) ?_
    · omega
    refine WL_op rfl (Ex_loadN (tn rfl) rfl (row_old hc hb) rfl) ?_
    refine WL_alloc rfl (tz rfl) ?_
    intro b1 hb1
    refine WL_storeN (tn rfl) rfl rfl 0 rfl rfl rfl rfl ?_
    refine WL_nil ?_
    refine WQ_next ?_
    refine WC_seq ?_
    refine WC_region ?_
    refine WL_op rfl (Ex_move rfl) ?_
    refine WL_op rfl (Ex_field (ff rfl) rfl) ?_
    refine WL_op rfl (Ex_load (t1 rfl) rfl (cell_mine 0 rfl rfl)) ?_
    refine WL_op rfl (Ex_lss rfl rfl) ?_
    refine WL_op rfl (Ex_move rfl) ?_
    refine WL_part rfl rfl rfl ?_ ?_
    · intro h2
      try (first | replace h2 := of_decide_eq_true h2 | replace h2 := of_nd_true h2)
      refine WL_yes rfl rfl rfl (Ex_field (ff rfl) rfl) ?_
      refine WL_yes rfl rfl rfl (Ex_load (t1 rfl) rfl (cell_mine 0 rfl rfl)) ?_
      refine WL_yes rfl rfl rfl (Ex_loadM (tn rfl) rfl 1 rfl rfl) ?_
      refine WL_callYes fn357 rfl rfl rfl rfl (fun w _ => isPlace_any _ m _ _ _ _ _ w) ?_
      refine WL_op rfl (Ex_pickT rfl rfl) ?_
      refine WL_callP fn111 rfl rfl (fun w _ => must_any _ w) ?_ ?_
      rotate_left
      · intro o3
        try (first | replace o3 := of_decide_eq_false o3 | replace o3 := of_nd_false o3)
        have hF : frsB m = false := by unfold frsB; rw [range_no hk (f := frAt m.frames m.locals m.stack m.code.length) (by rw [hFA]; first | (simp_all [isFrB]; done) | (simp_all [isFrB]; omega))]; simp
        refine WQ_pan ?_
        refine WQ_pan ?_
        refine WQ_pan ?_
        refine WQ_pan ?_
        refine WQ_pan ?_
        refine PP_dies ?_
        exact hF
      intro o3
      try (first | replace o3 := of_decide_eq_true o3 | replace o3 := of_nd_true o3)
      refine WL_nil ?_
      refine WQ_next ?_
      refine WC_seq ?_
      refine WC_region ?_
      refine WL_op rfl (Ex_field (ff rfl) rfl) ?_
      refine WL_op rfl (Ex_load (t1 rfl) rfl (cell_mine 0 rfl rfl)) ?_
      refine WL_op rfl (Ex_assign rfl) ?_
      refine WL_nil ?_
      refine WQ_next ?_
      refine WC_seq ?_
      refine WC_region ?_
      refine WL_op rfl (Ex_field (ff rfl) rfl) ?_
      refine WL_op rfl (Ex_load (t1 rfl) rfl (cell_mine 0 rfl rfl)) ?_
      refine WL_op rfl (Ex_lenL (ts rfl) rfl) ?_
      refine WL_op rfl (Ex_field (ff rfl) rfl) ?_
      refine WL_op rfl (Ex_load (t1 rfl) rfl (cell_mine 1 rfl rfl)) ?_
      refine WL_op rfl (Ex_eql rfl rfl) ?_
      refine WL_op rfl (Ex_move rfl) ?_
      refine WL_part rfl rfl rfl ?_ ?_
      · intro h4
        try (first | replace h4 := of_decide_eq_true h4 | replace h4 := of_nd_true h4)
        refine WL_yes rfl rfl rfl (Ex_field (ff rfl) rfl) ?_
        refine WL_yes rfl rfl rfl (Ex_load (t1 rfl) rfl (cell_mine 0 rfl rfl)) ?_
        refine WL_yes rfl rfl rfl (Ex_lenL (ts rfl) rfl) ?_
        refine WL_yes rfl rfl rfl (Ex_field (ff rfl) rfl) ?_
        refine WL_yes rfl rfl rfl (Ex_load (t1 rfl) rfl (cell_mine 1 rfl rfl)) ?_
        refine WL_yes rfl rfl rfl (Ex_leq rfl rfl) ?_
        refine WL_op rfl (Ex_pickT rfl rfl) ?_
        refine WL_callP fn111 rfl rfl (fun w _ => must_any _ w) ?_ ?_
        rotate_left
        · intro o5
          try (first | replace o5 := of_decide_eq_false o5 | replace o5 := of_nd_false o5)
          have hF : frsB m = false := by unfold frsB; rw [range_no hk (f := frAt m.frames m.locals m.stack m.code.length) (by rw [hFA]; first | (simp_all [isFrB]; done) | (simp_all [isFrB]; omega))]; simp
          refine WQ_pan ?_
          refine WQ_pan ?_
          refine WQ_pan ?_
          refine WQ_pan ?_
          refine WQ_pan ?_
          refine PP_dies ?_
          exact hF
        intro o5
        try (first | replace o5 := of_decide_eq_true o5 | replace o5 := of_nd_true o5)
        refine WL_nil ?_
        refine WQ_next ?_
        refine WC_seq ?_
        refine WC_region ?_
        refine WL_op rfl (Ex_field (ff rfl) rfl) ?_
        refine WL_op rfl (Ex_load (t1 rfl) rfl (cell_mine 0 rfl rfl)) ?_
        refine WL_callP fn354 rfl rfl (fun w hs => (mustBeTypes_any 358 fraB fn358 isOfFrame_any _ m.frames[k].locals w (TysAt.mono hfl.out (lowOf hs))).of_eq (all_fra _)) ?_ ?_
        rotate_left
        · intro o6
          try (first | replace o6 := of_decide_eq_false o6 | replace o6 := of_nd_false o6)
          have hF : frsB m = false := by unfold frsB; rw [range_no hk (f := frAt m.frames m.locals m.stack m.code.length) (by rw [hFA]; first | (simp_all [isFrB]; done) | (simp_all [isFrB]; omega))]; simp
          refine WQ_pan ?_
          refine WQ_pan ?_
          refine WQ_pan ?_
          refine WQ_pan ?_
          refine WQ_pan ?_
          refine PP_dies ?_
          exact hF
        intro o6
        try (first | replace o6 := of_decide_eq_true o6 | replace o6 := of_nd_true o6)
        refine WL_nil ?_
        refine WQ_next ?_
        refine WC_region ?_
        refine WL_op rfl (Ex_field (ff rfl) rfl) ?_
        refine WL_op rfl (Ex_load (t1 rfl) rfl (cell_mine 0 rfl rfl)) ?_
        refine WL_callP fn354 rfl rfl (fun w hs => (mustBeTypes_any 358 fraB fn358 isOfFrame_any _ m.frames[k].stack w (TysAt.mono hfs.out (lowOf hs))).of_eq (all_fra _)) ?_ ?_
        rotate_left
        · intro o7
          try (first | replace o7 := of_decide_eq_false o7 | replace o7 := of_nd_false o7)
          have hF : frsB m = false := by unfold frsB; rw [range_no hk (f := frAt m.frames m.locals m.stack m.code.length) (by rw [hFA]; first | (simp_all [isFrB]; done) | (simp_all [isFrB]; omega))]; simp
          refine WQ_pan ?_
          refine WQ_pan ?_
          refine WQ_pan ?_
          refine WQ_pan ?_
          refine PP_dies ?_
          exact hF
        intro o7
        try (first | replace o7 := of_decide_eq_true o7 | replace o7 := of_nd_true o7)
        refine WL_nil ?_
        refine WQ_bnext ?_
        refine WQ_next ?_
        refine WC_region ?_
        (first | (refine WL_op rfl (Ex_inc rfl rfl ?_) ?_; omega) | (refine WL_op rfl (Ex_addB rfl rfl ?_) ?_; omega) | refine WL_op rfl (Ex_add rfl rfl) ?_)
        refine WL_op rfl (Ex_move rfl) ?_
        refine WL_nil ?_
        refine WQ_same (s := 2) (v' := .int .i64 (aheadOf m.frames (k + 1))) rfl (by rw [aheadOf_succ hk]) ?_
        refine WQ_again (k + 1) ?_ (⟨hk, range_snoc hI.2 (by rw [hFA]; first | (simp_all [isFrB]; done) | (simp_all [isFrB]; omega))⟩) 1 rfl (rfl) ⟨rfl, rfl, rfl, rfl, rfl, trivial⟩
        omega
      · intro h4
        try (first | replace h4 := of_decide_eq_false h4 | replace h4 := of_nd_false h4)
        refine WL_no rfl rfl rfl ?_
        refine WL_no rfl rfl rfl ?_
        refine WL_no rfl rfl rfl ?_
        refine WL_no rfl rfl rfl ?_
        refine WL_no rfl rfl rfl ?_
        refine WL_no rfl rfl rfl ?_
        refine WL_op rfl (Ex_pickF rfl rfl) ?_
        refine WL_callP fn111 rfl rfl (fun w _ => must_any _ w) ?_ ?_
        · intro o8; cases o8
        intro _
        have hF : frsB m = false := by unfold frsB; rw [range_no hk (f := frAt m.frames m.locals m.stack m.code.length) (by rw [hFA]; first | (simp_all [isFrB]; done) | (simp_all [isFrB]; omega))]; simp
        refine WQ_pan ?_
        refine WQ_pan ?_
        refine WQ_pan ?_
        refine WQ_pan ?_
        refine WQ_pan ?_
        refine PP_dies ?_
        exact hF
    · intro h2
      try (first | replace h2 := of_decide_eq_false h2 | replace h2 := of_nd_false h2)
      refine WL_no rfl rfl rfl ?_
      refine WL_no rfl rfl rfl ?_
      refine WL_no rfl rfl rfl ?_
      refine WL_no rfl rfl rfl ?_
      refine WL_op rfl (Ex_pickF rfl rfl) ?_
      refine WL_callP fn111 rfl rfl (fun w _ => must_any _ w) ?_ ?_
      · intro o9; cases o9
      intro _
      have hF : frsB m = false := by unfold frsB; rw [range_no hk (f := frAt m.frames m.locals m.stack m.code.length) (by rw [hFA]; first | (simp_all [isFrB]; done) | (simp_all [isFrB]; omega))]; simp
      refine WQ_pan ?_
      refine WQ_pan ?_
      refine WQ_pan ?_
      refine WQ_pan ?_
      refine WQ_pan ?_
      refine PP_dies ?_
      exact hF
  · intro c1
    try (first | replace c1 := of_decide_eq_false c1 | replace c1 := of_nd_false c1)
    refine WC_exit ?_
    refine WQ_exit ?_
    refine WQ_lexit ?_
    refine WQ_here ?_
    refine PP_end rfl ?_
    unfold frsB; rw [hZ, range_end hI.1 (by omega) hI.2]; rfl
end Go.Proofs.YtpofmnfkdkmieaaGreat
