/- What is proved here: the program's own asking of code, handlers, frames, signatures (package shape). the program's own asking of signatures, fields, methods, classes (package shape). -/
import Derived.Test.YtpofmnfkdkmieaaGreatQ13
import Derived.Test.YtpofmnfkdkmieaaGreatQ20
set_option linter.unusedVariables false
set_option linter.unusedSimpArgs false
namespace Go.Proofs.YtpofmnfkdkmieaaGreat
open Go.RowKit At E
theorem sort_opd (op : Int) : sortB op = if op < 0 ∨ 32 < op then -1 else opdB op := by
 unfold sortB opdB
 repeat' split
 all_goals first | rfl | omega
theorem opd_no {op : Int} (h : op < 0 ∨ 32 < op) : opdB op = 0 := by
 unfold opdB
 repeat' split
 all_goals first | rfl | omega
theorem opd_range (op : Int) : opdB op = 0 ∨ opdB op = 1 ∨ opdB op = 2 ∨ opdB op = 3 ∨ opdB op = 4 ∨ opdB op = 5 ∨ opdB op = 6 := by
 unfold opdB
 repeat' split
 all_goals simp
theorem isInstrB_parts (i : Ins) (a : Int) (n : Nat) : isInstrB i a n = (decide (0 ≤ i.op) && decide (i.op ≤ 32) && numB i a n && refB i) := by
 unfold isInstrB
 rw [sort_opd]
 by_cases ho : i.op < 0 ∨ 32 < i.op
 ·rw [if_pos ho, if_pos (by omega)]
  have : (decide (0 ≤ i.op) && decide (i.op ≤ 32)) = false := by
   rcases ho with h | h
   ·rw [decide_eq_false (by omega)]; rfl
   ·rw [decide_eq_false (p := i.op ≤ 32) (by omega)]; simp
  rw [this]; rfl
 ·rw [if_neg ho]
  have h1 : (decide (0 ≤ i.op) && decide (i.op ≤ 32)) = true := by rw [decide_eq_true (by omega), decide_eq_true (by omega)]; rfl
  rw [h1]
  simp only [Bool.true_and]
  unfold numB refB mtT
  have hlen : (0 < (i.ref.params.length : Int)) ↔ ¬ ((i.ref.params.length : Int) = 0) := by omega
  have hff : ∀ (p : Prop) [Decidable p] (x : Bool), (if p then false else x) = (!decide p && x) := by intro p _ x; by_cases hp : p <;> simp [hp]
  have hnb : ∀ b : Bool, decide (b = false) = !b := by intro b; cases b <;> rfl
  rcases opd_range i.op with h | h | h | h | h | h | h
  all_goals
   simp only [h, hff, Bool.decide_or, decide_not, hlen, hnb]
   generalize decide (i.ref.cls = _) = b1
   generalize decide (i.ref.name = _) = b2
   generalize decide ((i.ref.params.length : Int) = 0) = b3
   generalize decide (i.ref.ty.kind = 0) = b4
   generalize decide (i.ref.ty.cls = _) = b5
   generalize decide (i.n = 0) = b6
   generalize isNameB i.ref.cls = b7
   simp
  all_goals (cases b1 <;> cases b2 <;> cases b3 <;> cases b4 <;> cases b5 <;> cases b6 <;> cases b7 <;> simp [Bool.and_assoc])
def codeB (m : Me) : Bool := decide (0 < (m.code.length : Int)) && decide ((m.code.length : Int) ≤ 200) && m.code.all (fun i => isInstrB i m.locals m.code.length)
theorem mustBeCode_any (m : Me) (pv hv fv : Value) (cv : Value) (w : World) (hm : MeParts w m pv cv hv fv) : PureP Tryz.prog 321 #[.agg (meV m pv cv hv fv).toArray] w (codeB m) := by
 obtain ⟨p2, e2, rfl, hl2, hr2⟩ := hm.cs.is
 replace hr2 : Hid _ := hr2
 clear hm
 refine opens (args := [.agg (meV m pv (.slice p2 m.code.length e2) hv fv).toArray]) Tryz.func321 rfl Tryz.ntmps321 ?_
 refine Zf (Zb (WL_box rfl rfl ?_))
 intro b0 hb0
 refine Ze (Zc (Zf (Zb (Za rfl (Zh (ff rfl) rfl) (Za rfl (Zj (t1 rfl) rfl (Zl 0 rfl rfl)) ?_)))))
 refine Za rfl (Yg (ts rfl) rfl) (Za rfl (Xb rfl rfl) (Za rfl (Zd rfl) (Yr rfl rfl rfl ?_ ?_)))
 ·intro h1
  try (first | replace h1 := dTr h1 | replace h1 := Zk h1)
  refine Zo rfl rfl rfl (Zh (ff rfl) rfl) (Zo rfl rfl rfl (Zj (t1 rfl) rfl (Zl 0 rfl rfl)) (Zo rfl rfl rfl (Yg (ts rfl) rfl) (Zo rfl rfl rfl (Ex_leq rfl rfl) (Za rfl (Zt rfl rfl) (Yl fn111 rfl rfl (fun w _ => Xe _ w) ?_ ?_)))))
  rotate_left
  ·intro o2
   try (first | replace o2 := dFa o2 | replace o2 := Zi o2)
   have hF : codeB m = false := by first | (simp_all [codeB]; done) | (simp_all [codeB]; omega)
   refine Ye (Yu ?_)
   exact hF
  intro o2
  try (first | replace o2 := dTr o2 | replace o2 := Zk o2)
  have hZ : (decide (0 < (m.code.length : Int)) && decide ((m.code.length : Int) ≤ 200)) = true := by first | (simp_all; done) | (simp_all; omega)
  refine Ze (Zc (Zf (Zb (Za rfl (Zh (ff rfl) rfl) (Za rfl (Zj (t1 rfl) rfl (Zl 0 rfl rfl)) ?_)))))
  refine Za rfl (Yg (ts rfl) rfl) (Za rfl (Zd rfl) (Ze (Zc (Zs (Xh (E' := (fun k : Nat => [(1, .pointer (some ⟨b0, 0, none⟩)), (16, .slice p2 m.code.length e2), (17, .int .i64 (m.code.length : Nat)), (18, .int .i64 (k : Nat))]) (0)) ⟨rfl, rfl, rfl, rfl, trivial⟩ (Yy (X := Nat) (fun k : Nat => [(1, .pointer (some ⟨b0, 0, none⟩)), (16, .slice p2 m.code.length e2), (17, .int .i64 (m.code.length : Nat)), (18, .int .i64 (k : Nat))]) _ _ (fun k : Nat => [(b0, meV m pv (.slice p2 m.code.length e2) hv fv)]) (fun k : Nat => Asr.none) (fun k : Nat => k ≤ m.code.length ∧ (m.code.take k).all (fun i => isInstrB i m.locals m.code.length) = true) (fun k : Nat => m.code.length - k) (0) (⟨Nat.zero_le _, rfl⟩) ?_))))))
  intro k hI
  refine Zf (Zb (Za rfl (Xb rfl rfl) (Ze (Zc (Zf ?_)))))
  refine Yi rfl ?_ ?_
  ·intro c1
   try (first | replace c1 := dTr c1 | replace c1 := Zk c1)
   have hk : k < m.code.length := by omega
   obtain ⟨b, o, r, hp, hb, ⟨qv, hr, hpt, hio⟩, hc⟩ := hr2.out k m.code[k] (List.getElem?_eq_getElem hk)
   obtain ⟨q1, f1, hq1, -, -⟩ := hpt.is
   subst hp; subst hr; subst hq1
   have hIP := isInstrB_parts m.code[k] m.locals m.code.length
   refine Zw (Zc (Zf (Zs (Zf (Zb ?_)))))
   refine Za rfl (Xk (ts rfl) rfl rfl ?_) ?_
   ·omega
   refine Za rfl (Ym (tn rfl) rfl (Yt hc hb) rfl) (Xg rfl (tz rfl) ?_)
   intro b1 hb1
   refine Yd (tn rfl) rfl rfl 0 rfl rfl rfl rfl (Ze (Zc (Zf (Zb (Za rfl (Zh (ff rfl) rfl) ?_)))))
   refine Za rfl (Zj (t1 rfl) rfl (Zl 0 rfl rfl)) (Za rfl (Ex_leq rfl rfl) (Za rfl (Zd rfl) (Yr rfl rfl rfl ?_ ?_)))
   ·intro h3
    try (first | replace h3 := dTr h3 | replace h3 := Zk h3)
    refine Zo rfl rfl rfl (Zh (ff rfl) rfl) (Zo rfl rfl rfl (Zj (t1 rfl) rfl (Zl 0 rfl rfl)) (Zo rfl rfl rfl (Ex_leq rfl rfl) (Za rfl (Zt rfl rfl) (Yl fn111 rfl rfl (fun w _ => Xe _ w) ?_ ?_))))
    rotate_left
    ·intro o4
     try (first | replace o4 := dFa o4 | replace o4 := Zi o4)
     have hF : codeB m = false := by unfold codeB; rw [all_no hk (f := fun i => isInstrB i m.locals m.code.length) (by rw [hIP]; first | (simp_all; done) | (simp_all; omega))]; simp
     refine Ye (Ye (Ye (Ye (Ye (Yu ?_)))))
     exact hF
    intro o4
    try (first | replace o4 := dTr o4 | replace o4 := Zk o4)
    refine Ze (Zc (Zf (Zb (Za rfl (Yb (tn rfl) rfl 0 rfl rfl) (Za rfl (Yb (tn rfl) rfl 1 rfl rfl) ?_)))))
    refine Yl fn355 rfl rfl (fun w _ => mustHaveNumber_any _ _ m _ _ _ _ _ w) ?_ ?_
    rotate_left
    ·intro o5
     try (first | replace o5 := dFa o5 | replace o5 := Zi o5)
     have hF : codeB m = false := by unfold codeB; rw [all_no hk (f := fun i => isInstrB i m.locals m.code.length) (by rw [hIP]; simp_all)]; simp
     refine Ye (Ye (Ye (Ye (Ye (Yu ?_)))))
     exact hF
    intro o5
    try (first | replace o5 := dTr o5 | replace o5 := Zk o5)
    refine Ze (Zc (Zb (Za rfl (Yb (tn rfl) rfl 0 rfl rfl) (Yl fn356 rfl rfl (fun w hs => mustHaveRef_any _ _ w (TysAt.mono hpt (lowOf hs)) hio) ?_ ?_))))
    rotate_left
    ·intro o6
     try (first | replace o6 := dFa o6 | replace o6 := Zi o6)
     have hF : codeB m = false := by unfold codeB; rw [all_no hk (f := fun i => isInstrB i m.locals m.code.length) (by rw [hIP]; simp_all)]; simp
     refine Ye (Ye (Ye (Ye (Yu ?_))))
     exact hF
    intro o6
    try (first | replace o6 := dTr o6 | replace o6 := Zk o6)
    refine Ze (Zx (Zc (Zb ?_)))
    (first | (refine Za rfl (Xa rfl rfl ?_) ?_; omega) | (refine Za rfl (Yp rfl rfl ?_) ?_; omega) | refine Za rfl (Yz rfl rfl) ?_)
    refine Za rfl (Zd rfl) (Ze ?_)
    refine Yn (k + 1) ?_ (⟨hk, all_snoc hk hI.2 (by rw [hIP]; first | (simp_all; done) | (simp_all; omega))⟩) 1 rfl (rfl) ⟨rfl, rfl, rfl, rfl, trivial⟩
    omega
   ·intro h3
    try (first | replace h3 := dFa h3 | replace h3 := Zi h3)
    refine Zp rfl rfl rfl (Zp rfl rfl rfl (Zp rfl rfl rfl (Za rfl (Zz rfl rfl) (Yl fn111 rfl rfl (fun w _ => Xe _ w) ?_ ?_))))
    ·intro o7; cases o7
    intro _
    have hF : codeB m = false := by unfold codeB; rw [all_no hk (f := fun i => isInstrB i m.locals m.code.length) (by rw [hIP]; first | (simp_all; done) | (simp_all; omega))]; simp
    refine Ye (Ye (Ye (Ye (Ye (Yu ?_)))))
    exact hF
  ·intro c1
   try (first | replace c1 := dFa c1 | replace c1 := Zi c1)
   refine Yx (Yw (Yo (Yv (PP_end rfl ?_))))
   unfold codeB; rw [hZ, all_end (by omega) hI.2]; rfl
 ·intro h1
  try (first | replace h1 := dFa h1 | replace h1 := Zi h1)
  refine Zp rfl rfl rfl (Zp rfl rfl rfl (Zp rfl rfl rfl (Zp rfl rfl rfl (Za rfl (Zz rfl rfl) (Yl fn111 rfl rfl (fun w _ => Xe _ w) ?_ ?_)))))
  ·intro o8; cases o8
  intro _
  have hF : codeB m = false := by first | (simp_all [codeB]; done) | (simp_all [codeB]; omega)
  refine Ye (Yu ?_)
  exact hF
def hdsB (m : Me) : Bool := decide ((m.handlers.length : Int) ≤ 10) && m.handlers.all (fun h => isHdB h m.code.length)
theorem mustBeHandlers_any (m : Me) (pv hv fv : Value) (cv : Value) (w : World) (hm : MeParts w m pv cv hv fv) : PureP Tryz.prog 322 #[.agg (meV m pv cv hv fv).toArray] w (hdsB m) := by
 obtain ⟨p2, e2, rfl, hl2, -⟩ := hm.cs.is
 obtain ⟨p3, e3, rfl, hl3, hr3⟩ := hm.hs.is
 replace hr3 : Hid _ := hr3
 clear hm
 refine opens (args := [.agg (meV m pv (.slice p2 m.code.length e2) (.slice p3 m.handlers.length e3) fv).toArray]) Tryz.func322 rfl Tryz.ntmps322 ?_
 refine Zf (Zb (WL_box rfl rfl ?_))
 intro b0 hb0
 refine Ze (Zc (Zf (Zb (Za rfl (Zh (ff rfl) rfl) (Za rfl (Zj (t1 rfl) rfl (Zl 0 rfl rfl)) ?_)))))
 refine Za rfl (Yg (ts rfl) rfl) (Za rfl (Ex_leq rfl rfl) (Yl fn111 rfl rfl (fun w _ => Xe _ w) ?_ ?_))
 rotate_left
 ·intro o1
  try (first | replace o1 := dFa o1 | replace o1 := Zi o1)
  have hF : hdsB m = false := by first | (simp_all [hdsB]; done) | (simp_all [hdsB]; omega)
  refine Ye (Yu ?_)
  exact hF
 intro o1
 try (first | replace o1 := dTr o1 | replace o1 := Zk o1)
 have hZ : decide ((m.handlers.length : Int) ≤ 10) = true := by simp_all
 refine Ze (Zc (Zf (Zb (Za rfl (Zh (ff rfl) rfl) (Za rfl (Zj (t1 rfl) rfl (Zl 0 rfl rfl)) ?_)))))
 refine Za rfl (Yg (ts rfl) rfl) (Za rfl (Zd rfl) (Ze (Zc (Zs (Xh (E' := (fun k : Nat => [(1, .pointer (some ⟨b0, 0, none⟩)), (10, .slice p3 m.handlers.length e3), (11, .int .i64 (m.handlers.length : Nat)), (12, .int .i64 (k : Nat))]) (0)) ⟨rfl, rfl, rfl, rfl, trivial⟩ (Yy (X := Nat) (fun k : Nat => [(1, .pointer (some ⟨b0, 0, none⟩)), (10, .slice p3 m.handlers.length e3), (11, .int .i64 (m.handlers.length : Nat)), (12, .int .i64 (k : Nat))]) _ _ (fun k : Nat => [(b0, meV m pv (.slice p2 m.code.length e2) (.slice p3 m.handlers.length e3) fv)]) (fun k : Nat => Asr.none) (fun k : Nat => k ≤ m.handlers.length ∧ (m.handlers.take k).all (fun h => isHdB h m.code.length) = true) (fun k : Nat => m.handlers.length - k) (0) (⟨Nat.zero_le _, rfl⟩) ?_))))))
 intro k hI
 refine Zf (Zb (Za rfl (Xb rfl rfl) (Ze (Zc (Zf ?_)))))
 refine Yi rfl ?_ ?_
 ·intro c1
  try (first | replace c1 := dTr c1 | replace c1 := Zk c1)
  have hk : k < m.handlers.length := by omega
  obtain ⟨b, o, r, hp, hb, ⟨hr, hho⟩, hc⟩ := hr3.out k m.handlers[k] (List.getElem?_eq_getElem hk)
  subst hp; subst hr
  refine Zw (Zc (Zf (Zs (Zf (Zb ?_)))))
  refine Za rfl (Xk (ts rfl) rfl rfl ?_) ?_
  ·omega
  refine Za rfl (Ym (tn rfl) rfl (Yt hc hb) rfl) (Xg rfl (tz rfl) ?_)
  intro b1 hb1
  refine Yd (tn rfl) rfl rfl 0 rfl rfl rfl rfl (Ze (Zc (Zf (Zb (Za rfl (Zh (ff rfl) rfl) ?_)))))
  refine Za rfl (Zj (t1 rfl) rfl (Zl 0 rfl rfl)) (Za rfl (Ex_leq rfl rfl) (Za rfl (Zd rfl) (Yr rfl rfl rfl ?_ ?_)))
  ·intro h2
   try (first | replace h2 := dTr h2 | replace h2 := Zk h2)
   refine Zo rfl rfl rfl (Zh (ff rfl) rfl) (Zo rfl rfl rfl (Zj (t1 rfl) rfl (Zl 0 rfl rfl)) (Zo rfl rfl rfl (Zh (ff rfl) rfl) (Zo rfl rfl rfl (Zj (t1 rfl) rfl (Zl 0 rfl rfl)) (Zo rfl rfl rfl (Xb rfl rfl) (Za rfl (Zt rfl rfl) ?_)))))
   refine Za rfl (Zd rfl) (Yr rfl rfl rfl ?_ ?_)
   ·intro h3
    try (first | replace h3 := dTr h3 | replace h3 := Zk h3)
    refine Zo rfl rfl rfl (Zh (ff rfl) rfl) (Zo rfl rfl rfl (Zj (t1 rfl) rfl (Zl 0 rfl rfl)) (Zo rfl rfl rfl (Zh (ff rfl) rfl) (Zo rfl rfl rfl (Zj (t1 rfl) rfl (Zl 1 rfl rfl)) (Zo rfl rfl rfl (Yg (ts rfl) rfl) (Zo rfl rfl rfl (Ex_leq rfl rfl) ?_)))))
    refine Za rfl (Zt rfl rfl) (Yl fn111 rfl rfl (fun w _ => Xe _ w) ?_ ?_)
    rotate_left
    ·intro o4
     try (first | replace o4 := dFa o4 | replace o4 := Zi o4)
     have hF : hdsB m = false := by unfold hdsB; rw [all_no hk (f := fun h => isHdB h m.code.length) (by first | (simp_all [isHdB]; done) | (simp_all [isHdB]; omega))]; simp
     refine Ye (Ye (Ye (Ye (Ye (Yu ?_)))))
     exact hF
    intro o4
    try (first | replace o4 := dTr o4 | replace o4 := Zk o4)
    refine Ze (Zc (Zf (Zb (Za rfl (Zh (ff rfl) rfl) (Za rfl (Zj (t1 rfl) rfl (Zl 0 rfl rfl)) ?_)))))
    refine Za rfl (Yb (tn rfl) rfl 1 rfl rfl) (Xi fn357 rfl rfl (fun w _ => isPlace_any _ m _ _ _ _ _ w) ?_)
    refine Yl fn111 rfl rfl (fun w _ => Xe _ w) ?_ ?_
    rotate_left
    ·intro o5
     try (first | replace o5 := dFa o5 | replace o5 := Zi o5)
     have hF : hdsB m = false := by unfold hdsB; rw [all_no hk (f := fun h => isHdB h m.code.length) (by first | (simp_all [isHdB]; done) | (simp_all [isHdB]; omega))]; simp
     refine Ye (Ye (Ye (Ye (Ye (Yu ?_)))))
     exact hF
    intro o5
    try (first | replace o5 := dTr o5 | replace o5 := Zk o5)
    refine Ze (Zc (Zf (Zb (Za rfl (Zh (ff rfl) rfl) (Za rfl (Zj (t1 rfl) rfl (Zl 0 rfl rfl)) ?_)))))
    refine Za rfl (Ex_neqS rfl rfl) (Ze (Zc (Yi rfl ?_ ?_)))
    ·intro c2
     try (first | replace c2 := dTr c2 | replace c2 := Zk c2)
     refine Zb (Za rfl (Zh (ff rfl) rfl) (Za rfl (Zj (t1 rfl) rfl (Zl 0 rfl rfl)) (Yl fn139 rfl rfl (fun w _ => mustBeName_any _ w hho.2.2.2) ?_ ?_)))
     rotate_left
     ·intro o6
      try (first | replace o6 := dFa o6 | replace o6 := Zi o6)
      have hF : hdsB m = false := by unfold hdsB; rw [all_no hk (f := fun h => isHdB h m.code.length) (by first | (simp_all [isHdB]; done) | (simp_all [isHdB]; omega))]; simp
      refine Ye (Ye (Ye (Ye (Yu ?_))))
      exact hF
     intro o6
     try (first | replace o6 := dTr o6 | replace o6 := Zk o6)
     refine Ze (Zx (Zc (Zb ?_)))
     (first | (refine Za rfl (Xa rfl rfl ?_) ?_; omega) | (refine Za rfl (Yp rfl rfl ?_) ?_; omega) | refine Za rfl (Yz rfl rfl) ?_)
     refine Za rfl (Zd rfl) (Ze ?_)
     refine Yn (k + 1) ?_ (⟨hk, all_snoc hk hI.2 (by first | (simp_all [isHdB]; done) | (simp_all [isHdB]; omega))⟩) 1 rfl (rfl) ⟨rfl, rfl, rfl, rfl, trivial⟩
     omega
    ·intro c2
     try (first | replace c2 := dFa c2 | replace c2 := Zi c2)
     refine Zw (Zx (Zc (Zb ?_)))
     (first | (refine Za rfl (Xa rfl rfl ?_) ?_; omega) | (refine Za rfl (Yp rfl rfl ?_) ?_; omega) | refine Za rfl (Yz rfl rfl) ?_)
     refine Za rfl (Zd rfl) (Ze ?_)
     refine Yn (k + 1) ?_ (⟨hk, all_snoc hk hI.2 (by first | (simp_all [isHdB]; done) | (simp_all [isHdB]; omega))⟩) 1 rfl (rfl) ⟨rfl, rfl, rfl, rfl, trivial⟩
     omega
   ·intro h3
    try (first | replace h3 := dFa h3 | replace h3 := Zi h3)
    refine Zp rfl rfl rfl (Zp rfl rfl rfl (Zp rfl rfl rfl (Zp rfl rfl rfl (Zp rfl rfl rfl (Zp rfl rfl rfl ?_)))))
    refine Za rfl (Zz rfl rfl) (Yl fn111 rfl rfl (fun w _ => Xe _ w) ?_ ?_)
    ·intro o7; cases o7
    intro _
    have hF : hdsB m = false := by unfold hdsB; rw [all_no hk (f := fun h => isHdB h m.code.length) (by first | (simp_all [isHdB]; done) | (simp_all [isHdB]; omega))]; simp
    refine Ye (Ye (Ye (Ye (Ye (Yu ?_)))))
    exact hF
  ·intro h2
   try (first | replace h2 := dFa h2 | replace h2 := Zi h2)
   refine Zp rfl rfl rfl (Zp rfl rfl rfl (Zp rfl rfl rfl (Zp rfl rfl rfl (Zp rfl rfl rfl (Za rfl (Zz rfl rfl) ?_)))))
   refine Za rfl (Zd rfl) (Zp rfl rfl rfl (Zp rfl rfl rfl (Zp rfl rfl rfl (Zp rfl rfl rfl (Zp rfl rfl rfl ?_)))))
   refine Zp rfl rfl rfl (Za rfl (Zz rfl rfl) (Yl fn111 rfl rfl (fun w _ => Xe _ w) ?_ ?_))
   ·intro o8; cases o8
   intro _
   have hF : hdsB m = false := by unfold hdsB; rw [all_no hk (f := fun h => isHdB h m.code.length) (by first | (simp_all [isHdB]; done) | (simp_all [isHdB]; omega))]; simp
   refine Ye (Ye (Ye (Ye (Ye (Yu ?_)))))
   exact hF
 ·intro c1
  try (first | replace c1 := dFa c1 | replace c1 := Zi c1)
  refine Yx (Yw (Yo (Yv (PP_end rfl ?_))))
  unfold hdsB; rw [hZ, all_end (by omega) hI.2]; rfl
def frsB (m : Me) : Bool := decide ((m.frames.length : Int) ≤ 60) && (List.range m.frames.length).all (frAt m.frames m.locals m.stack m.code.length)
theorem all_fra (l : List Ty) : l.all (mayB fraB) = areTypesB l true := by unfold areTypesB; congr 1; funext t; exact mayB_fra t
theorem aheadOf_succ {l : List Fr} {k : Nat} (hk : k < l.length) : aheadOf l (k + 1) = (l[k]).pos := by simp [aheadOf, posAt, List.getElem?_eq_getElem hk]
theorem mustBeFrames_any (m : Me) (pv hv fv : Value) (cv : Value) (w : World) (hm : MeParts w m pv cv hv fv) : PureP Tryz.prog 323 #[.agg (meV m pv cv hv fv).toArray] w (frsB m) := by
 obtain ⟨p2, e2, rfl, hl2, -⟩ := hm.cs.is
 obtain ⟨p4, e4, rfl, hl4, hr4⟩ := hm.fs.is
 replace hr4 : Hid _ := hr4
 clear hm
 refine opens (args := [.agg (meV m pv (.slice p2 m.code.length e2) hv (.slice p4 m.frames.length e4)).toArray]) Tryz.func323 rfl Tryz.ntmps323 ?_
 refine Zf (Zb (WL_box rfl rfl ?_))
 intro b0 hb0
 refine Ze (Zc (Zf (Zb (Za rfl (Zh (ff rfl) rfl) (Za rfl (Zj (t1 rfl) rfl (Zl 0 rfl rfl)) ?_)))))
 refine Za rfl (Yg (ts rfl) rfl) (Za rfl (Ex_leq rfl rfl) (Yl fn111 rfl rfl (fun w _ => Xe _ w) ?_ ?_))
 rotate_left
 ·intro o1
  try (first | replace o1 := dFa o1 | replace o1 := Zi o1)
  have hF : frsB m = false := by first | (simp_all [frsB]; done) | (simp_all [frsB]; omega)
  refine Ye (Yu ?_)
  exact hF
 intro o1
 try (first | replace o1 := dTr o1 | replace o1 := Zk o1)
 have hZ : decide ((m.frames.length : Int) ≤ 60) = true := by simp_all
 refine Ze (Zc (Zf (Zb (Za rfl (Zg rfl) (Ze ?_)))))
 refine Zc (Zf (Zb (Za rfl (Zh (ff rfl) rfl) (Za rfl (Zj (t1 rfl) rfl (Zl 0 rfl rfl)) (Za rfl (Yg (ts rfl) rfl) ?_)))))
 refine Za rfl (Zd rfl) (Ze (Zc (Zs (Xh (E' := (fun k : Nat => [(1, .pointer (some ⟨b0, 0, none⟩)), (2, .int .i64 (aheadOf m.frames k)), (11, .slice p4 m.frames.length e4), (12, .int .i64 (m.frames.length : Nat)), (13, .int .i64 (k : Nat))]) (0)) ⟨rfl, rfl, rfl, rfl, rfl, trivial⟩ (Yy (X := Nat) (fun k : Nat => [(1, .pointer (some ⟨b0, 0, none⟩)), (2, .int .i64 (aheadOf m.frames k)), (11, .slice p4 m.frames.length e4), (12, .int .i64 (m.frames.length : Nat)), (13, .int .i64 (k : Nat))]) _ _ (fun k : Nat => [(b0, meV m pv (.slice p2 m.code.length e2) hv (.slice p4 m.frames.length e4))]) (fun k : Nat => Asr.none) (fun k : Nat => k ≤ m.frames.length ∧ (List.range k).all (frAt m.frames m.locals m.stack m.code.length) = true) (fun k : Nat => m.frames.length - k) (0) (⟨Nat.zero_le _, rfl⟩) ?_)))))
 intro k hI
 refine Zf (Zb (Za rfl (Xb rfl rfl) (Ze (Zc (Zf ?_)))))
 refine Yi rfl ?_ ?_
 ·intro c1
  try (first | replace c1 := dTr c1 | replace c1 := Zk c1)
  have hk : k < m.frames.length := by omega
  obtain ⟨b, o, r, hp, hb, ⟨lv, sv, hr, hfl, hfs, hfo⟩, hc⟩ := hr4.out k m.frames[k] (List.getElem?_eq_getElem hk)
  obtain ⟨q1, f1, hq1, hm1, -⟩ := hfl.is
  obtain ⟨q2, f2, hq2, hm2, -⟩ := hfs.is
  subst hp; subst hr; subst hq1; subst hq2
  replace hfl : Hid _ := hfl
  replace hfs : Hid _ := hfs
  have hFA := frAt_some hk m.locals m.stack m.code.length
  refine Zw (Zc (Zf (Zs (Zf (Zb ?_)))))
  refine Za rfl (Xk (ts rfl) rfl rfl ?_) ?_
  ·omega
  refine Za rfl (Ym (tn rfl) rfl (Yt hc hb) rfl) (Xg rfl (tz rfl) ?_)
  intro b1 hb1
  refine Yd (tn rfl) rfl rfl 0 rfl rfl rfl rfl (Ze (Zc (Zf (Zb (Za rfl (Zd rfl) ?_)))))
  refine Za rfl (Zh (ff rfl) rfl) (Za rfl (Zj (t1 rfl) rfl (Zl 0 rfl rfl)) (Za rfl (Xb rfl rfl) (Za rfl (Zd rfl) (Yr rfl rfl rfl ?_ ?_))))
  ·intro h2
   try (first | replace h2 := dTr h2 | replace h2 := Zk h2)
   refine Zo rfl rfl rfl (Zh (ff rfl) rfl) (Zo rfl rfl rfl (Zj (t1 rfl) rfl (Zl 0 rfl rfl)) (Zo rfl rfl rfl (Yb (tn rfl) rfl 1 rfl rfl) (WL_callYes fn357 rfl rfl rfl rfl (fun w _ => isPlace_any _ m _ _ _ _ _ w) ?_)))
   refine Za rfl (Zt rfl rfl) (Yl fn111 rfl rfl (fun w _ => Xe _ w) ?_ ?_)
   rotate_left
   ·intro o3
    try (first | replace o3 := dFa o3 | replace o3 := Zi o3)
    have hF : frsB m = false := by unfold frsB; rw [range_no hk (f := frAt m.frames m.locals m.stack m.code.length) (by rw [hFA]; first | (simp_all [isFrB]; done) | (simp_all [isFrB]; omega))]; simp
    refine Ye (Ye (Ye (Ye (Ye (Yu ?_)))))
    exact hF
   intro o3
   try (first | replace o3 := dTr o3 | replace o3 := Zk o3)
   refine Ze (Zc (Zf (Zb (Za rfl (Zh (ff rfl) rfl) (Za rfl (Zj (t1 rfl) rfl (Zl 0 rfl rfl)) ?_)))))
   refine Za rfl (Zg rfl) (Ze (Zc (Zf (Zb (Za rfl (Zh (ff rfl) rfl) ?_)))))
   refine Za rfl (Zj (t1 rfl) rfl (Zl 0 rfl rfl)) (Za rfl (Yg (ts rfl) rfl) (Za rfl (Zh (ff rfl) rfl) (Za rfl (Zj (t1 rfl) rfl (Zl 1 rfl rfl)) (Za rfl (Xc rfl rfl) (Za rfl (Zd rfl) ?_)))))
   refine Yr rfl rfl rfl ?_ ?_
   ·intro h4
    try (first | replace h4 := dTr h4 | replace h4 := Zk h4)
    refine Zo rfl rfl rfl (Zh (ff rfl) rfl) (Zo rfl rfl rfl (Zj (t1 rfl) rfl (Zl 0 rfl rfl)) (Zo rfl rfl rfl (Yg (ts rfl) rfl) (Zo rfl rfl rfl (Zh (ff rfl) rfl) (Zo rfl rfl rfl (Zj (t1 rfl) rfl (Zl 1 rfl rfl)) (Zo rfl rfl rfl (Ex_leq rfl rfl) ?_)))))
    refine Za rfl (Zt rfl rfl) (Yl fn111 rfl rfl (fun w _ => Xe _ w) ?_ ?_)
    rotate_left
    ·intro o5
     try (first | replace o5 := dFa o5 | replace o5 := Zi o5)
     have hF : frsB m = false := by unfold frsB; rw [range_no hk (f := frAt m.frames m.locals m.stack m.code.length) (by rw [hFA]; first | (simp_all [isFrB]; done) | (simp_all [isFrB]; omega))]; simp
     refine Ye (Ye (Ye (Ye (Ye (Yu ?_)))))
     exact hF
    intro o5
    try (first | replace o5 := dTr o5 | replace o5 := Zk o5)
    refine Ze (Zc (Zf (Zb (Za rfl (Zh (ff rfl) rfl) (Za rfl (Zj (t1 rfl) rfl (Zl 0 rfl rfl)) ?_)))))
    refine Yl fn354 rfl rfl (fun w hs => (mustBeTypes_any 358 fraB fn358 isOfFrame_any _ m.frames[k].locals w (TysAt.mono hfl.out (lowOf hs))).of_eq (all_fra _)) ?_ ?_
    rotate_left
    ·intro o6
     try (first | replace o6 := dFa o6 | replace o6 := Zi o6)
     have hF : frsB m = false := by unfold frsB; rw [range_no hk (f := frAt m.frames m.locals m.stack m.code.length) (by rw [hFA]; first | (simp_all [isFrB]; done) | (simp_all [isFrB]; omega))]; simp
     refine Ye (Ye (Ye (Ye (Ye (Yu ?_)))))
     exact hF
    intro o6
    try (first | replace o6 := dTr o6 | replace o6 := Zk o6)
    refine Ze (Zc (Zb (Za rfl (Zh (ff rfl) rfl) (Za rfl (Zj (t1 rfl) rfl (Zl 0 rfl rfl)) (Yl fn354 rfl rfl (fun w hs => (mustBeTypes_any 358 fraB fn358 isOfFrame_any _ m.frames[k].stack w (TysAt.mono hfs.out (lowOf hs))).of_eq (all_fra _)) ?_ ?_)))))
    rotate_left
    ·intro o7
     try (first | replace o7 := dFa o7 | replace o7 := Zi o7)
     have hF : frsB m = false := by unfold frsB; rw [range_no hk (f := frAt m.frames m.locals m.stack m.code.length) (by rw [hFA]; first | (simp_all [isFrB]; done) | (simp_all [isFrB]; omega))]; simp
     refine Ye (Ye (Ye (Ye (Yu ?_))))
     exact hF
    intro o7
    try (first | replace o7 := dTr o7 | replace o7 := Zk o7)
    refine Ze (Zx (Zc (Zb ?_)))
    (first | (refine Za rfl (Xa rfl rfl ?_) ?_; omega) | (refine Za rfl (Yp rfl rfl ?_) ?_; omega) | refine Za rfl (Yz rfl rfl) ?_)
    refine Za rfl (Zd rfl) (Ze (WQ_same (s := 2) (v' := .int .i64 (aheadOf m.frames (k + 1))) rfl (by rw [aheadOf_succ hk]) ?_))
    refine Yn (k + 1) ?_ (⟨hk, range_snoc hI.2 (by rw [hFA]; first | (simp_all [isFrB]; done) | (simp_all [isFrB]; omega))⟩) 1 rfl (rfl) ⟨rfl, rfl, rfl, rfl, rfl, trivial⟩
    omega
   ·intro h4
    try (first | replace h4 := dFa h4 | replace h4 := Zi h4)
    refine Zp rfl rfl rfl (Zp rfl rfl rfl (Zp rfl rfl rfl (Zp rfl rfl rfl (Zp rfl rfl rfl (Zp rfl rfl rfl ?_)))))
    refine Za rfl (Zz rfl rfl) (Yl fn111 rfl rfl (fun w _ => Xe _ w) ?_ ?_)
    ·intro o8; cases o8
    intro _
    have hF : frsB m = false := by unfold frsB; rw [range_no hk (f := frAt m.frames m.locals m.stack m.code.length) (by rw [hFA]; first | (simp_all [isFrB]; done) | (simp_all [isFrB]; omega))]; simp
    refine Ye (Ye (Ye (Ye (Ye (Yu ?_)))))
    exact hF
  ·intro h2
   try (first | replace h2 := dFa h2 | replace h2 := Zi h2)
   refine Zp rfl rfl rfl (Zp rfl rfl rfl (Zp rfl rfl rfl (Zp rfl rfl rfl (Za rfl (Zz rfl rfl) (Yl fn111 rfl rfl (fun w _ => Xe _ w) ?_ ?_)))))
   ·intro o9; cases o9
   intro _
   have hF : frsB m = false := by unfold frsB; rw [range_no hk (f := frAt m.frames m.locals m.stack m.code.length) (by rw [hFA]; first | (simp_all [isFrB]; done) | (simp_all [isFrB]; omega))]; simp
   refine Ye (Ye (Ye (Ye (Ye (Yu ?_)))))
   exact hF
 ·intro c1
  try (first | replace c1 := dFa c1 | replace c1 := Zi c1)
  refine Yx (Yw (Yo (Yv (PP_end rfl ?_))))
  unfold frsB; rw [hZ, range_end hI.1 (by omega) hI.2]; rfl
end Go.Proofs.YtpofmnfkdkmieaaGreat
namespace Go.Proofs.YtpofmnfkdkmieaaGreat
open Go.RowKit At E
def tyEq (a b : Ty) : Bool := decide (a.kind = b.kind) && eqS a.cls b.cls
def tysEq (l l' : List Ty) : Bool := decide (l.length = l'.length) && (List.range l.length).all (fun i => match l[i]?, l'[i]? with | some a, some b => tyEq a b | _, _ => true)
theorem tysEq_eq (l l' : List Ty) : tysEq l l' = decide (l.map (fun t => (t.kind, t.cls)) = l'.map (fun t => (t.kind, t.cls))) := by
 rw [Bool.eq_iff_iff]
 simp only [tysEq, Bool.and_eq_true, decide_eq_true_eq, List.all_eq_true, List.mem_range]
 constructor
 ·rintro ⟨h1, h2⟩
  apply List.ext_getElem?
  intro i
  rw [List.getElem?_map, List.getElem?_map]
  by_cases hi : i < l.length
  ·have h3 := h2 i hi
   rw [List.getElem?_eq_getElem hi, List.getElem?_eq_getElem (h1 ▸ hi)] at h3 ⊢
   simp only [tyEq, eqS, Bool.and_eq_true, decide_eq_true_eq] at h3
   simp [h3.1, h3.2]
  ·rw [List.getElem?_eq_none (by omega), List.getElem?_eq_none (by omega)]
 ·intro h
  have hl : l.length = l'.length := by have := congrArg List.length h; simpa using this
  refine ⟨hl, fun i hi => ?_⟩
  have h3 := congrArg (fun x => x[i]?) h
  simp only [List.getElem?_map] at h3
  rw [List.getElem?_eq_getElem hi, List.getElem?_eq_getElem (hl ▸ hi)] at h3 ⊢
  simp only [Option.map_some, Option.some.injEq, Prod.mk.injEq] at h3
  simp [tyEq, eqS, h3.1, h3.2]
theorem tys_no {l l' : List Ty} {k : Nat} (hk : k < l.length) (hk' : k < l'.length) (h : tyEq l[k] l'[k] = false) : tysEq l l' = false := by
 unfold tysEq
 rw [range_no hk (by rw [List.getElem?_eq_getElem hk, List.getElem?_eq_getElem hk']; exact h)]; simp
theorem equal_any (v v' : Value) (l l' : List Ty) (w : World) (hv : TysAt w v l) (hv' : TysAt w v' l') : Pure Tryz.prog 324 #[v, v'] w (.bool (tysEq l l')) := by
 obtain ⟨p, c, rfl, hl, hr⟩ := hv.parts
 obtain ⟨p', c', rfl, hl', hr'⟩ := hv'.parts
 replace hr : Hid _ := hr
 replace hr' : Hid _ := hr'
 clear hv hv'
 refine opens (args := [.slice p l.length c, .slice p' l'.length c']) Tryz.func324 rfl Tryz.ntmps324 ?_
 refine Zf (Zb (Za rfl (Zg rfl) (Ze (Zc (Zf ?_)))))
 refine Zf (Zb (Za rfl (Zd rfl) (Za rfl (Yg (ts rfl) rfl) (Za rfl (Zd rfl) (Za rfl (Yg (ts rfl) rfl) ?_)))))
 refine Za rfl (Ex_neq rfl rfl) (Ze (Zc (Yi rfl ?_ ?_)))
 ·intro c1
  try (first | replace c1 := dTr c1 | replace c1 := Zk c1)
  have hF : tysEq l l' = false := by unfold tysEq; rw [decide_eq_false (by omega)]; rfl
  refine Zf (Zb (Za rfl (Zg rfl) (Ze (Zc (Zv ?_)))))
  refine Zq (Yh rfl rfl ?_)
  first | exact congrArg Value.bool hF.symm | (have hT : tysEq l l' = true := by unfold tysEq; rw [decide_eq_true hE, range_end hI.1 (by omega) hI.2]; rfl); exact congrArg Value.bool hT.symm
 ·intro c1
  try (first | replace c1 := dFa c1 | replace c1 := Zi c1)
  have hE : l.length = l'.length := by omega
  refine Zw (Zc (Zf (Zf (Zb (Za rfl (Zd rfl) ?_)))))
  refine Za rfl (Yg (ts rfl) rfl) (Za rfl (Zd rfl) (Ze (Zc (Zs (Xh (E' := (fun k : Nat => [(0, .slice p l.length c), (1, .slice p' l'.length c'), (12, .int .i64 (l.length : Nat)), (13, .int .i64 (k : Nat))]) (0)) ⟨rfl, rfl, rfl, rfl, trivial⟩ (Yy (X := Nat) (fun k : Nat => [(0, .slice p l.length c), (1, .slice p' l'.length c'), (12, .int .i64 (l.length : Nat)), (13, .int .i64 (k : Nat))]) _ _ (fun k : Nat => []) (fun k : Nat => Asr.none) (fun k : Nat => k ≤ l.length ∧ (List.range k).all (fun i => match l[i]?, l'[i]? with | some a, some b => tyEq a b | _, _ => true) = true) (fun k : Nat => l.length - k) (0) (⟨Nat.zero_le _, rfl⟩) ?_))))))
  intro k hI
  refine Zf (Zb (Za rfl (Xb rfl rfl) (Ze (Zc (Zf ?_)))))
  refine Yi rfl ?_ ?_
  ·intro c2
   try (first | replace c2 := dTr c2 | replace c2 := Zk c2)
   have hk : k < l.length := by omega
   have hk' : k < l'.length := by omega
   obtain ⟨b, o, hp, hb, hc⟩ := hr.out k l[k] (List.getElem?_eq_getElem hk)
   obtain ⟨b', o', hp', hb', hc'⟩ := hr'.out k l'[k] (List.getElem?_eq_getElem hk')
   subst hp; subst hp'
   refine Zw (Zc (Zf (Zs (Zf (Zb ?_)))))
   refine Za rfl (Zd rfl) (Za rfl (Zg rfl) (Ze (Zc (Zf (WC_draw mixed (by kernel_rfl) ?_)))))
   refine Zm rfl (Zd rfl) (Zm rfl (Zd rfl) (Zm rfl (Xk (ts rfl) rfl rfl ?_) ?_))
   ·omega
   (first | refine Zm rfl (Ym (tn rfl) rfl (Yt hc hb) rfl) ?_ | refine Zm rfl (Ym (tn rfl) rfl (Yt hc' hb') rfl) ?_)
   refine Zm rfl (Zd rfl) (Zm rfl (Zd rfl) (Zm rfl (Xk (ts rfl) rfl rfl ?_) ?_))
   ·omega
   (first | refine Zm rfl (Ym (tn rfl) rfl (Yt hc hb) rfl) ?_ | refine Zm rfl (Ym (tn rfl) rfl (Yt hc' hb') rfl) ?_)
   refine Zm rfl (Ex_neqTy rfl rfl) (WO_nil (Zc (Yi rfl ?_ ?_)))
   ·intro c3
    try (first | replace c3 := dTr c3 | replace c3 := Zk c3)
    have hF : tysEq l l' = false := tys_no hk hk' (by have h9 := c3; rw [Bool.not_eq_true'] at h9; exact h9)
    refine Zf (Zb (Za rfl (Zg rfl) (Ze (Zc (Zv ?_)))))
    refine Zq (Zq (Zq (Zq (Zq (Yh rfl rfl ?_)))))
    first | exact congrArg Value.bool hF.symm | (have hT : tysEq l l' = true := by unfold tysEq; rw [decide_eq_true hE, range_end hI.1 (by omega) hI.2]; rfl); exact congrArg Value.bool hT.symm
   ·intro c3
    try (first | replace c3 := dFa c3 | replace c3 := Zi c3)
    refine Zw (Zx (Zc (Zb ?_)))
    (first | (refine Za rfl (Xa rfl rfl ?_) ?_; omega) | (refine Za rfl (Yp rfl rfl ?_) ?_; omega) | refine Za rfl (Yz rfl rfl) ?_)
    refine Za rfl (Zd rfl) (Ze ?_)
    refine Yn (k + 1) ?_ (⟨hk, range_snoc hI.2 (by rw [List.getElem?_eq_getElem hk, List.getElem?_eq_getElem hk']; have h9 := c3; rw [Bool.not_eq_false'] at h9; exact h9)⟩) 0 rfl (rfl) ⟨rfl, rfl, rfl, rfl, trivial⟩
    omega
  ·intro c2
   try (first | replace c2 := dFa c2 | replace c2 := Zi c2)
   refine Yx (Yw (Yo (Yv (Zc (Zf ?_)))))
   refine Zb (Za rfl (Zg rfl) (Ze (Zc (Zv (Yh rfl rfl ?_)))))
   first | exact congrArg Value.bool hF.symm | (have hT : tysEq l l' = true := by unfold tysEq; rw [decide_eq_true hE, range_end hI.1 (by omega) hI.2]; rfl); exact congrArg Value.bool hT.symm
theorem haveOne_any (a b : Me) (pv cv hv fv pv' cv' hv' fv' : Value) (w : World) (ha : TysAt w pv a.params) (hb : TysAt w pv' b.params) :
  Pure Tryz.prog 248 #[.agg (meV a pv cv hv fv).toArray, .agg (meV b pv' cv' hv' fv').toArray] w (.bool (sameSig a b)) := by
 refine opens (args := [.agg (meV a pv cv hv fv).toArray, .agg (meV b pv' cv' hv' fv').toArray]) Tryz.func248 rfl Tryz.ntmps248 ?_
 refine Zf (Zb (WL_box rfl rfl ?_))
 intro b0 hb0
 refine WL_box rfl rfl ?_
 intro b1 hb1
 refine Za rfl (Zg rfl) (Ze (Zc (Zf (Zb (Za rfl (Zh (ff rfl) rfl) ?_)))))
 refine Za rfl (Zj (t1 rfl) rfl (Zl 1 rfl rfl)) (Za rfl (Zh (ff rfl) rfl) (Za rfl (Zj (t1 rfl) rfl (Zl 0 rfl rfl)) (Za rfl (Ex_eqlS rfl rfl) (Za rfl (Zd rfl) (Yr rfl rfl rfl ?_ ?_)))))
 ·intro h1
  try (first | replace h1 := dTr h1 | replace h1 := Zk h1)
  refine Zo rfl rfl rfl (Zh (ff rfl) rfl) (Zo rfl rfl rfl (Yb (tn rfl) rfl 1 rfl rfl) (Zo rfl rfl rfl (Zh (ff rfl) rfl) (Zo rfl rfl rfl (Yb (tn rfl) rfl 0 rfl rfl) (Zo rfl rfl rfl (Ex_eqlTy rfl rfl) (Za rfl (Zt rfl rfl) ?_)))))
  refine Za rfl (Zd rfl) (Yr rfl rfl rfl ?_ ?_)
  ·intro h2
   try (first | replace h2 := dTr h2 | replace h2 := Zk h2)
   refine Zo rfl rfl rfl (Zh (ff rfl) rfl) (Zo rfl rfl rfl (Zj (t1 rfl) rfl (Zl 1 rfl rfl)) (Zo rfl rfl rfl (Zh (ff rfl) rfl) (Zo rfl rfl rfl (Zj (t1 rfl) rfl (Zl 0 rfl rfl)) (WL_callYes fn324 rfl rfl rfl rfl (fun w hs => equal_any _ _ a.params b.params w (TysAt.mono ha (lowOf hs)) (TysAt.mono hb (lowOf hs))) ?_))))
   refine Za rfl (Zt rfl rfl) (Za rfl (Zg rfl) (Ze (Zc (Zv (Yh rfl rfl ?_)))))
   clear ha hb; congr 1; rw [Bool.eq_iff_iff]; simp_all [sameSig, tysEq_eq, eqS]
  ·intro h2
   try (first | replace h2 := dFa h2 | replace h2 := Zi h2)
   refine Zp rfl rfl rfl (Zp rfl rfl rfl (Zp rfl rfl rfl (Zp rfl rfl rfl (Zp rfl rfl rfl (Za rfl (Zz rfl rfl) ?_)))))
   refine Za rfl (Zg rfl) (Ze (Zc (Zv (Yh rfl rfl ?_))))
   clear ha hb; congr 1; rw [Bool.eq_iff_iff]; simp_all [sameSig, tysEq_eq, eqS]
 ·intro h1
  try (first | replace h1 := dFa h1 | replace h1 := Zi h1)
  refine Zp rfl rfl rfl (Zp rfl rfl rfl (Zp rfl rfl rfl (Zp rfl rfl rfl (Zp rfl rfl rfl (Za rfl (Zz rfl rfl) ?_)))))
  refine Za rfl (Zd rfl) (Zp rfl rfl rfl (Zp rfl rfl rfl (Zp rfl rfl rfl (Zp rfl rfl rfl (Zp rfl rfl rfl ?_)))))
  refine Za rfl (Zz rfl rfl) (Za rfl (Zg rfl) (Ze (Zc (Zv (Yh rfl rfl ?_)))))
  clear ha hb; congr 1; rw [Bool.eq_iff_iff]; simp_all [sameSig, tysEq_eq, eqS]
def fdsB (l : List Fld) : Bool := decide ((l.length : Int) ≤ 20) && (List.range l.length).all (fdAt l)
theorem mustBeFields_any (v : Value) (l : List Fld) (w : World) (hv : FdsAt w v l) : PureP Tryz.prog 140 #[v] w (fdsB l) := by
 obtain ⟨p, e, rfl, hl, hr1⟩ := hv.is
 replace hr1 : Hid _ := hr1
 clear hv
 refine opens (args := [.slice p l.length e]) Tryz.func140 rfl Tryz.ntmps140 ?_
 refine Zf (Zb (Za rfl (Zd rfl) (Za rfl (Yg (ts rfl) rfl) (Za rfl (Ex_leq rfl rfl) (Yl fn111 rfl rfl (fun w _ => Xe _ w) ?_ ?_)))))
 rotate_left
 ·intro o1
  try (first | replace o1 := dFa o1 | replace o1 := Zi o1)
  have hF : fdsB l = false := by first | (simp_all [fdsB]; done) | (simp_all [fdsB]; omega)
  refine Ye (Yu ?_)
  exact hF
 intro o1
 try (first | replace o1 := dTr o1 | replace o1 := Zk o1)
 have hZ : decide ((l.length : Int) ≤ 20) = true := by simp_all
 refine Ze (Zc (Zf (Zb (Za rfl (Zd rfl) (Za rfl (Yg (ts rfl) rfl) ?_)))))
 refine Za rfl (Zd rfl) (Ze (Zc (Zs (Xh (E' := (fun i : Nat => [(0, .slice p l.length e), (10, .slice p l.length e), (11, .int .i64 (l.length : Nat)), (12, .int .i64 (i : Nat))]) (0)) ⟨rfl, rfl, rfl, rfl, trivial⟩ (Yy (X := Nat) (fun i : Nat => [(0, .slice p l.length e), (10, .slice p l.length e), (11, .int .i64 (l.length : Nat)), (12, .int .i64 (i : Nat))]) _ _ (fun i : Nat => []) (fun i : Nat => Asr.none) (fun i : Nat => i ≤ l.length ∧ (List.range i).all (fdAt l) = true) (fun i : Nat => l.length - i) (0) (⟨Nat.zero_le _, rfl⟩) ?_)))))
 intro i hI
 refine Zf (Zb (Za rfl (Xb rfl rfl) (Ze (Zc (Zf ?_)))))
 refine Yi rfl ?_ ?_
 ·intro c1
  try (first | replace c1 := dTr c1 | replace c1 := Zk c1)
  have hi : i < l.length := by omega
  obtain ⟨b, o, r, hp, hb, ⟨hr, hfo⟩, hc⟩ := hr1.out i l[i] (List.getElem?_eq_getElem hi)
  subst hp; subst hr
  refine Zw (Zc (Zf (Zs (Zf (Zb ?_)))))
  refine Za rfl (Zd rfl) (Za rfl (Xk (ts rfl) rfl rfl ?_) ?_)
  ·omega
  refine Za rfl (Ym (tn rfl) rfl (Yt hc hb) rfl) (Xg rfl (tz rfl) ?_)
  intro b0 hb0
  refine Za rfl (Zg rfl) (Yd (tn rfl) rfl rfl 0 rfl rfl rfl rfl (Ze (Zc (Zf (Zb ?_)))))
  refine Za rfl (Zh (ff rfl) rfl) (Za rfl (Zj (t1 rfl) rfl (Zl 0 rfl rfl)) (Yl fn139 rfl rfl (fun w _ => mustBeName_any _ w hfo.1) ?_ ?_))
  rotate_left
  ·intro o2
   try (first | replace o2 := dFa o2 | replace o2 := Zi o2)
   have hF : fdsB l = false := by unfold fdsB; rw [range_no hi (by rw [fdAt_some hi]; simp_all)]; simp
   refine Ye (Ye (Ye (Ye (Ye (Yu ?_)))))
   exact hF
  intro o2
  try (first | replace o2 := dTr o2 | replace o2 := Zk o2)
  refine Ze (Zc (Zf (Zb (Za rfl (Zh (ff rfl) rfl) (Za rfl (Yb (tn rfl) rfl 0 rfl rfl) ?_)))))
  refine Yl fn245 rfl rfl (fun w _ => (mustBeType_any 246 valB fn246 isOfValue_any _ w hfo.2).of_eq (mayB_val _)) ?_ ?_
  rotate_left
  ·intro o3
   try (first | replace o3 := dFa o3 | replace o3 := Zi o3)
   have hF : fdsB l = false := by unfold fdsB; rw [range_no hi (by rw [fdAt_some hi]; simp_all)]; simp
   refine Ye (Ye (Ye (Ye (Ye (Yu ?_)))))
   exact hF
  intro o3
  try (first | replace o3 := dTr o3 | replace o3 := Zk o3)
  refine Ze (Zc (Zf (Zb (Za rfl (Zd rfl) (Za rfl (Zd rfl) ?_)))))
  refine Za rfl (Ex_sliceL (ts rfl) rfl rfl ?_) ?_
  ·omega
  refine Za rfl (Yg (ts rfl) rfl) (Za rfl (Zd rfl) (Ze (Zc (Zs ?_))))
  have hO := hI
  refine Xh (E' := (fun k : Nat => [(0, .slice (some ⟨b, o, none⟩) l.length e), (3, .pointer (some ⟨b0, 0, none⟩)), (10, .slice (some ⟨b, o, none⟩) l.length e), (11, .int .i64 (l.length : Nat)), (12, .int .i64 (i : Nat)), (25, .slice (some ⟨b, o, none⟩) i e), (26, .int .i64 (i : Nat)), (27, .int .i64 (k : Nat))]) (0)) ⟨rfl, rfl, rfl, rfl, rfl, rfl, rfl, rfl, trivial⟩ (Yy (X := Nat) (fun k : Nat => [(0, .slice (some ⟨b, o, none⟩) l.length e), (3, .pointer (some ⟨b0, 0, none⟩)), (10, .slice (some ⟨b, o, none⟩) l.length e), (11, .int .i64 (l.length : Nat)), (12, .int .i64 (i : Nat)), (25, .slice (some ⟨b, o, none⟩) i e), (26, .int .i64 (i : Nat)), (27, .int .i64 (k : Nat))]) _ _ (fun k : Nat => [(b0, fdV l[i])]) (fun k : Nat => Asr.none) (fun k : Nat => k ≤ i ∧ (List.range k).all (fdNe l i) = true) (fun k : Nat => i - k) (0) (⟨Nat.zero_le _, rfl⟩) ?_)
  intro k hI
  refine Zf (Zb (Za rfl (Xb rfl rfl) (Ze (Zc (Zf ?_)))))
  refine Yi rfl ?_ ?_
  ·intro c2
   try (first | replace c2 := dTr c2 | replace c2 := Zk c2)
   have hki : k < i := by omega
   have hk : k < l.length := by omega
   obtain ⟨b', o', r', hp', hb', ⟨hr', -⟩, hc'⟩ := hr1.out k l[k] (List.getElem?_eq_getElem hk)
   cases hp'; subst hr'
   refine Zw (Zc (Zf (Zs (Zf (Zb ?_)))))
   refine Za rfl (Xk (ts rfl) rfl rfl ?_) ?_
   ·omega
   refine Za rfl (Ym (tn rfl) rfl (Yt hc' hb') rfl) (Xg rfl (tz rfl) ?_)
   intro b1 hb1
   refine Yd (tn rfl) rfl rfl 0 rfl rfl rfl rfl (Ze (Zc (Zb (Za rfl (Zh (ff rfl) rfl) (Za rfl (Zj (t1 rfl) rfl (Zl 0 rfl rfl)) ?_)))))
   refine Za rfl (Zh (ff rfl) rfl) (Za rfl (Zj (t1 rfl) rfl (Zl 1 rfl rfl)) (Za rfl (Ex_neqS rfl rfl) (Yl fn111 rfl rfl (fun w _ => Xe _ w) ?_ ?_)))
   rotate_left
   ·intro o4
    try (first | replace o4 := dFa o4 | replace o4 := Zi o4)
    have hF : fdsB l = false := by unfold fdsB; rw [range_no hi (by rw [fdAt_some hi, show fdNew l i = false from range_no hki (by rw [fdNe_some hi hk]; simp_all [eqS])]; simp)]; simp
    refine Ye (Ye (Ye (Ye (Ye (Ye ?_)))))
    refine Ye (Ye (Yu ?_))
    exact hF
   intro o4
   try (first | replace o4 := dTr o4 | replace o4 := Zk o4)
   refine Ze (Zx (Zc (Zb ?_)))
   (first | (refine Za rfl (Xa rfl rfl ?_) ?_; omega) | (refine Za rfl (Yp rfl rfl ?_) ?_; omega) | refine Za rfl (Yz rfl rfl) ?_)
   refine Za rfl (Zd rfl) (Ze ?_)
   refine Yn (k + 1) ?_ (⟨hki, range_snoc hI.2 (by rw [fdNe_some hi hk]; simp_all [eqS])⟩) 1 rfl (rfl) ⟨rfl, rfl, rfl, rfl, rfl, rfl, rfl, rfl, trivial⟩
   omega
  ·intro c2
   try (first | replace c2 := dFa c2 | replace c2 := Zi c2)
   have hN : fdNew l i = true := range_end hI.1 (by omega) hI.2
   have hA : fdAt l i = true := by rw [fdAt_some hi, hN]; simp_all
   refine Yx (Yw (Yo (Yv (Zx (Zc ?_)))))
   refine Zb ?_
   (first | (refine Za rfl (Xa rfl rfl ?_) ?_; omega) | (refine Za rfl (Yp rfl rfl ?_) ?_; omega) | refine Za rfl (Yz rfl rfl) ?_)
   refine Za rfl (Zd rfl) (Ze ?_)
   refine Yn (i + 1) ?_ (⟨hi, range_snoc hO.2 hA⟩) 1 rfl (rfl) ⟨rfl, rfl, rfl, rfl, trivial⟩
   omega
 ·intro c1
  try (first | replace c1 := dFa c1 | replace c1 := Zi c1)
  have hFd := range_end hI.1 (by omega) hI.2
  refine Yx (Yw (Yo (Yv (PP_end rfl ?_))))
  unfold fdsB; rw [hZ, hFd]; rfl
end Go.Proofs.YtpofmnfkdkmieaaGreat
