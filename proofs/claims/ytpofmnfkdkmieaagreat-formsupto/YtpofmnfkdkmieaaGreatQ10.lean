/- What is proved here: the document's own answer isMethod answers as the plain function does. -/
import Derived.Test.YtpofmnfkdkmieaaGreatQ08
set_option linter.unusedVariables false
set_option linter.unusedSimpArgs false
namespace Go.Proofs.YtpofmnfkdkmieaaGreat
open Go.RowKit At E
theorem met_head {m : Me} (h : isHeadB m = false) : isMethodB m = false := by simp [isMethodB, h]
theorem met_size {m : Me} (h : (decide (1 ≤ (m.code.length : Int)) && decide ((m.code.length : Int) ≤ 200) && decide ((m.handlers.length : Int) ≤ 10) && decide ((m.frames.length : Int) ≤ 60)) = false) : isMethodB m = false := by
 unfold isMethodB
 cases isHeadB m
 ·rfl
 ·simp only [Bool.true_and, h, Bool.false_and]
theorem met_code {m : Me} (h : m.code.all (fun i => isInstrB i m.locals m.code.length) = false) : isMethodB m = false := by unfold isMethodB; rw [h]; simp
theorem met_hds {m : Me} (h : m.handlers.all (fun h => isHdB h m.code.length) = false) : isMethodB m = false := by unfold isMethodB; rw [h]; simp
theorem met_frs {m : Me} (h : (List.range m.frames.length).all (frAt m.frames m.locals m.stack m.code.length) = false) : isMethodB m = false := by unfold isMethodB; rw [h]; simp
theorem met_yes {m : Me} (h1 : isHeadB m = true) (h2 : (decide (1 ≤ (m.code.length : Int)) && decide ((m.code.length : Int) ≤ 200) && decide ((m.handlers.length : Int) ≤ 10) && decide ((m.frames.length : Int) ≤ 60)) = true)
  (h3 : m.code.all (fun i => isInstrB i m.locals m.code.length) = true) (h4 : m.handlers.all (fun h => isHdB h m.code.length) = true) (h5 : (List.range m.frames.length).all (frAt m.frames m.locals m.stack m.code.length) = true) : isMethodB m = true := by
 unfold isMethodB
 rw [h1, h3, h4, h5]
 simp only [Bool.true_and, Bool.and_true]; exact h2
theorem frAt_some {l : List Fr} {k : Nat} (hk : k < l.length) (a b : Int) (c : Nat) : frAt l a b c k = isFrB (aheadOf l k) l[k] a b c := by
 simp [frAt, List.getElem?_eq_getElem hk]
theorem ahead_zero {l : List Fr} {k : Nat} (h : k = 0) : aheadOf l k = -1 := by simp [aheadOf, h]
theorem ahead_pos {l : List Fr} {k : Nat} (h : 0 < k) (hk : k - 1 < l.length) : aheadOf l k = (l[k - 1]).pos := by
 have : ¬ k = 0 := by omega
 simp [aheadOf, this, posAt, List.getElem?_eq_getElem hk]
set_option maxHeartbeats 2000000 in
theorem isMethod_any (m : Me) (pv cv hv fv : Value) (w : World) (hm : MeParts w m pv cv hv fv) :
  Pure Tryz.prog 95 #[.agg (meV m pv cv hv fv).toArray] w (.bool (isMethodB m)) := by
 obtain ⟨p1, e1, rfl, hl1, -⟩ := hm.ps.is
 obtain ⟨p2, e2, rfl, hl2, hr2⟩ := hm.cs.is
 obtain ⟨p3, e3, rfl, hl3, hr3⟩ := hm.hs.is
 obtain ⟨p4, e4, rfl, hl4, hr4⟩ := hm.fs.is
 replace hr2 : Hid _ := hr2
 replace hr3 : Hid _ := hr3
 replace hr4 : Hid _ := hr4
 replace hm : Hid _ := hm
 refine opens (args := [.agg (meV m (.slice p1 m.params.length e1) (.slice p2 m.code.length e2) (.slice p3 m.handlers.length e3) (.slice p4 m.frames.length e4)).toArray]) Tryz.func95 rfl Tryz.ntmps95 ?_
 refine Zf (Zb (WL_box rfl rfl ?_))
 intro b0 hb0
 refine Za rfl (Zg rfl) (Ze (Zc (Zf (Zb (Za rfl (Zh (ff rfl) rfl) ?_)))))
 refine Za rfl (Zj (t1 rfl) rfl (Zl 0 rfl rfl)) (Xi fn93 rfl rfl (fun w _ => isName_any _ w hm.out.ok.1) ?_)
 refine Za rfl (Zg rfl) (Ze (Zc (Zf (Zb (Za rfl (Zh (ff rfl) rfl) ?_)))))
 refine Za rfl (Zj (t1 rfl) rfl (Zl 0 rfl rfl)) (Xi fn134 rfl rfl (fun w hs => areTypes_any _ m.params _ w (hm.out.ps.mono (lowOf hs))) ?_)
 refine Za rfl (Zg rfl) (Ze (Zc (Zf (Zb (Za rfl (Zh (ff rfl) rfl) ?_)))))
 refine Za rfl (Yb (tn rfl) rfl 0 rfl rfl) (Xi fn94 rfl rfl (fun w _ => isType_any m.result _ _ w hm.out.ok.2.1) ?_)
 refine Za rfl (Zg rfl) (Ze (Zc (Zf (Zb (Za rfl (Zh (ff rfl) rfl) ?_)))))
 refine Za rfl (Zj (t1 rfl) rfl (Zl 0 rfl rfl)) (Za rfl (Yg (ts rfl) rfl) (Za rfl (Zg rfl) (Ze (Zc (WC_join (Y := Int) (fun y : Int => [(1, .pointer (some ⟨b0, 0, none⟩)), (2, .bool false), (3, .bool (isNameB m.name)), (4, .bool (areTypesB m.params false)), (5, .bool (isTypeB m.result true false)), (6, .int .i64 y)]) (fun y : Int => [(b0, meV m (.slice p1 m.params.length e1) (.slice p2 m.code.length e2) (.slice p3 m.handlers.length e3) (.slice p4 m.frames.length e4))]) (fun y : Int => Asr.none) (fun y : Int => y = leastB m) ?_ ?_)))))
 ·skip
  refine Zf (Zb (Za rfl (Zh (ff rfl) rfl) (Za rfl (Zj (t1 rfl) rfl (Zl 0 rfl rfl)) (Za rfl (Ex_not rfl) (Ze ?_)))))
  refine Zc (Yi rfl ?_ ?_)
  ·intro c1
   try (first | replace c1 := dTr c1 | replace c1 := Zk c1)
   refine Zb (Za rfl (Zd rfl) ?_)
   (first | (refine Za rfl (Xa rfl rfl ?_) ?_; omega) | (refine Za rfl (Yp rfl rfl ?_) ?_; omega) | refine Za rfl (Yz rfl rfl) ?_)
   refine Za rfl (Zg rfl) (Ze (WQ_meet _ 0 rfl rfl ⟨rfl, rfl, rfl, rfl, rfl, rfl, trivial⟩ ?_))
   simp_all [leastB]
  ·intro c1
   try (first | replace c1 := dFa c1 | replace c1 := Zi c1)
   refine Zw (WQ_meet _ 0 rfl rfl ⟨rfl, rfl, rfl, rfl, rfl, rfl, trivial⟩ ?_)
   simp_all [leastB]
 intro y hJ
 refine Zf (Zf (Zb (Za rfl (Zd rfl) (Za rfl (Ex_not rfl) (Za rfl (Zd rfl) ?_)))))
 refine Yr rfl rfl rfl ?_ ?_
 ·intro h1
  try (first | replace h1 := dTr h1 | replace h1 := Zk h1)
  refine Zp rfl rfl rfl (Zp rfl rfl rfl (Za rfl (Zt rfl rfl) (Za rfl (Zd rfl) (Zp rfl rfl rfl (Zp rfl rfl rfl ?_)))))
  refine Za rfl (Zt rfl rfl) (Za rfl (Zd rfl) (Zp rfl rfl rfl (Zp rfl rfl rfl (Zp rfl rfl rfl (Zp rfl rfl rfl ?_)))))
  refine Za rfl (Zt rfl rfl) (Za rfl (Zd rfl) (Zp rfl rfl rfl (Zp rfl rfl rfl (Zp rfl rfl rfl (Zp rfl rfl rfl ?_)))))
  refine Za rfl (Zt rfl rfl) (Za rfl (Zd rfl) (Zp rfl rfl rfl (Zp rfl rfl rfl (Zp rfl rfl rfl (Za rfl (Zt rfl rfl) ?_)))))
  refine Za rfl (Zd rfl) (Zp rfl rfl rfl (Zp rfl rfl rfl (Zp rfl rfl rfl (Za rfl (Zt rfl rfl) (Za rfl (Zd rfl) ?_)))))
  refine Zp rfl rfl rfl (Zp rfl rfl rfl (Zp rfl rfl rfl (Za rfl (Zt rfl rfl) (Ze (Zc ?_)))))
  refine Xq rfl ?_
  have hF := met_head (m := m) (by first | (simp_all [isHeadB]; done) | (simp_all [isHeadB]; omega))
  refine Zf (Zb (Za rfl (Zg rfl) (Ze (Zc (Zv ?_)))))
  refine Zq (Yh rfl rfl ?_)
  first | exact congrArg Value.bool hF.symm | exact congrArg Value.bool (met_yes hH hZ hC hD hE).symm
 ·intro h1
  try (first | replace h1 := dFa h1 | replace h1 := Zi h1)
  refine Zo rfl rfl rfl (Zd rfl) (Zo rfl rfl rfl (Ex_not rfl) (Za rfl (Zz rfl rfl) (Za rfl (Zd rfl) (Yr rfl rfl rfl ?_ ?_))))
  ·intro h2
   try (first | replace h2 := dTr h2 | replace h2 := Zk h2)
   refine Zp rfl rfl rfl (Zp rfl rfl rfl (Za rfl (Zt rfl rfl) (Za rfl (Zd rfl) (Zp rfl rfl rfl (Zp rfl rfl rfl ?_)))))
   refine Zp rfl rfl rfl (Zp rfl rfl rfl (Za rfl (Zt rfl rfl) (Za rfl (Zd rfl) (Zp rfl rfl rfl (Zp rfl rfl rfl ?_)))))
   refine Zp rfl rfl rfl (Zp rfl rfl rfl (Za rfl (Zt rfl rfl) (Za rfl (Zd rfl) (Zp rfl rfl rfl (Zp rfl rfl rfl ?_)))))
   refine Zp rfl rfl rfl (Za rfl (Zt rfl rfl) (Za rfl (Zd rfl) (Zp rfl rfl rfl (Zp rfl rfl rfl (Zp rfl rfl rfl ?_)))))
   refine Za rfl (Zt rfl rfl) (Za rfl (Zd rfl) (Zp rfl rfl rfl (Zp rfl rfl rfl (Zp rfl rfl rfl (Za rfl (Zt rfl rfl) ?_)))))
   refine Ze (Zc (Xq rfl ?_))
   have hF := met_head (m := m) (by first | (simp_all [isHeadB]; done) | (simp_all [isHeadB]; omega))
   refine Zf (Zb (Za rfl (Zg rfl) (Ze (Zc (Zv ?_)))))
   refine Zq (Yh rfl rfl ?_)
   first | exact congrArg Value.bool hF.symm | exact congrArg Value.bool (met_yes hH hZ hC hD hE).symm
  ·intro h2
   try (first | replace h2 := dFa h2 | replace h2 := Zi h2)
   refine Zo rfl rfl rfl (Zd rfl) (Zo rfl rfl rfl (Ex_not rfl) (Za rfl (Zz rfl rfl) (Za rfl (Zd rfl) (Yr rfl rfl rfl ?_ ?_))))
   ·intro h3
    try (first | replace h3 := dTr h3 | replace h3 := Zk h3)
    refine Zp rfl rfl rfl (Zp rfl rfl rfl (Zp rfl rfl rfl (Zp rfl rfl rfl (Za rfl (Zt rfl rfl) (Za rfl (Zd rfl) ?_)))))
    refine Zp rfl rfl rfl (Zp rfl rfl rfl (Zp rfl rfl rfl (Zp rfl rfl rfl (Za rfl (Zt rfl rfl) (Za rfl (Zd rfl) ?_)))))
    refine Zp rfl rfl rfl (Zp rfl rfl rfl (Zp rfl rfl rfl (Za rfl (Zt rfl rfl) (Za rfl (Zd rfl) (Zp rfl rfl rfl ?_)))))
    refine Zp rfl rfl rfl (Zp rfl rfl rfl (Za rfl (Zt rfl rfl) (Za rfl (Zd rfl) (Zp rfl rfl rfl (Zp rfl rfl rfl ?_)))))
    refine Zp rfl rfl rfl (Za rfl (Zt rfl rfl) (Ze (Zc (Xq rfl ?_))))
    have hF := met_head (m := m) (by first | (simp_all [isHeadB]; done) | (simp_all [isHeadB]; omega))
    refine Zf (Zb (Za rfl (Zg rfl) (Ze (Zc (Zv ?_)))))
    refine Zq (Yh rfl rfl ?_)
    first | exact congrArg Value.bool hF.symm | exact congrArg Value.bool (met_yes hH hZ hC hD hE).symm
   ·intro h3
    try (first | replace h3 := dFa h3 | replace h3 := Zi h3)
    refine Zo rfl rfl rfl (Zh (ff rfl) rfl) (Zo rfl rfl rfl (Zj (t1 rfl) rfl (Zl 0 rfl rfl)) (Zo rfl rfl rfl (Yg (ts rfl) rfl) (Zo rfl rfl rfl (Ex_gtr rfl rfl) (Za rfl (Zz rfl rfl) (Za rfl (Zd rfl) ?_)))))
    refine Yr rfl rfl rfl ?_ ?_
    ·intro h4
     try (first | replace h4 := dTr h4 | replace h4 := Zk h4)
     refine Zp rfl rfl rfl (Zp rfl rfl rfl (Zp rfl rfl rfl (Zp rfl rfl rfl (Za rfl (Zt rfl rfl) (Za rfl (Zd rfl) ?_)))))
     refine Zp rfl rfl rfl (Zp rfl rfl rfl (Zp rfl rfl rfl (Za rfl (Zt rfl rfl) (Za rfl (Zd rfl) (Zp rfl rfl rfl ?_)))))
     refine Zp rfl rfl rfl (Zp rfl rfl rfl (Za rfl (Zt rfl rfl) (Za rfl (Zd rfl) (Zp rfl rfl rfl (Zp rfl rfl rfl ?_)))))
     refine Zp rfl rfl rfl (Za rfl (Zt rfl rfl) (Ze (Zc (Xq rfl ?_))))
     have hF := met_head (m := m) (by first | (simp_all [isHeadB]; done) | (simp_all [isHeadB]; omega))
     refine Zf (Zb (Za rfl (Zg rfl) (Ze (Zc (Zv ?_)))))
     refine Zq (Yh rfl rfl ?_)
     first | exact congrArg Value.bool hF.symm | exact congrArg Value.bool (met_yes hH hZ hC hD hE).symm
    ·intro h4
     try (first | replace h4 := dFa h4 | replace h4 := Zi h4)
     refine Zo rfl rfl rfl (Zh (ff rfl) rfl) (Zo rfl rfl rfl (Zj (t1 rfl) rfl (Zl 0 rfl rfl)) (Zo rfl rfl rfl (Zd rfl) (Zo rfl rfl rfl (Xb rfl rfl) (Za rfl (Zz rfl rfl) (Za rfl (Zd rfl) ?_)))))
     refine Yr rfl rfl rfl ?_ ?_
     ·intro h5
      try (first | replace h5 := dTr h5 | replace h5 := Zk h5)
      refine Zp rfl rfl rfl (Zp rfl rfl rfl (Zp rfl rfl rfl (Za rfl (Zt rfl rfl) (Za rfl (Zd rfl) (Zp rfl rfl rfl ?_)))))
      refine Zp rfl rfl rfl (Zp rfl rfl rfl (Za rfl (Zt rfl rfl) (Za rfl (Zd rfl) (Zp rfl rfl rfl (Zp rfl rfl rfl ?_)))))
      refine Zp rfl rfl rfl (Za rfl (Zt rfl rfl) (Ze (Zc (Xq rfl ?_))))
      have hF := met_head (m := m) (by first | (simp_all [isHeadB]; done) | (simp_all [isHeadB]; omega))
      refine Zf (Zb (Za rfl (Zg rfl) (Ze (Zc (Zv ?_)))))
      refine Zq (Yh rfl rfl ?_)
      first | exact congrArg Value.bool hF.symm | exact congrArg Value.bool (met_yes hH hZ hC hD hE).symm
     ·intro h5
      try (first | replace h5 := dFa h5 | replace h5 := Zi h5)
      refine Zo rfl rfl rfl (Zh (ff rfl) rfl) (Zo rfl rfl rfl (Zj (t1 rfl) rfl (Zl 0 rfl rfl)) (Zo rfl rfl rfl (Ex_gtr rfl rfl) (Za rfl (Zz rfl rfl) (Za rfl (Zd rfl) (Yr rfl rfl rfl ?_ ?_)))))
      ·intro h6
       try (first | replace h6 := dTr h6 | replace h6 := Zk h6)
       refine Zp rfl rfl rfl (Zp rfl rfl rfl (Zp rfl rfl rfl (Za rfl (Zt rfl rfl) (Za rfl (Zd rfl) (Zp rfl rfl rfl ?_)))))
       refine Zp rfl rfl rfl (Zp rfl rfl rfl (Za rfl (Zt rfl rfl) (Ze (Zc (Xq rfl ?_)))))
       have hF := met_head (m := m) (by first | (simp_all [isHeadB]; done) | (simp_all [isHeadB]; omega))
       refine Zf (Zb (Za rfl (Zg rfl) (Ze (Zc (Zv ?_)))))
       refine Zq (Yh rfl rfl ?_)
       first | exact congrArg Value.bool hF.symm | exact congrArg Value.bool (met_yes hH hZ hC hD hE).symm
      ·intro h6
       try (first | replace h6 := dFa h6 | replace h6 := Zi h6)
       refine Zo rfl rfl rfl (Zh (ff rfl) rfl) (Zo rfl rfl rfl (Zj (t1 rfl) rfl (Zl 0 rfl rfl)) (Zo rfl rfl rfl (Xb rfl rfl) (Za rfl (Zz rfl rfl) (Za rfl (Zd rfl) (Yr rfl rfl rfl ?_ ?_)))))
       ·intro h7
        try (first | replace h7 := dTr h7 | replace h7 := Zk h7)
        refine Zp rfl rfl rfl (Zp rfl rfl rfl (Zp rfl rfl rfl (Za rfl (Zt rfl rfl) (Ze (Zc ?_)))))
        refine Xq rfl ?_
        have hF := met_head (m := m) (by first | (simp_all [isHeadB]; done) | (simp_all [isHeadB]; omega))
        refine Zf (Zb (Za rfl (Zg rfl) (Ze (Zc (Zv ?_)))))
        refine Zq (Yh rfl rfl ?_)
        first | exact congrArg Value.bool hF.symm | exact congrArg Value.bool (met_yes hH hZ hC hD hE).symm
       ·intro h7
        try (first | replace h7 := dFa h7 | replace h7 := Zi h7)
        refine Zo rfl rfl rfl (Zh (ff rfl) rfl) (Zo rfl rfl rfl (Zj (t1 rfl) rfl (Zl 0 rfl rfl)) (Zo rfl rfl rfl (Ex_gtr rfl rfl) (Za rfl (Zz rfl rfl) (Ze (Zc ?_)))))
        refine Yi rfl ?_ ?_
        ·intro c2
         try (first | replace c2 := dTr c2 | replace c2 := Zk c2)
         have hF := met_head (m := m) (by first | (simp_all [isHeadB]; done) | (simp_all [isHeadB]; omega))
         refine Zf (Zb (Za rfl (Zg rfl) (Ze (Zc (Zv ?_)))))
         refine Zq (Yh rfl rfl ?_)
         first | exact congrArg Value.bool hF.symm | exact congrArg Value.bool (met_yes hH hZ hC hD hE).symm
        ·intro c2
         try (first | replace c2 := dFa c2 | replace c2 := Zi c2)
         have hH : isHeadB m = true := by first | (simp_all [isHeadB]; done) | (simp_all [isHeadB]; omega)
         refine Zw (Zc (Zf (Zf (Zb (Za rfl (Zh (ff rfl) rfl) ?_)))))
         refine Za rfl (Zj (t1 rfl) rfl (Zl 0 rfl rfl)) (Za rfl (Yg (ts rfl) rfl) (Za rfl (Xb rfl rfl) (Za rfl (Zd rfl) (Yr rfl rfl rfl ?_ ?_))))
         ·intro h8
          try (first | replace h8 := dTr h8 | replace h8 := Zk h8)
          refine Zp rfl rfl rfl (Zp rfl rfl rfl (Zp rfl rfl rfl (Zp rfl rfl rfl (Za rfl (Zt rfl rfl) (Za rfl (Zd rfl) ?_)))))
          refine Zp rfl rfl rfl (Zp rfl rfl rfl (Zp rfl rfl rfl (Zp rfl rfl rfl (Za rfl (Zt rfl rfl) (Za rfl (Zd rfl) ?_)))))
          refine Zp rfl rfl rfl (Zp rfl rfl rfl (Zp rfl rfl rfl (Zp rfl rfl rfl (Za rfl (Zt rfl rfl) (Ze ?_)))))
          refine Zc (Xq rfl ?_)
          have hF := met_size (m := m) (by first | (simp_all; done) | (simp_all; omega))
          refine Zf (Zb (Za rfl (Zg rfl) (Ze (Zc (Zv ?_)))))
          refine Zq (Yh rfl rfl ?_)
          first | exact congrArg Value.bool hF.symm | exact congrArg Value.bool (met_yes hH hZ hC hD hE).symm
         ·intro h8
          try (first | replace h8 := dFa h8 | replace h8 := Zi h8)
          refine Zo rfl rfl rfl (Zh (ff rfl) rfl) (Zo rfl rfl rfl (Zj (t1 rfl) rfl (Zl 0 rfl rfl)) (Zo rfl rfl rfl (Yg (ts rfl) rfl) (Zo rfl rfl rfl (Ex_gtr rfl rfl) (Za rfl (Zz rfl rfl) (Za rfl (Zd rfl) ?_)))))
          refine Yr rfl rfl rfl ?_ ?_
          ·intro h9
           try (first | replace h9 := dTr h9 | replace h9 := Zk h9)
           refine Zp rfl rfl rfl (Zp rfl rfl rfl (Zp rfl rfl rfl (Zp rfl rfl rfl (Za rfl (Zt rfl rfl) (Za rfl (Zd rfl) ?_)))))
           refine Zp rfl rfl rfl (Zp rfl rfl rfl (Zp rfl rfl rfl (Zp rfl rfl rfl (Za rfl (Zt rfl rfl) (Ze ?_)))))
           refine Zc (Xq rfl ?_)
           have hF := met_size (m := m) (by first | (simp_all; done) | (simp_all; omega))
           refine Zf (Zb (Za rfl (Zg rfl) (Ze (Zc (Zv ?_)))))
           refine Zq (Yh rfl rfl ?_)
           first | exact congrArg Value.bool hF.symm | exact congrArg Value.bool (met_yes hH hZ hC hD hE).symm
          ·intro h9
           try (first | replace h9 := dFa h9 | replace h9 := Zi h9)
           refine Zo rfl rfl rfl (Zh (ff rfl) rfl) (Zo rfl rfl rfl (Zj (t1 rfl) rfl (Zl 0 rfl rfl)) (Zo rfl rfl rfl (Yg (ts rfl) rfl) (Zo rfl rfl rfl (Ex_gtr rfl rfl) (Za rfl (Zz rfl rfl) (Za rfl (Zd rfl) ?_)))))
           refine Yr rfl rfl rfl ?_ ?_
           ·intro h10
            try (first | replace h10 := dTr h10 | replace h10 := Zk h10)
            refine Zp rfl rfl rfl (Zp rfl rfl rfl (Zp rfl rfl rfl (Zp rfl rfl rfl (Za rfl (Zt rfl rfl) (Ze ?_)))))
            refine Zc (Xq rfl ?_)
            have hF := met_size (m := m) (by first | (simp_all; done) | (simp_all; omega))
            refine Zf (Zb (Za rfl (Zg rfl) (Ze (Zc (Zv ?_)))))
            refine Zq (Yh rfl rfl ?_)
            first | exact congrArg Value.bool hF.symm | exact congrArg Value.bool (met_yes hH hZ hC hD hE).symm
           ·intro h10
            try (first | replace h10 := dFa h10 | replace h10 := Zi h10)
            refine Zo rfl rfl rfl (Zh (ff rfl) rfl) (Zo rfl rfl rfl (Zj (t1 rfl) rfl (Zl 0 rfl rfl)) (Zo rfl rfl rfl (Yg (ts rfl) rfl) (Zo rfl rfl rfl (Ex_gtr rfl rfl) (Za rfl (Zz rfl rfl) (Ze ?_)))))
            refine Zc (Yi rfl ?_ ?_)
            ·intro c3
             try (first | replace c3 := dTr c3 | replace c3 := Zk c3)
             have hF := met_size (m := m) (by first | (simp_all; done) | (simp_all; omega))
             refine Zf (Zb (Za rfl (Zg rfl) (Ze (Zc (Zv ?_)))))
             refine Zq (Yh rfl rfl ?_)
             first | exact congrArg Value.bool hF.symm | exact congrArg Value.bool (met_yes hH hZ hC hD hE).symm
            ·intro c3
             try (first | replace c3 := dFa c3 | replace c3 := Zi c3)
             have hZ : (decide (1 ≤ (m.code.length : Int)) && decide ((m.code.length : Int) ≤ 200) && decide ((m.handlers.length : Int) ≤ 10) && decide ((m.frames.length : Int) ≤ 60)) = true := by first | (simp_all; done) | (simp_all; omega)
             refine Zw (Zc (Zf (Zf (Zb (Za rfl (Zg rfl) ?_)))))
             refine Ze (Zc (Zs (Xh (E' := (fun k : Nat => [(1, .pointer (some ⟨b0, 0, none⟩)), (7, .int .i64 (k : Nat))]) (0)) ⟨rfl, rfl, trivial⟩ (Yy (X := Nat) (fun k : Nat => [(1, .pointer (some ⟨b0, 0, none⟩)), (7, .int .i64 (k : Nat))]) _ _ (fun k : Nat => [(b0, meV m (.slice p1 m.params.length e1) (.slice p2 m.code.length e2) (.slice p3 m.handlers.length e3) (.slice p4 m.frames.length e4))]) (fun k : Nat => Asr.none) (fun k : Nat => k ≤ m.code.length ∧ (m.code.take k).all (fun i => isInstrB i m.locals m.code.length) = true) (fun k : Nat => m.code.length - k) (0) (⟨Nat.zero_le _, rfl⟩) ?_))))
             intro k hI
             refine Zf (Zf (Zb (Za rfl (Zd rfl) (Za rfl (Zh (ff rfl) rfl) (Za rfl (Zj (t1 rfl) rfl (Zl 0 rfl rfl)) ?_)))))
             refine Za rfl (Yg (ts rfl) rfl) (Za rfl (Xb rfl rfl) (Ze (Zc (Yi rfl ?_ ?_))))
             ·intro c4
              try (first | replace c4 := dTr c4 | replace c4 := Zk c4)
              have hk : k < m.code.length := by omega
              obtain ⟨b, o, r, hp, hb, ⟨pv, hr, hpt, hio⟩, hc⟩ := hr2.out k m.code[k] (List.getElem?_eq_getElem hk)
              subst hp; subst hr
              refine Zw (Zc (Zf (Zs (Zf (WC_draw mixed (by kernel_rfl) ?_)))))
              refine Zm rfl (Zh (ff rfl) rfl) (Zm rfl (Zj (t1 rfl) rfl (Zl 0 rfl rfl)) (Zm rfl (Zd rfl) (Zm rfl (Xk (ts rfl) rfl rfl ?_) ?_)))
              ·omega
              refine Zm rfl (Ym (tn rfl) rfl (Yt hc hb) rfl) (Zm rfl (Yb (tn rfl) rfl 0 rfl rfl) (WO_call fn135 rfl rfl (fun w hs => isInstr_any _ m _ _ _ _ _ w (hpt.mono (lowOf hs)) hio (hm.out.mono (lowOf hs))) ?_))
              refine Zm rfl (Zg rfl) (WO_nil (Zc (Zf (Zb (Za rfl (Zd rfl) ?_)))))
              refine Za rfl (Ex_not rfl) (Ze (Zc (Yi rfl ?_ ?_)))
              ·intro c5
               try (first | replace c5 := dTr c5 | replace c5 := Zk c5)
               have hF := met_code (all_no hk (by simpa using c5))
               refine Zf (Zb (Za rfl (Zg rfl) (Ze (Zc (Zv ?_)))))
               refine Zq (Zq (Zq (Zq (Zq (Yh rfl rfl ?_)))))
               first | exact congrArg Value.bool hF.symm | exact congrArg Value.bool (met_yes hH hZ hC hD hE).symm
              ·intro c5
               try (first | replace c5 := dFa c5 | replace c5 := Zi c5)
               refine Zw (Zx (Zc (Zb (Za rfl (Zd rfl) ?_))))
               (first | (refine Za rfl (Xa rfl rfl ?_) ?_; omega) | (refine Za rfl (Yp rfl rfl ?_) ?_; omega) | refine Za rfl (Yz rfl rfl) ?_)
               refine Za rfl (Zg rfl) (Ze ?_)
               refine Yn (k + 1) ?_ (⟨hk, all_snoc hk hI.2 (by simpa using c5)⟩) 0 rfl (rfl) ⟨rfl, rfl, trivial⟩
               omega
             ·intro c4
              try (first | replace c4 := dFa c4 | replace c4 := Zi c4)
              have hC := all_end (by omega) hI.2
              refine Yx (Yw (Yo (Yv (Zc (Zf ?_)))))
              refine Zf (Zb (Za rfl (Zg rfl) (Ze (Zc (Zs ?_)))))
              refine Xh (E' := (fun k : Nat => [(1, .pointer (some ⟨b0, 0, none⟩)), (9, .int .i64 (k : Nat))]) (0)) ⟨rfl, rfl, trivial⟩ (Yy (X := Nat) (fun k : Nat => [(1, .pointer (some ⟨b0, 0, none⟩)), (9, .int .i64 (k : Nat))]) _ _ (fun k : Nat => [(b0, meV m (.slice p1 m.params.length e1) (.slice p2 m.code.length e2) (.slice p3 m.handlers.length e3) (.slice p4 m.frames.length e4))]) (fun k : Nat => Asr.none) (fun k : Nat => k ≤ m.handlers.length ∧ (m.handlers.take k).all (fun h => isHdB h m.code.length) = true) (fun k : Nat => m.handlers.length - k) (0) (⟨Nat.zero_le _, rfl⟩) ?_)
              intro k hI
              refine Zf (Zf (Zb (Za rfl (Zd rfl) (Za rfl (Zh (ff rfl) rfl) (Za rfl (Zj (t1 rfl) rfl (Zl 0 rfl rfl)) ?_)))))
              refine Za rfl (Yg (ts rfl) rfl) (Za rfl (Xb rfl rfl) (Ze (Zc (Yi rfl ?_ ?_))))
              ·intro c6
               try (first | replace c6 := dTr c6 | replace c6 := Zk c6)
               have hk : k < m.handlers.length := by omega
               obtain ⟨b, o, r, hp, hb, ⟨hr, hho⟩, hc⟩ := hr3.out k m.handlers[k] (List.getElem?_eq_getElem hk)
               subst hp; subst hr
               refine Zw (Zc (Zf (Zs (Zf (Zb ?_)))))
               refine Za rfl (Zh (ff rfl) rfl) (Za rfl (Zj (t1 rfl) rfl (Zl 0 rfl rfl)) (Za rfl (Zd rfl) (Za rfl (Xk (ts rfl) rfl rfl ?_) ?_)))
               ·omega
               refine Za rfl (Ym (tn rfl) rfl (Yt hc hb) rfl) (Xg rfl (tz rfl) ?_)
               intro b1 hb1
               refine Yd (tn rfl) rfl rfl 0 rfl rfl rfl rfl (Ze (Zc (Zf (Zb (Za rfl (Zh (ff rfl) rfl) ?_)))))
               refine Za rfl (Zj (t1 rfl) rfl (Zl 0 rfl rfl)) (Xi fn93 rfl rfl (fun w _ => isName_any _ w hho.2.2.2) ?_)
               refine Za rfl (Zg rfl) (Ze (Zc (Zf (Zb (Za rfl (Zh (ff rfl) rfl) ?_)))))
               refine Za rfl (Zj (t1 rfl) rfl (Zl 0 rfl rfl)) (Za rfl (Xb rfl rfl) (Za rfl (Zd rfl) (Yr rfl rfl rfl ?_ ?_)))
               ·intro h11
                try (first | replace h11 := dTr h11 | replace h11 := Zk h11)
                refine Zp rfl rfl rfl (Zp rfl rfl rfl (Zp rfl rfl rfl (Zp rfl rfl rfl (Zp rfl rfl rfl (Za rfl (Zt rfl rfl) ?_)))))
                refine Za rfl (Zd rfl) (Zp rfl rfl rfl (Zp rfl rfl rfl (Zp rfl rfl rfl (Zp rfl rfl rfl (Zp rfl rfl rfl ?_)))))
                refine Zp rfl rfl rfl (Za rfl (Zt rfl rfl) (Za rfl (Zd rfl) (Zp rfl rfl rfl (Zp rfl rfl rfl (Zp rfl rfl rfl ?_)))))
                refine Za rfl (Zt rfl rfl) (Za rfl (Zd rfl) (Zp rfl rfl rfl (Zp rfl rfl rfl (Zp rfl rfl rfl (Zp rfl rfl rfl ?_)))))
                refine Zp rfl rfl rfl (Zp rfl rfl rfl (Za rfl (Zt rfl rfl) (Za rfl (Zd rfl) (Zp rfl rfl rfl (Zp rfl rfl rfl ?_)))))
                refine Zp rfl rfl rfl (WL_und rfl rfl rfl (WL_und rfl rfl rfl (WL_und rfl rfl rfl (Zp rfl rfl rfl (Za rfl (Zt rfl rfl) ?_)))))
                refine Ze (Zc (Xq rfl ?_))
                have hF := met_hds (all_no hk (by first | (simp_all [isHdB]; done) | (simp_all [isHdB]; omega)))
                refine Zf (Zb (Za rfl (Zg rfl) (Ze (Zc (Zv ?_)))))
                refine Zq (Zq (Zq (Zq (Zq (Yh rfl rfl ?_)))))
                first | exact congrArg Value.bool hF.symm | exact congrArg Value.bool (met_yes hH hZ hC hD hE).symm
               ·intro h11
                try (first | replace h11 := dFa h11 | replace h11 := Zi h11)
                refine Zo rfl rfl rfl (Zh (ff rfl) rfl) (Zo rfl rfl rfl (Zj (t1 rfl) rfl (Zl 0 rfl rfl)) (Zo rfl rfl rfl (Zh (ff rfl) rfl) (Zo rfl rfl rfl (Zj (t1 rfl) rfl (Zl 0 rfl rfl)) (Zo rfl rfl rfl (Ex_leq rfl rfl) (Za rfl (Zz rfl rfl) ?_)))))
                refine Za rfl (Zd rfl) (Yr rfl rfl rfl ?_ ?_)
                ·intro h12
                 try (first | replace h12 := dTr h12 | replace h12 := Zk h12)
                 refine Zp rfl rfl rfl (Zp rfl rfl rfl (Zp rfl rfl rfl (Zp rfl rfl rfl (Zp rfl rfl rfl (Zp rfl rfl rfl ?_)))))
                 refine Za rfl (Zt rfl rfl) (Za rfl (Zd rfl) (Zp rfl rfl rfl (Zp rfl rfl rfl (Zp rfl rfl rfl (Za rfl (Zt rfl rfl) ?_)))))
                 refine Za rfl (Zd rfl) (Zp rfl rfl rfl (Zp rfl rfl rfl (Zp rfl rfl rfl (Zp rfl rfl rfl (Zp rfl rfl rfl ?_)))))
                 refine Zp rfl rfl rfl (Za rfl (Zt rfl rfl) (Za rfl (Zd rfl) (Zp rfl rfl rfl (Zp rfl rfl rfl (Zp rfl rfl rfl ?_)))))
                 refine WL_und rfl rfl rfl (WL_und rfl rfl rfl (WL_und rfl rfl rfl (Zp rfl rfl rfl (Za rfl (Zt rfl rfl) (Ze ?_)))))
                 refine Zc (Xq rfl ?_)
                 have hF := met_hds (all_no hk (by first | (simp_all [isHdB]; done) | (simp_all [isHdB]; omega)))
                 refine Zf (Zb (Za rfl (Zg rfl) (Ze (Zc (Zv ?_)))))
                 refine Zq (Zq (Zq (Zq (Zq (Yh rfl rfl ?_)))))
                 first | exact congrArg Value.bool hF.symm | exact congrArg Value.bool (met_yes hH hZ hC hD hE).symm
                ·intro h12
                 try (first | replace h12 := dFa h12 | replace h12 := Zi h12)
                 refine Zo rfl rfl rfl (Zh (ff rfl) rfl) (Zo rfl rfl rfl (Zj (t1 rfl) rfl (Zl 0 rfl rfl)) (Zo rfl rfl rfl (Zh (ff rfl) rfl) (Zo rfl rfl rfl (Zj (t1 rfl) rfl (Zl 1 rfl rfl)) (Zo rfl rfl rfl (Yg (ts rfl) rfl) (Zo rfl rfl rfl (Ex_gtr rfl rfl) ?_)))))
                 refine Za rfl (Zz rfl rfl) (Za rfl (Zd rfl) (Yr rfl rfl rfl ?_ ?_))
                 ·intro h13
                  try (first | replace h13 := dTr h13 | replace h13 := Zk h13)
                  refine Zp rfl rfl rfl (Zp rfl rfl rfl (Zp rfl rfl rfl (Za rfl (Zt rfl rfl) (Za rfl (Zd rfl) (Zp rfl rfl rfl ?_)))))
                  refine Zp rfl rfl rfl (Zp rfl rfl rfl (Zp rfl rfl rfl (Zp rfl rfl rfl (Zp rfl rfl rfl (Za rfl (Zt rfl rfl) ?_)))))
                  refine Za rfl (Zd rfl) (Zp rfl rfl rfl (Zp rfl rfl rfl (Zp rfl rfl rfl (WL_und rfl rfl rfl (WL_und rfl rfl rfl ?_)))))
                  refine WL_und rfl rfl rfl (Zp rfl rfl rfl (Za rfl (Zt rfl rfl) (Ze (Zc (Xq rfl ?_)))))
                  have hF := met_hds (all_no hk (by first | (simp_all [isHdB]; done) | (simp_all [isHdB]; omega)))
                  refine Zf (Zb (Za rfl (Zg rfl) (Ze (Zc (Zv ?_)))))
                  refine Zq (Zq (Zq (Zq (Zq (Yh rfl rfl ?_)))))
                  first | exact congrArg Value.bool hF.symm | exact congrArg Value.bool (met_yes hH hZ hC hD hE).symm
                 ·intro h13
                  try (first | replace h13 := dFa h13 | replace h13 := Zi h13)
                  refine Zo rfl rfl rfl (Zh (ff rfl) rfl) (Zo rfl rfl rfl (Zj (t1 rfl) rfl (Zl 0 rfl rfl)) (Zo rfl rfl rfl (Xb rfl rfl) (Za rfl (Zz rfl rfl) (Za rfl (Zd rfl) (Yr rfl rfl rfl ?_ ?_)))))
                  ·intro h14
                   try (first | replace h14 := dTr h14 | replace h14 := Zk h14)
                   refine Zp rfl rfl rfl (Zp rfl rfl rfl (Zp rfl rfl rfl (Zp rfl rfl rfl (Zp rfl rfl rfl (Zp rfl rfl rfl ?_)))))
                   refine Za rfl (Zt rfl rfl) (Za rfl (Zd rfl) (Zp rfl rfl rfl (Zp rfl rfl rfl (Zp rfl rfl rfl (WL_und rfl rfl rfl ?_)))))
                   refine WL_und rfl rfl rfl (WL_und rfl rfl rfl (Zp rfl rfl rfl (Za rfl (Zt rfl rfl) (Ze (Zc ?_)))))
                   refine Xq rfl ?_
                   have hF := met_hds (all_no hk (by first | (simp_all [isHdB]; done) | (simp_all [isHdB]; omega)))
                   refine Zf (Zb (Za rfl (Zg rfl) (Ze (Zc (Zv ?_)))))
                   refine Zq (Zq (Zq (Zq (Zq (Yh rfl rfl ?_)))))
                   first | exact congrArg Value.bool hF.symm | exact congrArg Value.bool (met_yes hH hZ hC hD hE).symm
                  ·intro h14
                   try (first | replace h14 := dFa h14 | replace h14 := Zi h14)
                   refine Zo rfl rfl rfl (Zh (ff rfl) rfl) (Zo rfl rfl rfl (Zj (t1 rfl) rfl (Zl 0 rfl rfl)) (Zo rfl rfl rfl (Zh (ff rfl) rfl) (Zo rfl rfl rfl (Zj (t1 rfl) rfl (Zl 1 rfl rfl)) (Zo rfl rfl rfl (Yg (ts rfl) rfl) (Zo rfl rfl rfl (Ex_geq rfl rfl) ?_)))))
                   refine Za rfl (Zz rfl rfl) (Za rfl (Zd rfl) (Yr rfl rfl rfl ?_ ?_))
                   ·intro h15
                    try (first | replace h15 := dTr h15 | replace h15 := Zk h15)
                    refine Zp rfl rfl rfl (Zp rfl rfl rfl (Zp rfl rfl rfl (WL_und rfl rfl rfl (WL_und rfl rfl rfl (WL_und rfl rfl rfl ?_)))))
                    refine Zp rfl rfl rfl (Za rfl (Zt rfl rfl) (Ze (Zc (Xq rfl ?_))))
                    have hF := met_hds (all_no hk (by first | (simp_all [isHdB]; done) | (simp_all [isHdB]; omega)))
                    refine Zf (Zb (Za rfl (Zg rfl) (Ze (Zc (Zv ?_)))))
                    refine Zq (Zq (Zq (Zq (Zq (Yh rfl rfl ?_)))))
                    first | exact congrArg Value.bool hF.symm | exact congrArg Value.bool (met_yes hH hZ hC hD hE).symm
                   ·intro h15
                    try (first | replace h15 := dFa h15 | replace h15 := Zi h15)
                    refine Zo rfl rfl rfl (Zd rfl) (Zo rfl rfl rfl (Ex_not rfl) (Zo rfl rfl rfl (Zd rfl) (Yr rfl rfl rfl ?_ ?_)))
                    ·intro h16
                     try (first | replace h16 := dTr h16 | replace h16 := Zk h16)
                     refine Zo rfl rfl rfl (Zh (ff rfl) rfl) (Zo rfl rfl rfl (Zj (t1 rfl) rfl (Zl 0 rfl rfl)) (Zo rfl rfl rfl (Ex_neqS rfl rfl) (Zo rfl rfl rfl (Zt rfl rfl) (Za rfl (Zz rfl rfl) (Ze ?_)))))
                     refine Zc (Yi rfl ?_ ?_)
                     ·intro c7
                      try (first | replace c7 := dTr c7 | replace c7 := Zk c7)
                      have hF := met_hds (all_no hk (by first | (simp_all [isHdB]; done) | (simp_all [isHdB]; omega)))
                      refine Zf (Zb (Za rfl (Zg rfl) (Ze (Zc (Zv ?_)))))
                      refine Zq (Zq (Zq (Zq (Zq (Yh rfl rfl ?_)))))
                      first | exact congrArg Value.bool hF.symm | exact congrArg Value.bool (met_yes hH hZ hC hD hE).symm
                     ·intro c7
                      try (first | replace c7 := dFa c7 | replace c7 := Zi c7)
                      refine Zw (Zx (Zc (Zb (Za rfl (Zd rfl) ?_))))
                      (first | (refine Za rfl (Xa rfl rfl ?_) ?_; omega) | (refine Za rfl (Yp rfl rfl ?_) ?_; omega) | refine Za rfl (Yz rfl rfl) ?_)
                      refine Za rfl (Zg rfl) (Ze ?_)
                      refine Yn (k + 1) ?_ (⟨hk, all_snoc hk hI.2 (by first | (simp_all [isHdB]; done) | (simp_all [isHdB]; omega))⟩) 1 rfl (rfl) ⟨rfl, rfl, trivial⟩
                      omega
                    ·intro h16
                     try (first | replace h16 := dFa h16 | replace h16 := Zi h16)
                     refine Zp rfl rfl rfl (Zp rfl rfl rfl (Zp rfl rfl rfl (Zo rfl rfl rfl (Zz rfl rfl) (Za rfl (Zz rfl rfl) (Ze ?_)))))
                     refine Zc (WC_false rfl (Zw (Zx (Zc (Zb ?_)))))
                     refine Za rfl (Zd rfl) ?_
                     (first | (refine Za rfl (Xa rfl rfl ?_) ?_; omega) | (refine Za rfl (Yp rfl rfl ?_) ?_; omega) | refine Za rfl (Yz rfl rfl) ?_)
                     refine Za rfl (Zg rfl) (Ze ?_)
                     refine Yn (k + 1) ?_ (⟨hk, all_snoc hk hI.2 (by first | (simp_all [isHdB]; done) | (simp_all [isHdB]; omega))⟩) 1 rfl (rfl) ⟨rfl, rfl, trivial⟩
                     omega
              ·intro c6
               try (first | replace c6 := dFa c6 | replace c6 := Zi c6)
               have hD := all_end (by omega) hI.2
               refine Yx (Yw (Yo (Yv (Zc (Zf ?_)))))
               refine Zf (Zb (Za rfl (Zg rfl) (Ze (Zc (Zs ?_)))))
               refine Xh (E' := (fun k : Nat => [(1, .pointer (some ⟨b0, 0, none⟩)), (12, .int .i64 (k : Nat))]) (0)) ⟨rfl, rfl, trivial⟩ (Yy (X := Nat) (fun k : Nat => [(1, .pointer (some ⟨b0, 0, none⟩)), (12, .int .i64 (k : Nat))]) _ _ (fun k : Nat => [(b0, meV m (.slice p1 m.params.length e1) (.slice p2 m.code.length e2) (.slice p3 m.handlers.length e3) (.slice p4 m.frames.length e4))]) (fun k : Nat => Asr.none) (fun k : Nat => k ≤ m.frames.length ∧ (List.range k).all (frAt m.frames m.locals m.stack m.code.length) = true) (fun k : Nat => m.frames.length - k) (0) (⟨Nat.zero_le _, rfl⟩) ?_)
               intro k hI
               refine Zf (Zf (Zb (Za rfl (Zd rfl) (Za rfl (Zh (ff rfl) rfl) (Za rfl (Zj (t1 rfl) rfl (Zl 0 rfl rfl)) ?_)))))
               refine Za rfl (Yg (ts rfl) rfl) (Za rfl (Xb rfl rfl) (Ze (Zc (Yi rfl ?_ ?_))))
               ·intro c8
                try (first | replace c8 := dTr c8 | replace c8 := Zk c8)
                have hk : k < m.frames.length := by omega
                obtain ⟨b, o, r, hp, hb, ⟨lv, sv, hr, hfl, hfs, hfo⟩, hc⟩ := hr4.out k m.frames[k] (List.getElem?_eq_getElem hk)
                obtain ⟨q1, f1, hq1, hm1, -⟩ := hfl.is
                obtain ⟨q2, f2, hq2, hm2, -⟩ := hfs.is
                subst hp; subst hr; subst hq1; subst hq2
                refine Zw (Zc (Zf (Zs (Zf (Zb ?_)))))
                refine Za rfl (Zh (ff rfl) rfl) (Za rfl (Zj (t1 rfl) rfl (Zl 0 rfl rfl)) (Za rfl (Zd rfl) (Za rfl (Xk (ts rfl) rfl rfl ?_) ?_)))
                ·omega
                refine Za rfl (Ym (tn rfl) rfl (Yt hc hb) rfl) (Xg rfl (tz rfl) ?_)
                intro b1 hb1
                refine Yd (tn rfl) rfl rfl 0 rfl rfl rfl rfl (Ze (Zc (Zf (Zb (Za rfl (Zh (ff rfl) rfl) ?_)))))
                refine Za rfl (Zj (t1 rfl) rfl (Zl 0 rfl rfl)) (Xi fn134 rfl rfl (fun w hs => areTypes_any _ m.frames[k].locals _ w (hfl.mono (lowOf hs))) ?_)
                refine Za rfl (Zg rfl) (Ze (Zc (Zf (Zb (Za rfl (Zh (ff rfl) rfl) ?_)))))
                refine Za rfl (Zj (t1 rfl) rfl (Zl 0 rfl rfl)) (Xi fn134 rfl rfl (fun w hs => areTypes_any _ m.frames[k].stack _ w (hfs.mono (lowOf hs))) ?_)
                refine Za rfl (Zg rfl) (Ze (Zc (Zf (WC_draw mixed (by kernel_rfl) ?_))))
                refine Zm rfl (Zh (ff rfl) rfl) (Zm rfl (Zj (t1 rfl) rfl (Zl 0 rfl rfl)) (Zm rfl (Xb rfl rfl) (Zm rfl (Zd rfl) (WO_part rfl rfl ?_ ?_))))
                ·intro h17
                 try (first | replace h17 := dTr h17 | replace h17 := Zk h17)
                 try have hA := ahead_pos (l := m.frames) (k := k) (by omega) (by omega)
                 try obtain ⟨b', o', r', hp', hb', ⟨lv', sv', hr', -, -, -⟩, hc'⟩ := hr4.out (k - 1) m.frames[k-1] (List.getElem?_eq_getElem (by omega))
                 try (cases hp'; subst hr')
                 try have hprev := hc' 0 _ rfl
                 refine Xn rfl rfl rfl (Xn rfl rfl rfl (Xn rfl rfl rfl (Xn rfl rfl rfl (Xn rfl rfl rfl (Xn rfl rfl rfl ?_)))))
                 refine Zm rfl (Zt rfl rfl) (Zm rfl (Zd rfl) (Xn rfl rfl rfl (Xn rfl rfl rfl (Xn rfl rfl rfl (WO_und rfl rfl rfl ?_)))))
                 refine WO_und rfl rfl rfl (WO_und rfl rfl rfl (WO_und rfl rfl rfl (WO_und rfl rfl rfl (WO_und rfl rfl rfl (WO_und rfl rfl rfl ?_)))))
                 refine WO_und rfl rfl rfl (WO_und rfl rfl rfl (WO_und rfl rfl rfl (Xn rfl rfl rfl (Zm rfl (Zt rfl rfl) (Zm rfl (Zd rfl) ?_)))))
                 refine Xn rfl rfl rfl (Xn rfl rfl rfl (Xn rfl rfl rfl (Xn rfl rfl rfl (Xn rfl rfl rfl (Xn rfl rfl rfl ?_)))))
                 refine Zm rfl (Zt rfl rfl) (Zm rfl (Zd rfl) (Xn rfl rfl rfl (Xn rfl rfl rfl (Xn rfl rfl rfl (Xn rfl rfl rfl ?_)))))
                 refine Xn rfl rfl rfl (Xn rfl rfl rfl (Zm rfl (Zt rfl rfl) (Zm rfl (Zd rfl) (Xn rfl rfl rfl (Xn rfl rfl rfl ?_)))))
                 refine Zm rfl (Zt rfl rfl) (Zm rfl (Zd rfl) (Xn rfl rfl rfl (Xn rfl rfl rfl (Zm rfl (Zt rfl rfl) (WO_nil ?_)))))
                 refine Zc (Xq rfl ?_)
                 have hF := met_frs (range_no hk (by rw [frAt_some hk]; first | (simp_all [isFrB]; done) | (simp_all [isFrB]; omega) | (simp_all [isFrB]; done)))
                 refine Zf (Zb (Za rfl (Zg rfl) (Ze (Zc (Zv ?_)))))
                 refine Zq (Zq (Zq (Zq (Zq (Yh rfl rfl ?_)))))
                 first | exact congrArg Value.bool hF.symm | exact congrArg Value.bool (met_yes hH hZ hC hD hE).symm
                ·intro h17
                 try (first | replace h17 := dFa h17 | replace h17 := Zi h17)
                 try have hA := ahead_zero (l := m.frames) (k := k) (by omega)
                 refine Yf rfl rfl rfl (Zh (ff rfl) rfl) (Yf rfl rfl rfl (Zj (t1 rfl) rfl (Zl 0 rfl rfl)) (Yf rfl rfl rfl (Zh (ff rfl) rfl) (Yf rfl rfl rfl (Zj (t1 rfl) rfl (Zl 1 rfl rfl)) (Yf rfl rfl rfl (Yg (ts rfl) rfl) (Yf rfl rfl rfl (Ex_geq rfl rfl) ?_)))))
                 refine Zm rfl (Zz rfl rfl) (Zm rfl (Zd rfl) (WO_part rfl rfl ?_ ?_))
                 ·intro h18
                  try (first | replace h18 := dTr h18 | replace h18 := Zk h18)
                  try have hA := ahead_pos (l := m.frames) (k := k) (by omega) (by omega)
                  try obtain ⟨b', o', r', hp', hb', ⟨lv', sv', hr', -, -, -⟩, hc'⟩ := hr4.out (k - 1) m.frames[k-1] (List.getElem?_eq_getElem (by omega))
                  try (cases hp'; subst hr')
                  try have hprev := hc' 0 _ rfl
                  refine Xn rfl rfl rfl (Xn rfl rfl rfl (Xn rfl rfl rfl (WO_und rfl rfl rfl (WO_und rfl rfl rfl (WO_und rfl rfl rfl ?_)))))
                  refine WO_und rfl rfl rfl (WO_und rfl rfl rfl (WO_und rfl rfl rfl (WO_und rfl rfl rfl (WO_und rfl rfl rfl (WO_und rfl rfl rfl ?_)))))
                  refine WO_und rfl rfl rfl (Xn rfl rfl rfl (Zm rfl (Zt rfl rfl) (Zm rfl (Zd rfl) (Xn rfl rfl rfl (Xn rfl rfl rfl ?_)))))
                  refine Xn rfl rfl rfl (Xn rfl rfl rfl (Xn rfl rfl rfl (Xn rfl rfl rfl (Zm rfl (Zt rfl rfl) (Zm rfl (Zd rfl) ?_)))))
                  refine Xn rfl rfl rfl (Xn rfl rfl rfl (Xn rfl rfl rfl (Xn rfl rfl rfl (Xn rfl rfl rfl (Xn rfl rfl rfl ?_)))))
                  refine Zm rfl (Zt rfl rfl) (Zm rfl (Zd rfl) (Xn rfl rfl rfl (Xn rfl rfl rfl (Zm rfl (Zt rfl rfl) (Zm rfl (Zd rfl) ?_)))))
                  refine Xn rfl rfl rfl (Xn rfl rfl rfl (Zm rfl (Zt rfl rfl) (WO_nil (Zc (Xq rfl ?_)))))
                  have hF := met_frs (range_no hk (by rw [frAt_some hk]; first | (simp_all [isFrB]; done) | (simp_all [isFrB]; omega) | (simp_all [isFrB]; done)))
                  refine Zf (Zb (Za rfl (Zg rfl) (Ze (Zc (Zv ?_)))))
                  refine Zq (Zq (Zq (Zq (Zq (Yh rfl rfl ?_)))))
                  first | exact congrArg Value.bool hF.symm | exact congrArg Value.bool (met_yes hH hZ hC hD hE).symm
                 ·intro h18
                  try (first | replace h18 := dFa h18 | replace h18 := Zi h18)
                  try have hA := ahead_zero (l := m.frames) (k := k) (by omega)
                  refine Yf rfl rfl rfl (Zd rfl) (Yf rfl rfl rfl (Ex_gtr rfl rfl) (Yf rfl rfl rfl (Zd rfl) (WO_part rfl rfl ?_ ?_)))
                  ·intro h19
                   try (first | replace h19 := dTr h19 | replace h19 := Zk h19)
                   try have hA := ahead_pos (l := m.frames) (k := k) (by omega) (by omega)
                   try obtain ⟨b', o', r', hp', hb', ⟨lv', sv', hr', -, -, -⟩, hc'⟩ := hr4.out (k - 1) m.frames[k-1] (List.getElem?_eq_getElem (by omega))
                   try (cases hp'; subst hr')
                   try have hprev := hc' 0 _ rfl
                   refine Yf rfl rfl rfl (Zh (ff rfl) rfl) (Yf rfl rfl rfl (Zj (t1 rfl) rfl (Zl 0 rfl rfl)) (Yf rfl rfl rfl (Zh (ff rfl) rfl) (Yf rfl rfl rfl (Zj (t1 rfl) rfl (Zl 1 rfl rfl)) (Yf rfl rfl rfl (Zd rfl) ?_))))
                   (first | (refine Yf rfl rfl rfl (Ex_subB rfl rfl ?_) ?_; omega) | refine Yf rfl rfl rfl (Ex_sub rfl rfl) ?_)
                   refine WO_same (s := 201) (v' := .int .i64 ((k - 1 : Nat) : Int)) rfl (by congr 1; omega) ?_
                   refine Yf rfl rfl rfl (Xk (ts rfl) rfl rfl ?_) ?_
                   ·omega
                   refine Yf rfl rfl rfl (Zh (ff rfl) rfl) (Yf rfl rfl rfl (Zj (t1 rfl) rfl (Zn hprev hb)) (Yf rfl rfl rfl (Ex_leq rfl rfl) (Yf rfl rfl rfl (Zt rfl rfl) (Zm rfl (Zz rfl rfl) (Zm rfl (Zd rfl) ?_)))))
                   refine WO_part rfl rfl ?_ ?_
                   ·intro h20
                    try (first | replace h20 := dTr h20 | replace h20 := Zk h20)
                    try have hA := ahead_pos (l := m.frames) (k := k) (by omega) (by omega)
                    try obtain ⟨b', o', r', hp', hb', ⟨lv', sv', hr', -, -, -⟩, hc'⟩ := hr4.out (k - 1) m.frames[k-1] (List.getElem?_eq_getElem (by omega))
                    try (cases hp'; subst hr')
                    try have hprev := hc' 0 _ rfl
                    refine Xn rfl rfl rfl (Xn rfl rfl rfl (Xn rfl rfl rfl (Xn rfl rfl rfl (Xn rfl rfl rfl (Xn rfl rfl rfl ?_)))))
                    refine Zm rfl (Zt rfl rfl) (Zm rfl (Zd rfl) (Xn rfl rfl rfl (Xn rfl rfl rfl (Xn rfl rfl rfl (Xn rfl rfl rfl ?_)))))
                    refine Xn rfl rfl rfl (Xn rfl rfl rfl (Zm rfl (Zt rfl rfl) (Zm rfl (Zd rfl) (Xn rfl rfl rfl (Xn rfl rfl rfl ?_)))))
                    refine Zm rfl (Zt rfl rfl) (Zm rfl (Zd rfl) (Xn rfl rfl rfl (Xn rfl rfl rfl (Zm rfl (Zt rfl rfl) (WO_nil ?_)))))
                    refine Zc (Xq rfl ?_)
                    have hF := met_frs (range_no hk (by rw [frAt_some hk]; first | (simp_all [isFrB]; done) | (simp_all [isFrB]; omega) | (simp_all [isFrB]; done)))
                    refine Zf (Zb (Za rfl (Zg rfl) (Ze (Zc (Zv ?_)))))
                    refine Zq (Zq (Zq (Zq (Zq (Yh rfl rfl ?_)))))
                    first | exact congrArg Value.bool hF.symm | exact congrArg Value.bool (met_yes hH hZ hC hD hE).symm
                   ·intro h20
                    try (first | replace h20 := dFa h20 | replace h20 := Zi h20)
                    try have hA := ahead_zero (l := m.frames) (k := k) (by omega)
                    refine Yf rfl rfl rfl (Zh (ff rfl) rfl) (Yf rfl rfl rfl (Zj (t1 rfl) rfl (Zl 0 rfl rfl)) (Yf rfl rfl rfl (Yg (ts rfl) rfl) (Yf rfl rfl rfl (Zh (ff rfl) rfl) (Yf rfl rfl rfl (Zj (t1 rfl) rfl (Zl 1 rfl rfl)) (Yf rfl rfl rfl (Ex_neq rfl rfl) ?_)))))
                    refine Zm rfl (Zz rfl rfl) (Zm rfl (Zd rfl) (WO_part rfl rfl ?_ ?_))
                    ·intro h21
                     try (first | replace h21 := dTr h21 | replace h21 := Zk h21)
                     try have hA := ahead_pos (l := m.frames) (k := k) (by omega) (by omega)
                     try obtain ⟨b', o', r', hp', hb', ⟨lv', sv', hr', -, -, -⟩, hc'⟩ := hr4.out (k - 1) m.frames[k-1] (List.getElem?_eq_getElem (by omega))
                     try (cases hp'; subst hr')
                     try have hprev := hc' 0 _ rfl
                     refine Xn rfl rfl rfl (Xn rfl rfl rfl (Xn rfl rfl rfl (Xn rfl rfl rfl (Xn rfl rfl rfl (Xn rfl rfl rfl ?_)))))
                     refine Zm rfl (Zt rfl rfl) (Zm rfl (Zd rfl) (Xn rfl rfl rfl (Xn rfl rfl rfl (Zm rfl (Zt rfl rfl) (Zm rfl (Zd rfl) ?_)))))
                     refine Xn rfl rfl rfl (Xn rfl rfl rfl (Zm rfl (Zt rfl rfl) (WO_nil (Zc (Xq rfl ?_)))))
                     have hF := met_frs (range_no hk (by rw [frAt_some hk]; first | (simp_all [isFrB]; done) | (simp_all [isFrB]; omega) | (simp_all [isFrB]; done)))
                     refine Zf (Zb (Za rfl (Zg rfl) (Ze (Zc (Zv ?_)))))
                     refine Zq (Zq (Zq (Zq (Zq (Yh rfl rfl ?_)))))
                     first | exact congrArg Value.bool hF.symm | exact congrArg Value.bool (met_yes hH hZ hC hD hE).symm
                    ·intro h21
                     try (first | replace h21 := dFa h21 | replace h21 := Zi h21)
                     try have hA := ahead_zero (l := m.frames) (k := k) (by omega)
                     refine Yf rfl rfl rfl (Zh (ff rfl) rfl) (Yf rfl rfl rfl (Zj (t1 rfl) rfl (Zl 0 rfl rfl)) (Yf rfl rfl rfl (Yg (ts rfl) rfl) (Yf rfl rfl rfl (Zh (ff rfl) rfl) (Yf rfl rfl rfl (Zj (t1 rfl) rfl (Zl 1 rfl rfl)) (Yf rfl rfl rfl (Ex_gtr rfl rfl) ?_)))))
                     refine Zm rfl (Zz rfl rfl) (Zm rfl (Zd rfl) (WO_part rfl rfl ?_ ?_))
                     ·intro h22
                      try (first | replace h22 := dTr h22 | replace h22 := Zk h22)
                      try have hA := ahead_pos (l := m.frames) (k := k) (by omega) (by omega)
                      try obtain ⟨b', o', r', hp', hb', ⟨lv', sv', hr', -, -, -⟩, hc'⟩ := hr4.out (k - 1) m.frames[k-1] (List.getElem?_eq_getElem (by omega))
                      try (cases hp'; subst hr')
                      try have hprev := hc' 0 _ rfl
                      refine Xn rfl rfl rfl (Xn rfl rfl rfl (Zm rfl (Zt rfl rfl) (Zm rfl (Zd rfl) (Xn rfl rfl rfl (Xn rfl rfl rfl ?_)))))
                      refine Zm rfl (Zt rfl rfl) (WO_nil (Zc (Xq rfl ?_)))
                      have hF := met_frs (range_no hk (by rw [frAt_some hk]; first | (simp_all [isFrB]; done) | (simp_all [isFrB]; omega) | (simp_all [isFrB]; done)))
                      refine Zf (Zb (Za rfl (Zg rfl) (Ze (Zc (Zv ?_)))))
                      refine Zq (Zq (Zq (Zq (Zq (Yh rfl rfl ?_)))))
                      first | exact congrArg Value.bool hF.symm | exact congrArg Value.bool (met_yes hH hZ hC hD hE).symm
                     ·intro h22
                      try (first | replace h22 := dFa h22 | replace h22 := Zi h22)
                      try have hA := ahead_zero (l := m.frames) (k := k) (by omega)
                      refine Yf rfl rfl rfl (Zd rfl) (Yf rfl rfl rfl (Ex_not rfl) (Zm rfl (Zz rfl rfl) (Zm rfl (Zd rfl) (WO_part rfl rfl ?_ ?_))))
                      ·intro h23
                       try (first | replace h23 := dTr h23 | replace h23 := Zk h23)
                       try have hA := ahead_pos (l := m.frames) (k := k) (by omega) (by omega)
                       try obtain ⟨b', o', r', hp', hb', ⟨lv', sv', hr', -, -, -⟩, hc'⟩ := hr4.out (k - 1) m.frames[k-1] (List.getElem?_eq_getElem (by omega))
                       try (cases hp'; subst hr')
                       try have hprev := hc' 0 _ rfl
                       refine Xn rfl rfl rfl (Xn rfl rfl rfl (Zm rfl (Zt rfl rfl) (WO_nil (Zc (Xq rfl ?_)))))
                       have hF := met_frs (range_no hk (by rw [frAt_some hk]; first | (simp_all [isFrB]; done) | (simp_all [isFrB]; omega) | (simp_all [isFrB]; done)))
                       refine Zf (Zb (Za rfl (Zg rfl) (Ze (Zc (Zv ?_)))))
                       refine Zq (Zq (Zq (Zq (Zq (Yh rfl rfl ?_)))))
                       first | exact congrArg Value.bool hF.symm | exact congrArg Value.bool (met_yes hH hZ hC hD hE).symm
                      ·intro h23
                       try (first | replace h23 := dFa h23 | replace h23 := Zi h23)
                       try have hA := ahead_zero (l := m.frames) (k := k) (by omega)
                       refine Yf rfl rfl rfl (Zd rfl) (Yf rfl rfl rfl (Ex_not rfl) (Zm rfl (Zz rfl rfl) (WO_nil (Zc (Yi rfl ?_ ?_)))))
                       ·intro c9
                        try (first | replace c9 := dTr c9 | replace c9 := Zk c9)
                        have hF := met_frs (range_no hk (by rw [frAt_some hk]; first | (simp_all [isFrB]; done) | (simp_all [isFrB]; omega) | (simp_all [isFrB]; done)))
                        refine Zf (Zb (Za rfl (Zg rfl) (Ze (Zc (Zv ?_)))))
                        refine Zq (Zq (Zq (Zq (Zq (Yh rfl rfl ?_)))))
                        first | exact congrArg Value.bool hF.symm | exact congrArg Value.bool (met_yes hH hZ hC hD hE).symm
                       ·intro c9
                        try (first | replace c9 := dFa c9 | replace c9 := Zi c9)
                        refine Zw (Zx (Zc (Zb (Za rfl (Zd rfl) ?_))))
                        (first | (refine Za rfl (Xa rfl rfl ?_) ?_; omega) | (refine Za rfl (Yp rfl rfl ?_) ?_; omega) | refine Za rfl (Yz rfl rfl) ?_)
                        refine Za rfl (Zg rfl) (Ze ?_)
                        refine Yn (k + 1) ?_ (⟨hk, range_snoc hI.2 (by rw [frAt_some hk]; first | (simp_all [isFrB]; done) | (simp_all [isFrB]; omega) | (simp_all [isFrB]; done))⟩) 1 rfl (rfl) ⟨rfl, rfl, trivial⟩
                        omega
                  ·intro h19
                   try (first | replace h19 := dFa h19 | replace h19 := Zi h19)
                   try have hA := ahead_zero (l := m.frames) (k := k) (by omega)
                   refine Xn rfl rfl rfl (Xn rfl rfl rfl (Xn rfl rfl rfl (Xn rfl rfl rfl (Xn rfl rfl rfl (Xn rfl rfl rfl ?_)))))
                   refine Xn rfl rfl rfl (Xn rfl rfl rfl (Xn rfl rfl rfl (Xn rfl rfl rfl (Yf rfl rfl rfl (Zz rfl rfl) (Zm rfl (Zz rfl rfl) ?_)))))
                   refine Zm rfl (Zd rfl) (Yf rfl rfl rfl (Zh (ff rfl) rfl) (Yf rfl rfl rfl (Zj (t1 rfl) rfl (Zl 0 rfl rfl)) (Yf rfl rfl rfl (Yg (ts rfl) rfl) (Yf rfl rfl rfl (Zh (ff rfl) rfl) (Yf rfl rfl rfl (Zj (t1 rfl) rfl (Zl 1 rfl rfl)) ?_)))))
                   refine Yf rfl rfl rfl (Ex_neq rfl rfl) (Zm rfl (Zz rfl rfl) (Zm rfl (Zd rfl) (WO_part rfl rfl ?_ ?_)))
                   ·intro h24
                    try (first | replace h24 := dTr h24 | replace h24 := Zk h24)
                    try have hA := ahead_pos (l := m.frames) (k := k) (by omega) (by omega)
                    try obtain ⟨b', o', r', hp', hb', ⟨lv', sv', hr', -, -, -⟩, hc'⟩ := hr4.out (k - 1) m.frames[k-1] (List.getElem?_eq_getElem (by omega))
                    try (cases hp'; subst hr')
                    try have hprev := hc' 0 _ rfl
                    refine Xn rfl rfl rfl (Xn rfl rfl rfl (Xn rfl rfl rfl (Xn rfl rfl rfl (Xn rfl rfl rfl (Xn rfl rfl rfl ?_)))))
                    refine Zm rfl (Zt rfl rfl) (Zm rfl (Zd rfl) (Xn rfl rfl rfl (Xn rfl rfl rfl (Zm rfl (Zt rfl rfl) (Zm rfl (Zd rfl) ?_)))))
                    refine Xn rfl rfl rfl (Xn rfl rfl rfl (Zm rfl (Zt rfl rfl) (WO_nil (Zc (Xq rfl ?_)))))
                    have hF := met_frs (range_no hk (by rw [frAt_some hk]; first | (simp_all [isFrB]; done) | (simp_all [isFrB]; omega) | (simp_all [isFrB]; done)))
                    refine Zf (Zb (Za rfl (Zg rfl) (Ze (Zc (Zv ?_)))))
                    refine Zq (Zq (Zq (Zq (Zq (Yh rfl rfl ?_)))))
                    first | exact congrArg Value.bool hF.symm | exact congrArg Value.bool (met_yes hH hZ hC hD hE).symm
                   ·intro h24
                    try (first | replace h24 := dFa h24 | replace h24 := Zi h24)
                    try have hA := ahead_zero (l := m.frames) (k := k) (by omega)
                    refine Yf rfl rfl rfl (Zh (ff rfl) rfl) (Yf rfl rfl rfl (Zj (t1 rfl) rfl (Zl 0 rfl rfl)) (Yf rfl rfl rfl (Yg (ts rfl) rfl) (Yf rfl rfl rfl (Zh (ff rfl) rfl) (Yf rfl rfl rfl (Zj (t1 rfl) rfl (Zl 1 rfl rfl)) (Yf rfl rfl rfl (Ex_gtr rfl rfl) ?_)))))
                    refine Zm rfl (Zz rfl rfl) (Zm rfl (Zd rfl) (WO_part rfl rfl ?_ ?_))
                    ·intro h25
                     try (first | replace h25 := dTr h25 | replace h25 := Zk h25)
                     try have hA := ahead_pos (l := m.frames) (k := k) (by omega) (by omega)
                     try obtain ⟨b', o', r', hp', hb', ⟨lv', sv', hr', -, -, -⟩, hc'⟩ := hr4.out (k - 1) m.frames[k-1] (List.getElem?_eq_getElem (by omega))
                     try (cases hp'; subst hr')
                     try have hprev := hc' 0 _ rfl
                     refine Xn rfl rfl rfl (Xn rfl rfl rfl (Zm rfl (Zt rfl rfl) (Zm rfl (Zd rfl) (Xn rfl rfl rfl (Xn rfl rfl rfl ?_)))))
                     refine Zm rfl (Zt rfl rfl) (WO_nil (Zc (Xq rfl ?_)))
                     have hF := met_frs (range_no hk (by rw [frAt_some hk]; first | (simp_all [isFrB]; done) | (simp_all [isFrB]; omega) | (simp_all [isFrB]; done)))
                     refine Zf (Zb (Za rfl (Zg rfl) (Ze (Zc (Zv ?_)))))
                     refine Zq (Zq (Zq (Zq (Zq (Yh rfl rfl ?_)))))
                     first | exact congrArg Value.bool hF.symm | exact congrArg Value.bool (met_yes hH hZ hC hD hE).symm
                    ·intro h25
                     try (first | replace h25 := dFa h25 | replace h25 := Zi h25)
                     try have hA := ahead_zero (l := m.frames) (k := k) (by omega)
                     refine Yf rfl rfl rfl (Zd rfl) (Yf rfl rfl rfl (Ex_not rfl) (Zm rfl (Zz rfl rfl) (Zm rfl (Zd rfl) (WO_part rfl rfl ?_ ?_))))
                     ·intro h26
                      try (first | replace h26 := dTr h26 | replace h26 := Zk h26)
                      try have hA := ahead_pos (l := m.frames) (k := k) (by omega) (by omega)
                      try obtain ⟨b', o', r', hp', hb', ⟨lv', sv', hr', -, -, -⟩, hc'⟩ := hr4.out (k - 1) m.frames[k-1] (List.getElem?_eq_getElem (by omega))
                      try (cases hp'; subst hr')
                      try have hprev := hc' 0 _ rfl
                      refine Xn rfl rfl rfl (Xn rfl rfl rfl (Zm rfl (Zt rfl rfl) (WO_nil (Zc (Xq rfl ?_)))))
                      have hF := met_frs (range_no hk (by rw [frAt_some hk]; first | (simp_all [isFrB]; done) | (simp_all [isFrB]; omega) | (simp_all [isFrB]; done)))
                      refine Zf (Zb (Za rfl (Zg rfl) (Ze (Zc (Zv ?_)))))
                      refine Zq (Zq (Zq (Zq (Zq (Yh rfl rfl ?_)))))
                      first | exact congrArg Value.bool hF.symm | exact congrArg Value.bool (met_yes hH hZ hC hD hE).symm
                     ·intro h26
                      try (first | replace h26 := dFa h26 | replace h26 := Zi h26)
                      try have hA := ahead_zero (l := m.frames) (k := k) (by omega)
                      refine Yf rfl rfl rfl (Zd rfl) (Yf rfl rfl rfl (Ex_not rfl) (Zm rfl (Zz rfl rfl) (WO_nil (Zc (Yi rfl ?_ ?_)))))
                      ·intro c9
                       try (first | replace c9 := dTr c9 | replace c9 := Zk c9)
                       have hF := met_frs (range_no hk (by rw [frAt_some hk]; first | (simp_all [isFrB]; done) | (simp_all [isFrB]; omega) | (simp_all [isFrB]; done)))
                       refine Zf (Zb (Za rfl (Zg rfl) (Ze (Zc (Zv ?_)))))
                       refine Zq (Zq (Zq (Zq (Zq (Yh rfl rfl ?_)))))
                       first | exact congrArg Value.bool hF.symm | exact congrArg Value.bool (met_yes hH hZ hC hD hE).symm
                      ·intro c9
                       try (first | replace c9 := dFa c9 | replace c9 := Zi c9)
                       refine Zw (Zx (Zc (Zb (Za rfl (Zd rfl) ?_))))
                       (first | (refine Za rfl (Xa rfl rfl ?_) ?_; omega) | (refine Za rfl (Yp rfl rfl ?_) ?_; omega) | refine Za rfl (Yz rfl rfl) ?_)
                       refine Za rfl (Zg rfl) (Ze ?_)
                       refine Yn (k + 1) ?_ (⟨hk, range_snoc hI.2 (by rw [frAt_some hk]; first | (simp_all [isFrB]; done) | (simp_all [isFrB]; omega) | (simp_all [isFrB]; done))⟩) 1 rfl (rfl) ⟨rfl, rfl, trivial⟩
                       omega
               ·intro c8
                try (first | replace c8 := dFa c8 | replace c8 := Zi c8)
                have hE := range_end hI.1 (by omega) hI.2
                refine Yx (Yw (Yo (Yv (Zc (Zf ?_)))))
                refine Zb (Za rfl (Zg rfl) (Ze (Zc (Zv (Yh rfl rfl ?_)))))
                first | exact congrArg Value.bool hF.symm | exact congrArg Value.bool (met_yes hH hZ hC hD hE).symm
end Go.Proofs.YtpofmnfkdkmieaaGreat
