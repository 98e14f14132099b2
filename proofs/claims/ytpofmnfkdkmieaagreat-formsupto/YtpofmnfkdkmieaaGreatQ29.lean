/- What is proved here: the program's own asking whether something is a method, a class (package shape). -/
import Derived.Test.YtpofmnfkdkmieaaGreatQ26
import Derived.Test.YtpofmnfkdkmieaaGreatQ24
set_option linter.unusedVariables false
set_option linter.unusedSimpArgs false
namespace Go.Proofs.YtpofmnfkdkmieaaGreat
open Go.RowKit At E
theorem all_val (l : List Ty) : l.all (mayB valB) = areTypesB l false := by unfold areTypesB; congr 1; funext t; exact mayB_val t
theorem isMethodB_parts (m : Me) : isMethodB m = (isNameB m.name && (decide ((m.params.length : Int) ≤ 6) && areTypesB m.params false) && isTypeB m.result true false && (decide (leastB m ≤ m.locals) && decide (m.locals ≤ 20)) && (decide (0 ≤ m.stack) && decide (m.stack ≤ 20)) && codeB m && hdsB m && frsB m) := by
 have e : decide (1 ≤ (m.code.length : Int)) = decide (0 < (m.code.length : Int)) := by rw [Bool.eq_iff_iff]; simp only [decide_eq_true_eq]; omega
 unfold isMethodB isHeadB codeB hdsB frsB
 rw [e]
 generalize isNameB m.name = b1
 generalize decide ((m.params.length : Int) ≤ 6) = b2
 generalize areTypesB m.params false = b3
 generalize isTypeB m.result true false = b4
 generalize decide (leastB m ≤ m.locals) = b5
 generalize decide (m.locals ≤ 20) = b6
 generalize decide (0 ≤ m.stack) = b7
 generalize decide (m.stack ≤ 20) = b8
 generalize decide (0 < (m.code.length : Int)) = b9
 generalize decide ((m.code.length : Int) ≤ 200) = b10
 generalize decide ((m.handlers.length : Int) ≤ 10) = b11
 generalize decide ((m.frames.length : Int) ≤ 60) = b12
 generalize m.code.all (fun i => isInstrB i m.locals m.code.length) = b13
 generalize m.handlers.all (fun h => isHdB h m.code.length) = b14
 generalize (List.range m.frames.length).all (frAt m.frames m.locals m.stack m.code.length) = b15
 cases b1 <;> cases b2 <;> cases b3 <;> cases b4 <;> cases b5 <;> cases b6 <;> cases b7 <;> cases b8 <;> try rfl
 all_goals (cases b9 <;> cases b10 <;> cases b11 <;> cases b12 <;> cases b13 <;> cases b14 <;> cases b15 <;> rfl)
set_option maxHeartbeats 1000000 in
theorem mustBeMethod_any (m : Me) (pv hv fv : Value) (cv : Value) (w : World) (hm : MeParts w m pv cv hv fv) : PureP Tryz.prog 247 #[.agg (meV m pv cv hv fv).toArray] w (isMethodB m) := by
 rw [isMethodB_parts]
 have hm0 := hm
 obtain ⟨p1, e1, rfl, hl1, -⟩ := hm.ps.is
 obtain ⟨p2, e2, rfl, hl2, -⟩ := hm.cs.is
 replace hm0 : Hid _ := hm0
 have hok := hm.ok
 clear hm
 refine opens (args := [.agg (meV m (.slice p1 m.params.length e1) (.slice p2 m.code.length e2) hv fv).toArray]) Tryz.func247 rfl Tryz.ntmps247 ?_
 refine Zf (Zb (WL_box rfl rfl ?_))
 intro b0 hb0
 refine Ze (Zc (Zf (Zb (Za rfl (Zh (ff rfl) rfl) (Za rfl (Zj (t1 rfl) rfl (Zl 0 rfl rfl)) ?_)))))
 refine Yl fn139 rfl rfl (fun w _ => mustBeName_any _ w hok.1) ?_ ?_
 rotate_left
 ·intro o1
  try (first | replace o1 := dFa o1 | replace o1 := Zi o1)
  refine Ye (Yu ?_)
  first | (simp_all; done) | (simp_all; omega)
 intro o1
 try (first | replace o1 := dTr o1 | replace o1 := Zk o1)
 refine Ze (Zc (Zf (Zb (Za rfl (Zh (ff rfl) rfl) (Za rfl (Zj (t1 rfl) rfl (Zl 0 rfl rfl)) ?_)))))
 refine Yl fn318 rfl rfl (fun w hs => mustBeParams_any _ m.params w (TysAt.mono hm0.out.ps (lowOf hs))) ?_ ?_
 rotate_left
 ·intro o2
  try (first | replace o2 := dFa o2 | replace o2 := Zi o2)
  refine Ye (Yu ?_)
  first | (simp_all; done) | (simp_all; omega)
 intro o2
 try (first | replace o2 := dTr o2 | replace o2 := Zk o2)
 refine Ze (Zc (Zf (Zb (Za rfl (Zh (ff rfl) rfl) (Za rfl (Yb (tn rfl) rfl 0 rfl rfl) ?_)))))
 refine Yl fn245 rfl rfl (fun w _ => (mustBeType_any 319 resB fn319 isOfResult_any m.result w hok.2.1).of_eq (mayB_res _)) ?_ ?_
 rotate_left
 ·intro o3
  try (first | replace o3 := dFa o3 | replace o3 := Zi o3)
  refine Ye (Yu ?_)
  first | (simp_all; done) | (simp_all; omega)
 intro o3
 try (first | replace o3 := dTr o3 | replace o3 := Zk o3)
 refine Ze (Zc (Zf (WC_any mixed (Xf (rs := [0, 2]) (by kernel_rfl) (by simp) ?_))))
 simp only [List.forall_mem_cons, List.not_mem_nil, false_imp_iff, implies_true, and_true]
 refine ⟨?_, ?_⟩
 ·refine ⟨_, rfl, ?_⟩
  refine Za rfl (Yb (tn rfl) rfl 0 rfl rfl) (Ze (Xr (Xf (rs := [1, 2]) (by kernel_rfl) (by simp) ?_)))
  simp only [List.forall_mem_cons, List.not_mem_nil, false_imp_iff, implies_true, and_true]
  refine ⟨?_, ?_⟩
  ·refine ⟨_, rfl, ?_⟩
   refine Xi fn320 rfl rfl (fun w _ => neededLocals_any m _ _ _ _ _ w hl1.1) ?_
   refine Ze (Xr (Xf (rs := [2]) (by kernel_rfl) (by simp) ?_))
   simp only [List.forall_mem_cons, List.not_mem_nil, false_imp_iff, implies_true, and_true]
   ·refine ⟨_, rfl, ?_⟩
    refine Za rfl (Zh (ff rfl) rfl) (Ze (Xr (Xf (rs := [3]) (by kernel_rfl) (by simp) ?_)))
    simp only [List.forall_mem_cons, List.not_mem_nil, false_imp_iff, implies_true, and_true]
    ·refine ⟨_, rfl, ?_⟩
     refine Za rfl (Zj (t1 rfl) rfl (Zl 0 rfl rfl)) (Ze (Xr (Xf (rs := [4]) (by kernel_rfl) (by simp) ?_)))
     simp only [List.forall_mem_cons, List.not_mem_nil, false_imp_iff, implies_true, and_true]
     ·refine ⟨_, rfl, ?_⟩
      refine Za rfl (Ex_leq rfl rfl) (Ze (Xr (Xf (rs := [5]) (by kernel_rfl) (by simp) ?_)))
      simp only [List.forall_mem_cons, List.not_mem_nil, false_imp_iff, implies_true, and_true]
      ·refine ⟨_, rfl, ?_⟩
       refine Za rfl (Zd rfl) (Ze (Xr (Xf (rs := [6]) (by kernel_rfl) (by simp) ?_)))
       simp only [List.forall_mem_cons, List.not_mem_nil, false_imp_iff, implies_true, and_true]
       ·refine ⟨_, rfl, ?_⟩
        refine Yr rfl rfl rfl ?_ ?_
        ·intro h4
         try (first | replace h4 := dTr h4 | replace h4 := Zk h4)
         refine Zo rfl rfl rfl (Zh (ff rfl) rfl) (Ze (Xr (Xf (rs := [7]) (by kernel_rfl) (by simp) ?_)))
         simp only [List.forall_mem_cons, List.not_mem_nil, false_imp_iff, implies_true, and_true]
         ·refine ⟨_, rfl, ?_⟩
          refine Zo rfl rfl rfl (Zj (t1 rfl) rfl (Zl 0 rfl rfl)) (Ze (Xr (Xf (rs := [8]) (by kernel_rfl) (by simp) ?_)))
          simp only [List.forall_mem_cons, List.not_mem_nil, false_imp_iff, implies_true, and_true]
          ·refine ⟨_, rfl, ?_⟩
           refine Zo rfl rfl rfl (Ex_leq rfl rfl) (Ze (Xr (Xf (rs := [9]) (by kernel_rfl) (by simp) ?_)))
           simp only [List.forall_mem_cons, List.not_mem_nil, false_imp_iff, implies_true, and_true]
           ·refine ⟨_, rfl, ?_⟩
            refine Za rfl (Zt rfl rfl) (Ze (Xr (Xf (rs := [10]) (by kernel_rfl) (by simp) ?_)))
            simp only [List.forall_mem_cons, List.not_mem_nil, false_imp_iff, implies_true, and_true]
            ·refine ⟨_, rfl, ?_⟩
             refine Yl fn111 rfl rfl (fun w _ => Xe _ w) ?_ ?_
             rotate_left
             ·intro o5
              try (first | replace o5 := dFa o5 | replace o5 := Zi o5)
              refine Ye (Ye (Yu ?_))
              first | (simp_all; done) | (simp_all; omega)
             intro o5
             try (first | replace o5 := dTr o5 | replace o5 := Zk o5)
             refine Ze (Xr (WA_done (by kernel_rfl) ?_))
             refine Zc (Zf (Zb (Za rfl (Zh (ff rfl) rfl) (Za rfl (Zj (t1 rfl) rfl (Zl 0 rfl rfl)) (Za rfl (Ex_leq rfl rfl) ?_)))))
             refine Za rfl (Zd rfl) (Yr rfl rfl rfl ?_ ?_)
             ·intro h6
              try (first | replace h6 := dTr h6 | replace h6 := Zk h6)
              refine Zo rfl rfl rfl (Zh (ff rfl) rfl) (Zo rfl rfl rfl (Zj (t1 rfl) rfl (Zl 0 rfl rfl)) (Zo rfl rfl rfl (Ex_leq rfl rfl) (Za rfl (Zt rfl rfl) (Yl fn111 rfl rfl (fun w _ => Xe _ w) ?_ ?_))))
              rotate_left
              ·intro o7
               try (first | replace o7 := dFa o7 | replace o7 := Zi o7)
               refine Ye (Yu ?_)
               first | (simp_all; done) | (simp_all; omega)
              intro o7
              try (first | replace o7 := dTr o7 | replace o7 := Zk o7)
              refine Ze (Zc (Zf (Zb (Za rfl (Yb (tn rfl) rfl 0 rfl rfl) (Yl fn321 rfl rfl (fun w hs => mustBeCode_any m _ _ _ _ w (hm0.out.mono (lowOf hs))) ?_ ?_)))))
              rotate_left
              ·intro o8
               try (first | replace o8 := dFa o8 | replace o8 := Zi o8)
               refine Ye (Yu ?_)
               first | (simp_all; done) | (simp_all; omega)
              intro o8
              try (first | replace o8 := dTr o8 | replace o8 := Zk o8)
              refine Ze (Zc (Zf (Zb (Za rfl (Yb (tn rfl) rfl 0 rfl rfl) (Yl fn322 rfl rfl (fun w hs => mustBeHandlers_any m _ _ _ _ w (hm0.out.mono (lowOf hs))) ?_ ?_)))))
              rotate_left
              ·intro o9
               try (first | replace o9 := dFa o9 | replace o9 := Zi o9)
               refine Ye (Yu ?_)
               first | (simp_all; done) | (simp_all; omega)
              intro o9
              try (first | replace o9 := dTr o9 | replace o9 := Zk o9)
              refine Ze (Zc (Zb (Za rfl (Yb (tn rfl) rfl 0 rfl rfl) (Yl fn323 rfl rfl (fun w hs => mustBeFrames_any m _ _ _ _ w (hm0.out.mono (lowOf hs))) ?_ ?_))))
              rotate_left
              ·intro o10
               try (first | replace o10 := dFa o10 | replace o10 := Zi o10)
               refine Yu ?_
               first | (simp_all; done) | (simp_all; omega)
              intro o10
              try (first | replace o10 := dTr o10 | replace o10 := Zk o10)
              refine Ze (PP_end rfl ?_)
              first | (simp_all; done) | (simp_all; omega)
             ·intro h6
              try (first | replace h6 := dFa h6 | replace h6 := Zi h6)
              refine Zp rfl rfl rfl (Zp rfl rfl rfl (Zp rfl rfl rfl (Za rfl (Zz rfl rfl) (Yl fn111 rfl rfl (fun w _ => Xe _ w) ?_ ?_))))
              ·intro o11; cases o11
              intro _
              refine Ye (Yu ?_)
              first | (simp_all; done) | (simp_all; omega)
        ·intro h4
         try (first | replace h4 := dFa h4 | replace h4 := Zi h4)
         refine Zp rfl rfl rfl (Ze (Xr (Xf (rs := [7]) (by kernel_rfl) (by simp) ?_)))
         simp only [List.forall_mem_cons, List.not_mem_nil, false_imp_iff, implies_true, and_true]
         ·refine ⟨_, rfl, ?_⟩
          refine Zp rfl rfl rfl (Ze (Xr (Xf (rs := [8]) (by kernel_rfl) (by simp) ?_)))
          simp only [List.forall_mem_cons, List.not_mem_nil, false_imp_iff, implies_true, and_true]
          ·refine ⟨_, rfl, ?_⟩
           refine Zp rfl rfl rfl (Ze (Xr (Xf (rs := [9]) (by kernel_rfl) (by simp) ?_)))
           simp only [List.forall_mem_cons, List.not_mem_nil, false_imp_iff, implies_true, and_true]
           ·refine ⟨_, rfl, ?_⟩
            refine Za rfl (Zz rfl rfl) (Ze (Xr (Xf (rs := [10]) (by kernel_rfl) (by simp) ?_)))
            simp only [List.forall_mem_cons, List.not_mem_nil, false_imp_iff, implies_true, and_true]
            ·refine ⟨_, rfl, ?_⟩
             refine Yl fn111 rfl rfl (fun w _ => Xe _ w) ?_ ?_
             ·intro o12; cases o12
             intro _
             refine Ye (Ye (Yu ?_))
             first | (simp_all; done) | (simp_all; omega)
  ·refine ⟨_, rfl, ?_⟩
   refine Za rfl (Zh (ff rfl) rfl) (Ze (Xr (Xf (rs := [1, 3]) (by kernel_rfl) (by simp) ?_)))
   simp only [List.forall_mem_cons, List.not_mem_nil, false_imp_iff, implies_true, and_true]
   refine ⟨?_, ?_⟩
   ·refine ⟨_, rfl, ?_⟩
    refine Xi fn320 rfl rfl (fun w _ => neededLocals_any m _ _ _ _ _ w hl1.1) ?_
    refine Ze (Xr (Xf (rs := [3]) (by kernel_rfl) (by simp) ?_))
    simp only [List.forall_mem_cons, List.not_mem_nil, false_imp_iff, implies_true, and_true]
    ·refine ⟨_, rfl, ?_⟩
     refine Za rfl (Zj (t1 rfl) rfl (Zl 0 rfl rfl)) (Ze (Xr (Xf (rs := [4]) (by kernel_rfl) (by simp) ?_)))
     simp only [List.forall_mem_cons, List.not_mem_nil, false_imp_iff, implies_true, and_true]
     ·refine ⟨_, rfl, ?_⟩
      refine Za rfl (Ex_leq rfl rfl) (Ze (Xr (Xf (rs := [5]) (by kernel_rfl) (by simp) ?_)))
      simp only [List.forall_mem_cons, List.not_mem_nil, false_imp_iff, implies_true, and_true]
      ·refine ⟨_, rfl, ?_⟩
       refine Za rfl (Zd rfl) (Ze (Xr (Xf (rs := [6]) (by kernel_rfl) (by simp) ?_)))
       simp only [List.forall_mem_cons, List.not_mem_nil, false_imp_iff, implies_true, and_true]
       ·refine ⟨_, rfl, ?_⟩
        refine Yr rfl rfl rfl ?_ ?_
        ·intro h13
         try (first | replace h13 := dTr h13 | replace h13 := Zk h13)
         refine Zo rfl rfl rfl (Zh (ff rfl) rfl) (Ze (Xr (Xf (rs := [7]) (by kernel_rfl) (by simp) ?_)))
         simp only [List.forall_mem_cons, List.not_mem_nil, false_imp_iff, implies_true, and_true]
         ·refine ⟨_, rfl, ?_⟩
          refine Zo rfl rfl rfl (Zj (t1 rfl) rfl (Zl 0 rfl rfl)) (Ze (Xr (Xf (rs := [8]) (by kernel_rfl) (by simp) ?_)))
          simp only [List.forall_mem_cons, List.not_mem_nil, false_imp_iff, implies_true, and_true]
          ·refine ⟨_, rfl, ?_⟩
           refine Zo rfl rfl rfl (Ex_leq rfl rfl) (Ze (Xr (Xf (rs := [9]) (by kernel_rfl) (by simp) ?_)))
           simp only [List.forall_mem_cons, List.not_mem_nil, false_imp_iff, implies_true, and_true]
           ·refine ⟨_, rfl, ?_⟩
            refine Za rfl (Zt rfl rfl) (Ze (Xr (Xf (rs := [10]) (by kernel_rfl) (by simp) ?_)))
            simp only [List.forall_mem_cons, List.not_mem_nil, false_imp_iff, implies_true, and_true]
            ·refine ⟨_, rfl, ?_⟩
             refine Yl fn111 rfl rfl (fun w _ => Xe _ w) ?_ ?_
             rotate_left
             ·intro o14
              try (first | replace o14 := dFa o14 | replace o14 := Zi o14)
              refine Ye (Ye (Yu ?_))
              first | (simp_all; done) | (simp_all; omega)
             intro o14
             try (first | replace o14 := dTr o14 | replace o14 := Zk o14)
             refine Ze (Xr (WA_done (by kernel_rfl) ?_))
             refine Zc (Zf (Zb (Za rfl (Zh (ff rfl) rfl) (Za rfl (Zj (t1 rfl) rfl (Zl 0 rfl rfl)) (Za rfl (Ex_leq rfl rfl) ?_)))))
             refine Za rfl (Zd rfl) (Yr rfl rfl rfl ?_ ?_)
             ·intro h15
              try (first | replace h15 := dTr h15 | replace h15 := Zk h15)
              refine Zo rfl rfl rfl (Zh (ff rfl) rfl) (Zo rfl rfl rfl (Zj (t1 rfl) rfl (Zl 0 rfl rfl)) (Zo rfl rfl rfl (Ex_leq rfl rfl) (Za rfl (Zt rfl rfl) (Yl fn111 rfl rfl (fun w _ => Xe _ w) ?_ ?_))))
              rotate_left
              ·intro o16
               try (first | replace o16 := dFa o16 | replace o16 := Zi o16)
               refine Ye (Yu ?_)
               first | (simp_all; done) | (simp_all; omega)
              intro o16
              try (first | replace o16 := dTr o16 | replace o16 := Zk o16)
              refine Ze (Zc (Zf (Zb (Za rfl (Yb (tn rfl) rfl 0 rfl rfl) (Yl fn321 rfl rfl (fun w hs => mustBeCode_any m _ _ _ _ w (hm0.out.mono (lowOf hs))) ?_ ?_)))))
              rotate_left
              ·intro o17
               try (first | replace o17 := dFa o17 | replace o17 := Zi o17)
               refine Ye (Yu ?_)
               first | (simp_all; done) | (simp_all; omega)
              intro o17
              try (first | replace o17 := dTr o17 | replace o17 := Zk o17)
              refine Ze (Zc (Zf (Zb (Za rfl (Yb (tn rfl) rfl 0 rfl rfl) (Yl fn322 rfl rfl (fun w hs => mustBeHandlers_any m _ _ _ _ w (hm0.out.mono (lowOf hs))) ?_ ?_)))))
              rotate_left
              ·intro o18
               try (first | replace o18 := dFa o18 | replace o18 := Zi o18)
               refine Ye (Yu ?_)
               first | (simp_all; done) | (simp_all; omega)
              intro o18
              try (first | replace o18 := dTr o18 | replace o18 := Zk o18)
              refine Ze (Zc (Zb (Za rfl (Yb (tn rfl) rfl 0 rfl rfl) (Yl fn323 rfl rfl (fun w hs => mustBeFrames_any m _ _ _ _ w (hm0.out.mono (lowOf hs))) ?_ ?_))))
              rotate_left
              ·intro o19
               try (first | replace o19 := dFa o19 | replace o19 := Zi o19)
               refine Yu ?_
               first | (simp_all; done) | (simp_all; omega)
              intro o19
              try (first | replace o19 := dTr o19 | replace o19 := Zk o19)
              refine Ze (PP_end rfl ?_)
              first | (simp_all; done) | (simp_all; omega)
             ·intro h15
              try (first | replace h15 := dFa h15 | replace h15 := Zi h15)
              refine Zp rfl rfl rfl (Zp rfl rfl rfl (Zp rfl rfl rfl (Za rfl (Zz rfl rfl) (Yl fn111 rfl rfl (fun w _ => Xe _ w) ?_ ?_))))
              ·intro o20; cases o20
              intro _
              refine Ye (Yu ?_)
              first | (simp_all; done) | (simp_all; omega)
        ·intro h13
         try (first | replace h13 := dFa h13 | replace h13 := Zi h13)
         refine Zp rfl rfl rfl (Ze (Xr (Xf (rs := [7]) (by kernel_rfl) (by simp) ?_)))
         simp only [List.forall_mem_cons, List.not_mem_nil, false_imp_iff, implies_true, and_true]
         ·refine ⟨_, rfl, ?_⟩
          refine Zp rfl rfl rfl (Ze (Xr (Xf (rs := [8]) (by kernel_rfl) (by simp) ?_)))
          simp only [List.forall_mem_cons, List.not_mem_nil, false_imp_iff, implies_true, and_true]
          ·refine ⟨_, rfl, ?_⟩
           refine Zp rfl rfl rfl (Ze (Xr (Xf (rs := [9]) (by kernel_rfl) (by simp) ?_)))
           simp only [List.forall_mem_cons, List.not_mem_nil, false_imp_iff, implies_true, and_true]
           ·refine ⟨_, rfl, ?_⟩
            refine Za rfl (Zz rfl rfl) (Ze (Xr (Xf (rs := [10]) (by kernel_rfl) (by simp) ?_)))
            simp only [List.forall_mem_cons, List.not_mem_nil, false_imp_iff, implies_true, and_true]
            ·refine ⟨_, rfl, ?_⟩
             refine Yl fn111 rfl rfl (fun w _ => Xe _ w) ?_ ?_
             ·intro o21; cases o21
             intro _
             refine Ye (Ye (Yu ?_))
             first | (simp_all; done) | (simp_all; omega)
   ·refine ⟨_, rfl, ?_⟩
    refine Za rfl (Zj (t1 rfl) rfl (Zl 0 rfl rfl)) (Ze (Xr (Xf (rs := [1]) (by kernel_rfl) (by simp) ?_)))
    simp only [List.forall_mem_cons, List.not_mem_nil, false_imp_iff, implies_true, and_true]
    ·refine ⟨_, rfl, ?_⟩
     refine Xi fn320 rfl rfl (fun w _ => neededLocals_any m _ _ _ _ _ w hl1.1) ?_
     refine Ze (Xr (Xf (rs := [4]) (by kernel_rfl) (by simp) ?_))
     simp only [List.forall_mem_cons, List.not_mem_nil, false_imp_iff, implies_true, and_true]
     ·refine ⟨_, rfl, ?_⟩
      refine Za rfl (Ex_leq rfl rfl) (Ze (Xr (Xf (rs := [5]) (by kernel_rfl) (by simp) ?_)))
      simp only [List.forall_mem_cons, List.not_mem_nil, false_imp_iff, implies_true, and_true]
      ·refine ⟨_, rfl, ?_⟩
       refine Za rfl (Zd rfl) (Ze (Xr (Xf (rs := [6]) (by kernel_rfl) (by simp) ?_)))
       simp only [List.forall_mem_cons, List.not_mem_nil, false_imp_iff, implies_true, and_true]
       ·refine ⟨_, rfl, ?_⟩
        refine Yr rfl rfl rfl ?_ ?_
        ·intro h22
         try (first | replace h22 := dTr h22 | replace h22 := Zk h22)
         refine Zo rfl rfl rfl (Zh (ff rfl) rfl) (Ze (Xr (Xf (rs := [7]) (by kernel_rfl) (by simp) ?_)))
         simp only [List.forall_mem_cons, List.not_mem_nil, false_imp_iff, implies_true, and_true]
         ·refine ⟨_, rfl, ?_⟩
          refine Zo rfl rfl rfl (Zj (t1 rfl) rfl (Zl 0 rfl rfl)) (Ze (Xr (Xf (rs := [8]) (by kernel_rfl) (by simp) ?_)))
          simp only [List.forall_mem_cons, List.not_mem_nil, false_imp_iff, implies_true, and_true]
          ·refine ⟨_, rfl, ?_⟩
           refine Zo rfl rfl rfl (Ex_leq rfl rfl) (Ze (Xr (Xf (rs := [9]) (by kernel_rfl) (by simp) ?_)))
           simp only [List.forall_mem_cons, List.not_mem_nil, false_imp_iff, implies_true, and_true]
           ·refine ⟨_, rfl, ?_⟩
            refine Za rfl (Zt rfl rfl) (Ze (Xr (Xf (rs := [10]) (by kernel_rfl) (by simp) ?_)))
            simp only [List.forall_mem_cons, List.not_mem_nil, false_imp_iff, implies_true, and_true]
            ·refine ⟨_, rfl, ?_⟩
             refine Yl fn111 rfl rfl (fun w _ => Xe _ w) ?_ ?_
             rotate_left
             ·intro o23
              try (first | replace o23 := dFa o23 | replace o23 := Zi o23)
              refine Ye (Ye (Yu ?_))
              first | (simp_all; done) | (simp_all; omega)
             intro o23
             try (first | replace o23 := dTr o23 | replace o23 := Zk o23)
             refine Ze (Xr (WA_done (by kernel_rfl) ?_))
             refine Zc (Zf (Zb (Za rfl (Zh (ff rfl) rfl) (Za rfl (Zj (t1 rfl) rfl (Zl 0 rfl rfl)) (Za rfl (Ex_leq rfl rfl) ?_)))))
             refine Za rfl (Zd rfl) (Yr rfl rfl rfl ?_ ?_)
             ·intro h24
              try (first | replace h24 := dTr h24 | replace h24 := Zk h24)
              refine Zo rfl rfl rfl (Zh (ff rfl) rfl) (Zo rfl rfl rfl (Zj (t1 rfl) rfl (Zl 0 rfl rfl)) (Zo rfl rfl rfl (Ex_leq rfl rfl) (Za rfl (Zt rfl rfl) (Yl fn111 rfl rfl (fun w _ => Xe _ w) ?_ ?_))))
              rotate_left
              ·intro o25
               try (first | replace o25 := dFa o25 | replace o25 := Zi o25)
               refine Ye (Yu ?_)
               first | (simp_all; done) | (simp_all; omega)
              intro o25
              try (first | replace o25 := dTr o25 | replace o25 := Zk o25)
              refine Ze (Zc (Zf (Zb (Za rfl (Yb (tn rfl) rfl 0 rfl rfl) (Yl fn321 rfl rfl (fun w hs => mustBeCode_any m _ _ _ _ w (hm0.out.mono (lowOf hs))) ?_ ?_)))))
              rotate_left
              ·intro o26
               try (first | replace o26 := dFa o26 | replace o26 := Zi o26)
               refine Ye (Yu ?_)
               first | (simp_all; done) | (simp_all; omega)
              intro o26
              try (first | replace o26 := dTr o26 | replace o26 := Zk o26)
              refine Ze (Zc (Zf (Zb (Za rfl (Yb (tn rfl) rfl 0 rfl rfl) (Yl fn322 rfl rfl (fun w hs => mustBeHandlers_any m _ _ _ _ w (hm0.out.mono (lowOf hs))) ?_ ?_)))))
              rotate_left
              ·intro o27
               try (first | replace o27 := dFa o27 | replace o27 := Zi o27)
               refine Ye (Yu ?_)
               first | (simp_all; done) | (simp_all; omega)
              intro o27
              try (first | replace o27 := dTr o27 | replace o27 := Zk o27)
              refine Ze (Zc (Zb (Za rfl (Yb (tn rfl) rfl 0 rfl rfl) (Yl fn323 rfl rfl (fun w hs => mustBeFrames_any m _ _ _ _ w (hm0.out.mono (lowOf hs))) ?_ ?_))))
              rotate_left
              ·intro o28
               try (first | replace o28 := dFa o28 | replace o28 := Zi o28)
               refine Yu ?_
               first | (simp_all; done) | (simp_all; omega)
              intro o28
              try (first | replace o28 := dTr o28 | replace o28 := Zk o28)
              refine Ze (PP_end rfl ?_)
              first | (simp_all; done) | (simp_all; omega)
             ·intro h24
              try (first | replace h24 := dFa h24 | replace h24 := Zi h24)
              refine Zp rfl rfl rfl (Zp rfl rfl rfl (Zp rfl rfl rfl (Za rfl (Zz rfl rfl) (Yl fn111 rfl rfl (fun w _ => Xe _ w) ?_ ?_))))
              ·intro o29; cases o29
              intro _
              refine Ye (Yu ?_)
              first | (simp_all; done) | (simp_all; omega)
        ·intro h22
         try (first | replace h22 := dFa h22 | replace h22 := Zi h22)
         refine Zp rfl rfl rfl (Ze (Xr (Xf (rs := [7]) (by kernel_rfl) (by simp) ?_)))
         simp only [List.forall_mem_cons, List.not_mem_nil, false_imp_iff, implies_true, and_true]
         ·refine ⟨_, rfl, ?_⟩
          refine Zp rfl rfl rfl (Ze (Xr (Xf (rs := [8]) (by kernel_rfl) (by simp) ?_)))
          simp only [List.forall_mem_cons, List.not_mem_nil, false_imp_iff, implies_true, and_true]
          ·refine ⟨_, rfl, ?_⟩
           refine Zp rfl rfl rfl (Ze (Xr (Xf (rs := [9]) (by kernel_rfl) (by simp) ?_)))
           simp only [List.forall_mem_cons, List.not_mem_nil, false_imp_iff, implies_true, and_true]
           ·refine ⟨_, rfl, ?_⟩
            refine Za rfl (Zz rfl rfl) (Ze (Xr (Xf (rs := [10]) (by kernel_rfl) (by simp) ?_)))
            simp only [List.forall_mem_cons, List.not_mem_nil, false_imp_iff, implies_true, and_true]
            ·refine ⟨_, rfl, ?_⟩
             refine Yl fn111 rfl rfl (fun w _ => Xe _ w) ?_ ?_
             ·intro o30; cases o30
             intro _
             refine Ye (Ye (Yu ?_))
             first | (simp_all; done) | (simp_all; omega)
 ·refine ⟨_, rfl, ?_⟩
  refine Za rfl (Zh (ff rfl) rfl) (Ze (Xr (Xf (rs := [0, 3]) (by kernel_rfl) (by simp) ?_)))
  simp only [List.forall_mem_cons, List.not_mem_nil, false_imp_iff, implies_true, and_true]
  refine ⟨?_, ?_⟩
  ·refine ⟨_, rfl, ?_⟩
   refine Za rfl (Yb (tn rfl) rfl 0 rfl rfl) (Ze (Xr (Xf (rs := [1, 3]) (by kernel_rfl) (by simp) ?_)))
   simp only [List.forall_mem_cons, List.not_mem_nil, false_imp_iff, implies_true, and_true]
   refine ⟨?_, ?_⟩
   ·refine ⟨_, rfl, ?_⟩
    refine Xi fn320 rfl rfl (fun w _ => neededLocals_any m _ _ _ _ _ w hl1.1) ?_
    refine Ze (Xr (Xf (rs := [3]) (by kernel_rfl) (by simp) ?_))
    simp only [List.forall_mem_cons, List.not_mem_nil, false_imp_iff, implies_true, and_true]
    ·refine ⟨_, rfl, ?_⟩
     refine Za rfl (Zj (t1 rfl) rfl (Zl 0 rfl rfl)) (Ze (Xr (Xf (rs := [4]) (by kernel_rfl) (by simp) ?_)))
     simp only [List.forall_mem_cons, List.not_mem_nil, false_imp_iff, implies_true, and_true]
     ·refine ⟨_, rfl, ?_⟩
      refine Za rfl (Ex_leq rfl rfl) (Ze (Xr (Xf (rs := [5]) (by kernel_rfl) (by simp) ?_)))
      simp only [List.forall_mem_cons, List.not_mem_nil, false_imp_iff, implies_true, and_true]
      ·refine ⟨_, rfl, ?_⟩
       refine Za rfl (Zd rfl) (Ze (Xr (Xf (rs := [6]) (by kernel_rfl) (by simp) ?_)))
       simp only [List.forall_mem_cons, List.not_mem_nil, false_imp_iff, implies_true, and_true]
       ·refine ⟨_, rfl, ?_⟩
        refine Yr rfl rfl rfl ?_ ?_
        ·intro h31
         try (first | replace h31 := dTr h31 | replace h31 := Zk h31)
         refine Zo rfl rfl rfl (Zh (ff rfl) rfl) (Ze (Xr (Xf (rs := [7]) (by kernel_rfl) (by simp) ?_)))
         simp only [List.forall_mem_cons, List.not_mem_nil, false_imp_iff, implies_true, and_true]
         ·refine ⟨_, rfl, ?_⟩
          refine Zo rfl rfl rfl (Zj (t1 rfl) rfl (Zl 0 rfl rfl)) (Ze (Xr (Xf (rs := [8]) (by kernel_rfl) (by simp) ?_)))
          simp only [List.forall_mem_cons, List.not_mem_nil, false_imp_iff, implies_true, and_true]
          ·refine ⟨_, rfl, ?_⟩
           refine Zo rfl rfl rfl (Ex_leq rfl rfl) (Ze (Xr (Xf (rs := [9]) (by kernel_rfl) (by simp) ?_)))
           simp only [List.forall_mem_cons, List.not_mem_nil, false_imp_iff, implies_true, and_true]
           ·refine ⟨_, rfl, ?_⟩
            refine Za rfl (Zt rfl rfl) (Ze (Xr (Xf (rs := [10]) (by kernel_rfl) (by simp) ?_)))
            simp only [List.forall_mem_cons, List.not_mem_nil, false_imp_iff, implies_true, and_true]
            ·refine ⟨_, rfl, ?_⟩
             refine Yl fn111 rfl rfl (fun w _ => Xe _ w) ?_ ?_
             rotate_left
             ·intro o32
              try (first | replace o32 := dFa o32 | replace o32 := Zi o32)
              refine Ye (Ye (Yu ?_))
              first | (simp_all; done) | (simp_all; omega)
             intro o32
             try (first | replace o32 := dTr o32 | replace o32 := Zk o32)
             refine Ze (Xr (WA_done (by kernel_rfl) ?_))
             refine Zc (Zf (Zb (Za rfl (Zh (ff rfl) rfl) (Za rfl (Zj (t1 rfl) rfl (Zl 0 rfl rfl)) (Za rfl (Ex_leq rfl rfl) ?_)))))
             refine Za rfl (Zd rfl) (Yr rfl rfl rfl ?_ ?_)
             ·intro h33
              try (first | replace h33 := dTr h33 | replace h33 := Zk h33)
              refine Zo rfl rfl rfl (Zh (ff rfl) rfl) (Zo rfl rfl rfl (Zj (t1 rfl) rfl (Zl 0 rfl rfl)) (Zo rfl rfl rfl (Ex_leq rfl rfl) (Za rfl (Zt rfl rfl) (Yl fn111 rfl rfl (fun w _ => Xe _ w) ?_ ?_))))
              rotate_left
              ·intro o34
               try (first | replace o34 := dFa o34 | replace o34 := Zi o34)
               refine Ye (Yu ?_)
               first | (simp_all; done) | (simp_all; omega)
              intro o34
              try (first | replace o34 := dTr o34 | replace o34 := Zk o34)
              refine Ze (Zc (Zf (Zb (Za rfl (Yb (tn rfl) rfl 0 rfl rfl) (Yl fn321 rfl rfl (fun w hs => mustBeCode_any m _ _ _ _ w (hm0.out.mono (lowOf hs))) ?_ ?_)))))
              rotate_left
              ·intro o35
               try (first | replace o35 := dFa o35 | replace o35 := Zi o35)
               refine Ye (Yu ?_)
               first | (simp_all; done) | (simp_all; omega)
              intro o35
              try (first | replace o35 := dTr o35 | replace o35 := Zk o35)
              refine Ze (Zc (Zf (Zb (Za rfl (Yb (tn rfl) rfl 0 rfl rfl) (Yl fn322 rfl rfl (fun w hs => mustBeHandlers_any m _ _ _ _ w (hm0.out.mono (lowOf hs))) ?_ ?_)))))
              rotate_left
              ·intro o36
               try (first | replace o36 := dFa o36 | replace o36 := Zi o36)
               refine Ye (Yu ?_)
               first | (simp_all; done) | (simp_all; omega)
              intro o36
              try (first | replace o36 := dTr o36 | replace o36 := Zk o36)
              refine Ze (Zc (Zb (Za rfl (Yb (tn rfl) rfl 0 rfl rfl) (Yl fn323 rfl rfl (fun w hs => mustBeFrames_any m _ _ _ _ w (hm0.out.mono (lowOf hs))) ?_ ?_))))
              rotate_left
              ·intro o37
               try (first | replace o37 := dFa o37 | replace o37 := Zi o37)
               refine Yu ?_
               first | (simp_all; done) | (simp_all; omega)
              intro o37
              try (first | replace o37 := dTr o37 | replace o37 := Zk o37)
              refine Ze (PP_end rfl ?_)
              first | (simp_all; done) | (simp_all; omega)
             ·intro h33
              try (first | replace h33 := dFa h33 | replace h33 := Zi h33)
              refine Zp rfl rfl rfl (Zp rfl rfl rfl (Zp rfl rfl rfl (Za rfl (Zz rfl rfl) (Yl fn111 rfl rfl (fun w _ => Xe _ w) ?_ ?_))))
              ·intro o38; cases o38
              intro _
              refine Ye (Yu ?_)
              first | (simp_all; done) | (simp_all; omega)
        ·intro h31
         try (first | replace h31 := dFa h31 | replace h31 := Zi h31)
         refine Zp rfl rfl rfl (Ze (Xr (Xf (rs := [7]) (by kernel_rfl) (by simp) ?_)))
         simp only [List.forall_mem_cons, List.not_mem_nil, false_imp_iff, implies_true, and_true]
         ·refine ⟨_, rfl, ?_⟩
          refine Zp rfl rfl rfl (Ze (Xr (Xf (rs := [8]) (by kernel_rfl) (by simp) ?_)))
          simp only [List.forall_mem_cons, List.not_mem_nil, false_imp_iff, implies_true, and_true]
          ·refine ⟨_, rfl, ?_⟩
           refine Zp rfl rfl rfl (Ze (Xr (Xf (rs := [9]) (by kernel_rfl) (by simp) ?_)))
           simp only [List.forall_mem_cons, List.not_mem_nil, false_imp_iff, implies_true, and_true]
           ·refine ⟨_, rfl, ?_⟩
            refine Za rfl (Zz rfl rfl) (Ze (Xr (Xf (rs := [10]) (by kernel_rfl) (by simp) ?_)))
            simp only [List.forall_mem_cons, List.not_mem_nil, false_imp_iff, implies_true, and_true]
            ·refine ⟨_, rfl, ?_⟩
             refine Yl fn111 rfl rfl (fun w _ => Xe _ w) ?_ ?_
             ·intro o39; cases o39
             intro _
             refine Ye (Ye (Yu ?_))
             first | (simp_all; done) | (simp_all; omega)
   ·refine ⟨_, rfl, ?_⟩
    refine Za rfl (Zj (t1 rfl) rfl (Zl 0 rfl rfl)) (Ze (Xr (Xf (rs := [1]) (by kernel_rfl) (by simp) ?_)))
    simp only [List.forall_mem_cons, List.not_mem_nil, false_imp_iff, implies_true, and_true]
    ·refine ⟨_, rfl, ?_⟩
     refine Xi fn320 rfl rfl (fun w _ => neededLocals_any m _ _ _ _ _ w hl1.1) ?_
     refine Ze (Xr (Xf (rs := [4]) (by kernel_rfl) (by simp) ?_))
     simp only [List.forall_mem_cons, List.not_mem_nil, false_imp_iff, implies_true, and_true]
     ·refine ⟨_, rfl, ?_⟩
      refine Za rfl (Ex_leq rfl rfl) (Ze (Xr (Xf (rs := [5]) (by kernel_rfl) (by simp) ?_)))
      simp only [List.forall_mem_cons, List.not_mem_nil, false_imp_iff, implies_true, and_true]
      ·refine ⟨_, rfl, ?_⟩
       refine Za rfl (Zd rfl) (Ze (Xr (Xf (rs := [6]) (by kernel_rfl) (by simp) ?_)))
       simp only [List.forall_mem_cons, List.not_mem_nil, false_imp_iff, implies_true, and_true]
       ·refine ⟨_, rfl, ?_⟩
        refine Yr rfl rfl rfl ?_ ?_
        ·intro h40
         try (first | replace h40 := dTr h40 | replace h40 := Zk h40)
         refine Zo rfl rfl rfl (Zh (ff rfl) rfl) (Ze (Xr (Xf (rs := [7]) (by kernel_rfl) (by simp) ?_)))
         simp only [List.forall_mem_cons, List.not_mem_nil, false_imp_iff, implies_true, and_true]
         ·refine ⟨_, rfl, ?_⟩
          refine Zo rfl rfl rfl (Zj (t1 rfl) rfl (Zl 0 rfl rfl)) (Ze (Xr (Xf (rs := [8]) (by kernel_rfl) (by simp) ?_)))
          simp only [List.forall_mem_cons, List.not_mem_nil, false_imp_iff, implies_true, and_true]
          ·refine ⟨_, rfl, ?_⟩
           refine Zo rfl rfl rfl (Ex_leq rfl rfl) (Ze (Xr (Xf (rs := [9]) (by kernel_rfl) (by simp) ?_)))
           simp only [List.forall_mem_cons, List.not_mem_nil, false_imp_iff, implies_true, and_true]
           ·refine ⟨_, rfl, ?_⟩
            refine Za rfl (Zt rfl rfl) (Ze (Xr (Xf (rs := [10]) (by kernel_rfl) (by simp) ?_)))
            simp only [List.forall_mem_cons, List.not_mem_nil, false_imp_iff, implies_true, and_true]
            ·refine ⟨_, rfl, ?_⟩
             refine Yl fn111 rfl rfl (fun w _ => Xe _ w) ?_ ?_
             rotate_left
             ·intro o41
              try (first | replace o41 := dFa o41 | replace o41 := Zi o41)
              refine Ye (Ye (Yu ?_))
              first | (simp_all; done) | (simp_all; omega)
             intro o41
             try (first | replace o41 := dTr o41 | replace o41 := Zk o41)
             refine Ze (Xr (WA_done (by kernel_rfl) ?_))
             refine Zc (Zf (Zb (Za rfl (Zh (ff rfl) rfl) (Za rfl (Zj (t1 rfl) rfl (Zl 0 rfl rfl)) (Za rfl (Ex_leq rfl rfl) ?_)))))
             refine Za rfl (Zd rfl) (Yr rfl rfl rfl ?_ ?_)
             ·intro h42
              try (first | replace h42 := dTr h42 | replace h42 := Zk h42)
              refine Zo rfl rfl rfl (Zh (ff rfl) rfl) (Zo rfl rfl rfl (Zj (t1 rfl) rfl (Zl 0 rfl rfl)) (Zo rfl rfl rfl (Ex_leq rfl rfl) (Za rfl (Zt rfl rfl) (Yl fn111 rfl rfl (fun w _ => Xe _ w) ?_ ?_))))
              rotate_left
              ·intro o43
               try (first | replace o43 := dFa o43 | replace o43 := Zi o43)
               refine Ye (Yu ?_)
               first | (simp_all; done) | (simp_all; omega)
              intro o43
              try (first | replace o43 := dTr o43 | replace o43 := Zk o43)
              refine Ze (Zc (Zf (Zb (Za rfl (Yb (tn rfl) rfl 0 rfl rfl) (Yl fn321 rfl rfl (fun w hs => mustBeCode_any m _ _ _ _ w (hm0.out.mono (lowOf hs))) ?_ ?_)))))
              rotate_left
              ·intro o44
               try (first | replace o44 := dFa o44 | replace o44 := Zi o44)
               refine Ye (Yu ?_)
               first | (simp_all; done) | (simp_all; omega)
              intro o44
              try (first | replace o44 := dTr o44 | replace o44 := Zk o44)
              refine Ze (Zc (Zf (Zb (Za rfl (Yb (tn rfl) rfl 0 rfl rfl) (Yl fn322 rfl rfl (fun w hs => mustBeHandlers_any m _ _ _ _ w (hm0.out.mono (lowOf hs))) ?_ ?_)))))
              rotate_left
              ·intro o45
               try (first | replace o45 := dFa o45 | replace o45 := Zi o45)
               refine Ye (Yu ?_)
               first | (simp_all; done) | (simp_all; omega)
              intro o45
              try (first | replace o45 := dTr o45 | replace o45 := Zk o45)
              refine Ze (Zc (Zb (Za rfl (Yb (tn rfl) rfl 0 rfl rfl) (Yl fn323 rfl rfl (fun w hs => mustBeFrames_any m _ _ _ _ w (hm0.out.mono (lowOf hs))) ?_ ?_))))
              rotate_left
              ·intro o46
               try (first | replace o46 := dFa o46 | replace o46 := Zi o46)
               refine Yu ?_
               first | (simp_all; done) | (simp_all; omega)
              intro o46
              try (first | replace o46 := dTr o46 | replace o46 := Zk o46)
              refine Ze (PP_end rfl ?_)
              first | (simp_all; done) | (simp_all; omega)
             ·intro h42
              try (first | replace h42 := dFa h42 | replace h42 := Zi h42)
              refine Zp rfl rfl rfl (Zp rfl rfl rfl (Zp rfl rfl rfl (Za rfl (Zz rfl rfl) (Yl fn111 rfl rfl (fun w _ => Xe _ w) ?_ ?_))))
              ·intro o47; cases o47
              intro _
              refine Ye (Yu ?_)
              first | (simp_all; done) | (simp_all; omega)
        ·intro h40
         try (first | replace h40 := dFa h40 | replace h40 := Zi h40)
         refine Zp rfl rfl rfl (Ze (Xr (Xf (rs := [7]) (by kernel_rfl) (by simp) ?_)))
         simp only [List.forall_mem_cons, List.not_mem_nil, false_imp_iff, implies_true, and_true]
         ·refine ⟨_, rfl, ?_⟩
          refine Zp rfl rfl rfl (Ze (Xr (Xf (rs := [8]) (by kernel_rfl) (by simp) ?_)))
          simp only [List.forall_mem_cons, List.not_mem_nil, false_imp_iff, implies_true, and_true]
          ·refine ⟨_, rfl, ?_⟩
           refine Zp rfl rfl rfl (Ze (Xr (Xf (rs := [9]) (by kernel_rfl) (by simp) ?_)))
           simp only [List.forall_mem_cons, List.not_mem_nil, false_imp_iff, implies_true, and_true]
           ·refine ⟨_, rfl, ?_⟩
            refine Za rfl (Zz rfl rfl) (Ze (Xr (Xf (rs := [10]) (by kernel_rfl) (by simp) ?_)))
            simp only [List.forall_mem_cons, List.not_mem_nil, false_imp_iff, implies_true, and_true]
            ·refine ⟨_, rfl, ?_⟩
             refine Yl fn111 rfl rfl (fun w _ => Xe _ w) ?_ ?_
             ·intro o48; cases o48
             intro _
             refine Ye (Ye (Yu ?_))
             first | (simp_all; done) | (simp_all; omega)
  ·refine ⟨_, rfl, ?_⟩
   refine Za rfl (Zj (t1 rfl) rfl (Zl 0 rfl rfl)) (Ze (Xr (Xf (rs := [0]) (by kernel_rfl) (by simp) ?_)))
   simp only [List.forall_mem_cons, List.not_mem_nil, false_imp_iff, implies_true, and_true]
   ·refine ⟨_, rfl, ?_⟩
    refine Za rfl (Yb (tn rfl) rfl 0 rfl rfl) (Ze (Xr (Xf (rs := [1]) (by kernel_rfl) (by simp) ?_)))
    simp only [List.forall_mem_cons, List.not_mem_nil, false_imp_iff, implies_true, and_true]
    ·refine ⟨_, rfl, ?_⟩
     refine Xi fn320 rfl rfl (fun w _ => neededLocals_any m _ _ _ _ _ w hl1.1) ?_
     refine Ze (Xr (Xf (rs := [4]) (by kernel_rfl) (by simp) ?_))
     simp only [List.forall_mem_cons, List.not_mem_nil, false_imp_iff, implies_true, and_true]
     ·refine ⟨_, rfl, ?_⟩
      refine Za rfl (Ex_leq rfl rfl) (Ze (Xr (Xf (rs := [5]) (by kernel_rfl) (by simp) ?_)))
      simp only [List.forall_mem_cons, List.not_mem_nil, false_imp_iff, implies_true, and_true]
      ·refine ⟨_, rfl, ?_⟩
       refine Za rfl (Zd rfl) (Ze (Xr (Xf (rs := [6]) (by kernel_rfl) (by simp) ?_)))
       simp only [List.forall_mem_cons, List.not_mem_nil, false_imp_iff, implies_true, and_true]
       ·refine ⟨_, rfl, ?_⟩
        refine Yr rfl rfl rfl ?_ ?_
        ·intro h49
         try (first | replace h49 := dTr h49 | replace h49 := Zk h49)
         refine Zo rfl rfl rfl (Zh (ff rfl) rfl) (Ze (Xr (Xf (rs := [7]) (by kernel_rfl) (by simp) ?_)))
         simp only [List.forall_mem_cons, List.not_mem_nil, false_imp_iff, implies_true, and_true]
         ·refine ⟨_, rfl, ?_⟩
          refine Zo rfl rfl rfl (Zj (t1 rfl) rfl (Zl 0 rfl rfl)) (Ze (Xr (Xf (rs := [8]) (by kernel_rfl) (by simp) ?_)))
          simp only [List.forall_mem_cons, List.not_mem_nil, false_imp_iff, implies_true, and_true]
          ·refine ⟨_, rfl, ?_⟩
           refine Zo rfl rfl rfl (Ex_leq rfl rfl) (Ze (Xr (Xf (rs := [9]) (by kernel_rfl) (by simp) ?_)))
           simp only [List.forall_mem_cons, List.not_mem_nil, false_imp_iff, implies_true, and_true]
           ·refine ⟨_, rfl, ?_⟩
            refine Za rfl (Zt rfl rfl) (Ze (Xr (Xf (rs := [10]) (by kernel_rfl) (by simp) ?_)))
            simp only [List.forall_mem_cons, List.not_mem_nil, false_imp_iff, implies_true, and_true]
            ·refine ⟨_, rfl, ?_⟩
             refine Yl fn111 rfl rfl (fun w _ => Xe _ w) ?_ ?_
             rotate_left
             ·intro o50
              try (first | replace o50 := dFa o50 | replace o50 := Zi o50)
              refine Ye (Ye (Yu ?_))
              first | (simp_all; done) | (simp_all; omega)
             intro o50
             try (first | replace o50 := dTr o50 | replace o50 := Zk o50)
             refine Ze (Xr (WA_done (by kernel_rfl) ?_))
             refine Zc (Zf (Zb (Za rfl (Zh (ff rfl) rfl) (Za rfl (Zj (t1 rfl) rfl (Zl 0 rfl rfl)) (Za rfl (Ex_leq rfl rfl) ?_)))))
             refine Za rfl (Zd rfl) (Yr rfl rfl rfl ?_ ?_)
             ·intro h51
              try (first | replace h51 := dTr h51 | replace h51 := Zk h51)
              refine Zo rfl rfl rfl (Zh (ff rfl) rfl) (Zo rfl rfl rfl (Zj (t1 rfl) rfl (Zl 0 rfl rfl)) (Zo rfl rfl rfl (Ex_leq rfl rfl) (Za rfl (Zt rfl rfl) (Yl fn111 rfl rfl (fun w _ => Xe _ w) ?_ ?_))))
              rotate_left
              ·intro o52
               try (first | replace o52 := dFa o52 | replace o52 := Zi o52)
               refine Ye (Yu ?_)
               first | (simp_all; done) | (simp_all; omega)
              intro o52
              try (first | replace o52 := dTr o52 | replace o52 := Zk o52)
              refine Ze (Zc (Zf (Zb (Za rfl (Yb (tn rfl) rfl 0 rfl rfl) (Yl fn321 rfl rfl (fun w hs => mustBeCode_any m _ _ _ _ w (hm0.out.mono (lowOf hs))) ?_ ?_)))))
              rotate_left
              ·intro o53
               try (first | replace o53 := dFa o53 | replace o53 := Zi o53)
               refine Ye (Yu ?_)
               first | (simp_all; done) | (simp_all; omega)
              intro o53
              try (first | replace o53 := dTr o53 | replace o53 := Zk o53)
              refine Ze (Zc (Zf (Zb (Za rfl (Yb (tn rfl) rfl 0 rfl rfl) (Yl fn322 rfl rfl (fun w hs => mustBeHandlers_any m _ _ _ _ w (hm0.out.mono (lowOf hs))) ?_ ?_)))))
              rotate_left
              ·intro o54
               try (first | replace o54 := dFa o54 | replace o54 := Zi o54)
               refine Ye (Yu ?_)
               first | (simp_all; done) | (simp_all; omega)
              intro o54
              try (first | replace o54 := dTr o54 | replace o54 := Zk o54)
              refine Ze (Zc (Zb (Za rfl (Yb (tn rfl) rfl 0 rfl rfl) (Yl fn323 rfl rfl (fun w hs => mustBeFrames_any m _ _ _ _ w (hm0.out.mono (lowOf hs))) ?_ ?_))))
              rotate_left
              ·intro o55
               try (first | replace o55 := dFa o55 | replace o55 := Zi o55)
               refine Yu ?_
               first | (simp_all; done) | (simp_all; omega)
              intro o55
              try (first | replace o55 := dTr o55 | replace o55 := Zk o55)
              refine Ze (PP_end rfl ?_)
              first | (simp_all; done) | (simp_all; omega)
             ·intro h51
              try (first | replace h51 := dFa h51 | replace h51 := Zi h51)
              refine Zp rfl rfl rfl (Zp rfl rfl rfl (Zp rfl rfl rfl (Za rfl (Zz rfl rfl) (Yl fn111 rfl rfl (fun w _ => Xe _ w) ?_ ?_))))
              ·intro o56; cases o56
              intro _
              refine Ye (Yu ?_)
              first | (simp_all; done) | (simp_all; omega)
        ·intro h49
         try (first | replace h49 := dFa h49 | replace h49 := Zi h49)
         refine Zp rfl rfl rfl (Ze (Xr (Xf (rs := [7]) (by kernel_rfl) (by simp) ?_)))
         simp only [List.forall_mem_cons, List.not_mem_nil, false_imp_iff, implies_true, and_true]
         ·refine ⟨_, rfl, ?_⟩
          refine Zp rfl rfl rfl (Ze (Xr (Xf (rs := [8]) (by kernel_rfl) (by simp) ?_)))
          simp only [List.forall_mem_cons, List.not_mem_nil, false_imp_iff, implies_true, and_true]
          ·refine ⟨_, rfl, ?_⟩
           refine Zp rfl rfl rfl (Ze (Xr (Xf (rs := [9]) (by kernel_rfl) (by simp) ?_)))
           simp only [List.forall_mem_cons, List.not_mem_nil, false_imp_iff, implies_true, and_true]
           ·refine ⟨_, rfl, ?_⟩
            refine Za rfl (Zz rfl rfl) (Ze (Xr (Xf (rs := [10]) (by kernel_rfl) (by simp) ?_)))
            simp only [List.forall_mem_cons, List.not_mem_nil, false_imp_iff, implies_true, and_true]
            ·refine ⟨_, rfl, ?_⟩
             refine Yl fn111 rfl rfl (fun w _ => Xe _ w) ?_ ?_
             ·intro o57; cases o57
             intro _
             refine Ye (Ye (Yu ?_))
             first | (simp_all; done) | (simp_all; omega)
end Go.Proofs.YtpofmnfkdkmieaaGreat
