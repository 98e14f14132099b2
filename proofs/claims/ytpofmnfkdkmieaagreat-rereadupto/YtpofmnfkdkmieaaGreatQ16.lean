/- What is proved here: the program's own asking whether something is a method, a class (package shape). -/
import Derived.Test.YtpofmnfkdkmieaaGreatQ14
import Derived.Test.YtpofmnfkdkmieaaGreatQ12
set_option linter.unusedVariables false
set_option linter.unusedSimpArgs false
namespace Go.Proofs.YtpofmnfkdkmieaaGreat
open Go.RowKit At E

theorem isMethodB_parts (m : Me) : isMethodB m = (isNameB m.name && (decide ((m.params.length : Int) ≤ 6) && areTypesB m.params false) && isTypeB m.result true false && (decide (leastB m ≤ m.locals) && decide (m.locals ≤ 20)) && (decide (0 ≤ m.stack) && decide (m.stack ≤ 20)) && codeB m && hdsB m && frsB m) := by
  have e : decide (1 ≤ (m.code.length : Int)) = decide (0 < (m.code.length : Int)) := by rw [Bool.eq_iff_iff]; simp only [decide_eq_true_eq]; omega
  unfold isMethodB isHeadB codeB hdsB frsB
  rw [e]
  generalize isNameB m.name = b1
  generalize decide ((m.params.length : Int) ≤ 6) = b2
  generalize areTypesB m.params false = b3
  generalize isTypeB m.result true false = b4
  generalize decide (leastB m ≤ m.locals) = b5
  generalize decide (m.locals ≤ 20) = b6
  generalize decide (0 ≤ m.stack) = b7
  generalize decide (m.stack ≤ 20) = b8
  generalize decide (0 < (m.code.length : Int)) = b9
  generalize decide ((m.code.length : Int) ≤ 200) = b10
  generalize decide ((m.handlers.length : Int) ≤ 10) = b11
  generalize decide ((m.frames.length : Int) ≤ 60) = b12
  generalize m.code.all (fun i => isInstrB i m.locals m.code.length) = b13
  generalize m.handlers.all (fun h => isHdB h m.code.length) = b14
  generalize (List.range m.frames.length).all (frAt m.frames m.locals m.stack m.code.length) = b15
  cases b1 <;> cases b2 <;> cases b3 <;> cases b4 <;> cases b5 <;> cases b6 <;> cases b7 <;> cases b8 <;> try rfl
  all_goals (cases b9 <;> cases b10 <;> cases b11 <;> cases b12 <;> cases b13 <;> cases b14 <;> cases b15 <;> rfl)
set_option maxHeartbeats 1000000 in
theorem mustBeMethod_any (m : Me) (pv hv fv : Value) (cv : Value) (w : World) (hm : MeParts w m pv cv hv fv) : PureP Tryz.prog 247 #[.agg (meV m pv cv hv fv).toArray] w (isMethodB m) := by
  rw [isMethodB_parts]
  have hm0 := hm
  obtain ⟨p1, e1, rfl, hl1, -⟩ := hm.ps.is
  obtain ⟨p2, e2, rfl, hl2, -⟩ := hm.cs.is
  replace hm0 : Hid _ := hm0
  have hok := hm.ok
  clear hm
  refine opens (args := [.agg (meV m (.slice p1 m.params.length e1) (.slice p2 m.code.length e2) hv fv).toArray]) Tryz.func247 rfl Tryz.ntmps247 ?_
  refine WC_seq ?_
  refine WC_region ?_
  refine WL_box rfl rfl ?_
  intro b0 hb0
  refine WL_nil ?_
  refine WQ_next ?_
  refine WC_seq ?_
  refine WC_region ?_
  refine WL_op rfl (Ex_field (ff rfl) rfl) ?_
  refine WL_op rfl (Ex_load (t1 rfl) rfl (cell_mine 0 rfl rfl)) ?_
  refine WL_callP fn139 rfl rfl (fun w _ => mustBeName_any _ w hok.1) ?_ ?_
  rotate_left
  · intro o1
    try (first | replace o1 := of_decide_eq_false o1 | replace o1 := of_nd_false o1)
    refine WQ_pan ?_
    refine PP_dies ?_
    first | (simp_all; done) | (simp_all; omega)
  intro o1
  try (first | replace o1 := of_decide_eq_true o1 | replace o1 := of_nd_true o1)
  refine WL_nil ?_
  refine WQ_next ?_
  refine WC_seq ?_
  refine WC_region ?_
  refine WL_op rfl (Ex_field (ff rfl) rfl) ?_
  refine WL_op rfl (Ex_load (t1 rfl) rfl (cell_mine 0 rfl rfl)) ?_
  refine WL_callP fn318 rfl rfl (fun w hs => mustBeParams_any _ m.params w (TysAt.mono hm0.out.ps (lowOf hs))) ?_ ?_
  rotate_left
  · intro o2
    try (first | replace o2 := of_decide_eq_false o2 | replace o2 := of_nd_false o2)
    refine WQ_pan ?_
    refine PP_dies ?_
    first | (simp_all; done) | (simp_all; omega)
  intro o2
  try (first | replace o2 := of_decide_eq_true o2 | replace o2 := of_nd_true o2)
  refine WL_nil ?_
  refine WQ_next ?_
  refine WC_seq ?_
  refine WC_region ?_
  refine WL_op rfl (Ex_field (ff rfl) rfl) ?_
  refine WL_op rfl (Ex_loadM (tn rfl) rfl 0 rfl rfl) ?_
  refine WL_callP fn245 rfl rfl (fun w _ => (mustBeType_any 319 resB fn319 isOfResult_any m.result w hok.2.1).of_eq (mayB_res _)) ?_ ?_
  rotate_left
  · intro o3
    try (first | replace o3 := of_decide_eq_false o3 | replace o3 := of_nd_false o3)
    refine WQ_pan ?_
    refine PP_dies ?_
    first | (simp_all; done) | (simp_all; omega)
  intro o3
  try (first | replace o3 := of_decide_eq_true o3 | replace o3 := of_nd_true o3)
  refine WL_nil ?_
  refine WQ_next ?_
  refine WC_seq ?_
  refine WC_any mixed ?_
  refine WA_step (rs := [0, 2]) (by kernel_rfl) (by simp) ?_
  simp only [List.forall_mem_cons, List.not_mem_nil, false_imp_iff, implies_true, and_true]
  refine ⟨?_, ?_⟩
  · refine ⟨_, rfl, ?_⟩
    refine WL_op rfl (Ex_loadM (tn rfl) rfl 0 rfl rfl) ?_
    refine WL_nil ?_
    refine WQ_any ?_
    refine WA_step (rs := [1, 2]) (by kernel_rfl) (by simp) ?_
    simp only [List.forall_mem_cons, List.not_mem_nil, false_imp_iff, implies_true, and_true]
    refine ⟨?_, ?_⟩
    · refine ⟨_, rfl, ?_⟩
      refine WL_call fn320 rfl rfl (fun w _ => neededLocals_any m _ _ _ _ _ w hl1.1) ?_
      refine WL_nil ?_
      refine WQ_any ?_
      refine WA_step (rs := [2]) (by kernel_rfl) (by simp) ?_
      simp only [List.forall_mem_cons, List.not_mem_nil, false_imp_iff, implies_true, and_true]
      · refine ⟨_, rfl, ?_⟩
        refine WL_op rfl (Ex_field (ff rfl) rfl) ?_
        refine WL_nil ?_
        refine WQ_any ?_
        refine WA_step (rs := [3]) (by kernel_rfl) (by simp) ?_
        simp only [List.forall_mem_cons, List.not_mem_nil, false_imp_iff, implies_true, and_true]
        · refine ⟨_, rfl, ?_⟩
          refine WL_op rfl (Ex_load (t1 rfl) rfl (cell_mine 0 rfl rfl)) ?_
          refine WL_nil ?_
          refine WQ_any ?_
          refine WA_step (rs := [4]) (by kernel_rfl) (by simp) ?_
          simp only [List.forall_mem_cons, List.not_mem_nil, false_imp_iff, implies_true, and_true]
          · refine ⟨_, rfl, ?_⟩
            refine WL_op rfl (Ex_leq rfl rfl) ?_
            refine WL_nil ?_
            refine WQ_any ?_
            refine WA_step (rs := [5]) (by kernel_rfl) (by simp) ?_
            simp only [List.forall_mem_cons, List.not_mem_nil, false_imp_iff, implies_true, and_true]
            · refine ⟨_, rfl, ?_⟩
              refine WL_op rfl (Ex_move rfl) ?_
              refine WL_nil ?_
              refine WQ_any ?_
              refine WA_step (rs := [6]) (by kernel_rfl) (by simp) ?_
              simp only [List.forall_mem_cons, List.not_mem_nil, false_imp_iff, implies_true, and_true]
              · refine ⟨_, rfl, ?_⟩
                refine WL_part rfl rfl rfl ?_ ?_
                · intro h4
                  try (first | replace h4 := of_decide_eq_true h4 | replace h4 := of_nd_true h4)
                  refine WL_yes rfl rfl rfl (Ex_field (ff rfl) rfl) ?_
                  refine WL_nil ?_
                  refine WQ_any ?_
                  refine WA_step (rs := [7]) (by kernel_rfl) (by simp) ?_
                  simp only [List.forall_mem_cons, List.not_mem_nil, false_imp_iff, implies_true, and_true]
                  · refine ⟨_, rfl, ?_⟩
                    refine WL_yes rfl rfl rfl (Ex_load (t1 rfl) rfl (cell_mine 0 rfl rfl)) ?_
                    refine WL_nil ?_
                    refine WQ_any ?_
                    refine WA_step (rs := [8]) (by kernel_rfl) (by simp) ?_
                    simp only [List.forall_mem_cons, List.not_mem_nil, false_imp_iff, implies_true, and_true]
                    · refine ⟨_, rfl, ?_⟩
                      refine WL_yes rfl rfl rfl (Ex_leq rfl rfl) ?_
                      refine WL_nil ?_
                      refine WQ_any ?_
                      refine WA_step (rs := [9]) (by kernel_rfl) (by simp) ?_
                      simp only [List.forall_mem_cons, List.not_mem_nil, false_imp_iff, implies_true, and_true]
                      · refine ⟨_, rfl, ?_⟩
                        refine WL_op rfl (Ex_pickT rfl rfl) ?_
                        refine WL_nil ?_
                        refine WQ_any ?_
                        refine WA_step (rs := [10]) (by kernel_rfl) (by simp) ?_
                        simp only [List.forall_mem_cons, List.not_mem_nil, false_imp_iff, implies_true, and_true]
                        · refine ⟨_, rfl, ?_⟩
                          refine WL_callP fn111 rfl rfl (fun w _ => must_any _ w) ?_ ?_
                          rotate_left
                          · intro o5
                            try (first | replace o5 := of_decide_eq_false o5 | replace o5 := of_nd_false o5)
                            refine WQ_pan ?_
                            refine WQ_pan ?_
                            refine PP_dies ?_
                            first | (simp_all; done) | (simp_all; omega)
                          intro o5
                          try (first | replace o5 := of_decide_eq_true o5 | replace o5 := of_nd_true o5)
                          refine WL_nil ?_
                          refine WQ_any ?_
                          refine WA_done (by kernel_rfl) ?_
                          refine WQ_next ?_
                          refine WC_seq ?_
                          refine WC_region ?_
                          refine WL_op rfl (Ex_field (ff rfl) rfl) ?_
                          refine WL_op rfl (Ex_load (t1 rfl) rfl (cell_mine 0 rfl rfl)) ?_
                          refine WL_op rfl (Ex_leq rfl rfl) ?_
                          refine WL_op rfl (Ex_move rfl) ?_
                          refine WL_part rfl rfl rfl ?_ ?_
                          · intro h6
                            try (first | replace h6 := of_decide_eq_true h6 | replace h6 := of_nd_true h6)
                            refine WL_yes rfl rfl rfl (Ex_field (ff rfl) rfl) ?_
                            refine WL_yes rfl rfl rfl (Ex_load (t1 rfl) rfl (cell_mine 0 rfl rfl)) ?_
                            refine WL_yes rfl rfl rfl (Ex_leq rfl rfl) ?_
                            refine WL_op rfl (Ex_pickT rfl rfl) ?_
                            refine WL_callP fn111 rfl rfl (fun w _ => must_any _ w) ?_ ?_
                            rotate_left
                            · intro o7
                              try (first | replace o7 := of_decide_eq_false o7 | replace o7 := of_nd_false o7)
                              refine WQ_pan ?_
                              refine PP_dies ?_
                              first | (simp_all; done) | (simp_all; omega)
                            intro o7
                            try (first | replace o7 := of_decide_eq_true o7 | replace o7 := of_nd_true o7)
                            refine WL_nil ?_
                            refine WQ_next ?_
                            refine WC_seq ?_
                            refine WC_region ?_
                            refine WL_op rfl (Ex_loadM (tn rfl) rfl 0 rfl rfl) ?_
                            refine WL_callP fn321 rfl rfl (fun w hs => mustBeCode_any m _ _ _ _ w (hm0.out.mono (lowOf hs))) ?_ ?_
                            rotate_left
                            · intro o8
                              try (first | replace o8 := of_decide_eq_false o8 | replace o8 := of_nd_false o8)
                              refine WQ_pan ?_
                              refine PP_dies ?_
                              first | (simp_all; done) | (simp_all; omega)
                            intro o8
                            try (first | replace o8 := of_decide_eq_true o8 | replace o8 := of_nd_true o8)
                            refine WL_nil ?_
                            refine WQ_next ?_
                            refine WC_seq ?_
                            refine WC_region ?_
                            refine WL_op rfl (Ex_loadM (tn rfl) rfl 0 rfl rfl) ?_
                            refine WL_callP fn322 rfl rfl (fun w hs => mustBeHandlers_any m _ _ _ _ w (hm0.out.mono (lowOf hs))) ?_ ?_
                            rotate_left
                            · intro o9
                              try (first | replace o9 := of_decide_eq_false o9 | replace o9 := of_nd_false o9)
                              refine WQ_pan ?_
                              refine PP_dies ?_
                              first | (simp_all; done) | (simp_all; omega)
                            intro o9
                            try (first | replace o9 := of_decide_eq_true o9 | replace o9 := of_nd_true o9)
                            refine WL_nil ?_
                            refine WQ_next ?_
                            refine WC_region ?_
                            refine WL_op rfl (Ex_loadM (tn rfl) rfl 0 rfl rfl) ?_
                            refine WL_callP fn323 rfl rfl (fun w hs => mustBeFrames_any m _ _ _ _ w (hm0.out.mono (lowOf hs))) ?_ ?_
                            rotate_left
                            · intro o10
                              try (first | replace o10 := of_decide_eq_false o10 | replace o10 := of_nd_false o10)
                              refine PP_dies ?_
                              first | (simp_all; done) | (simp_all; omega)
                            intro o10
                            try (first | replace o10 := of_decide_eq_true o10 | replace o10 := of_nd_true o10)
                            refine WL_nil ?_
                            refine PP_end rfl ?_
                            first | (simp_all; done) | (simp_all; omega)
                          · intro h6
                            try (first | replace h6 := of_decide_eq_false h6 | replace h6 := of_nd_false h6)
                            refine WL_no rfl rfl rfl ?_
                            refine WL_no rfl rfl rfl ?_
                            refine WL_no rfl rfl rfl ?_
                            refine WL_op rfl (Ex_pickF rfl rfl) ?_
                            refine WL_callP fn111 rfl rfl (fun w _ => must_any _ w) ?_ ?_
                            · intro o11; cases o11
                            intro _
                            refine WQ_pan ?_
                            refine PP_dies ?_
                            first | (simp_all; done) | (simp_all; omega)
                · intro h4
                  try (first | replace h4 := of_decide_eq_false h4 | replace h4 := of_nd_false h4)
                  refine WL_no rfl rfl rfl ?_
                  refine WL_nil ?_
                  refine WQ_any ?_
                  refine WA_step (rs := [7]) (by kernel_rfl) (by simp) ?_
                  simp only [List.forall_mem_cons, List.not_mem_nil, false_imp_iff, implies_true, and_true]
                  · refine ⟨_, rfl, ?_⟩
                    refine WL_no rfl rfl rfl ?_
                    refine WL_nil ?_
                    refine WQ_any ?_
                    refine WA_step (rs := [8]) (by kernel_rfl) (by simp) ?_
                    simp only [List.forall_mem_cons, List.not_mem_nil, false_imp_iff, implies_true, and_true]
                    · refine ⟨_, rfl, ?_⟩
                      refine WL_no rfl rfl rfl ?_
                      refine WL_nil ?_
                      refine WQ_any ?_
                      refine WA_step (rs := [9]) (by kernel_rfl) (by simp) ?_
                      simp only [List.forall_mem_cons, List.not_mem_nil, false_imp_iff, implies_true, and_true]
                      · refine ⟨_, rfl, ?_⟩
                        refine WL_op rfl (Ex_pickF rfl rfl) ?_
                        refine WL_nil ?_
                        refine WQ_any ?_
                        refine WA_step (rs := [10]) (by kernel_rfl) (by simp) ?_
                        simp only [List.forall_mem_cons, List.not_mem_nil, false_imp_iff, implies_true, and_true]
                        · refine ⟨_, rfl, ?_⟩
                          refine WL_callP fn111 rfl rfl (fun w _ => must_any _ w) ?_ ?_
                          · intro o12; cases o12
                          intro _
                          refine WQ_pan ?_
                          refine WQ_pan ?_
                          refine PP_dies ?_
                          first | (simp_all; done) | (simp_all; omega)
    · refine ⟨_, rfl, ?_⟩
      refine WL_op rfl (Ex_field (ff rfl) rfl) ?_
      refine WL_nil ?_
      refine WQ_any ?_
      refine WA_step (rs := [1, 3]) (by kernel_rfl) (by simp) ?_
      simp only [List.forall_mem_cons, List.not_mem_nil, false_imp_iff, implies_true, and_true]
      refine ⟨?_, ?_⟩
      · refine ⟨_, rfl, ?_⟩
        refine WL_call fn320 rfl rfl (fun w _ => neededLocals_any m _ _ _ _ _ w hl1.1) ?_
        refine WL_nil ?_
        refine WQ_any ?_
        refine WA_step (rs := [3]) (by kernel_rfl) (by simp) ?_
        simp only [List.forall_mem_cons, List.not_mem_nil, false_imp_iff, implies_true, and_true]
        · refine ⟨_, rfl, ?_⟩
          refine WL_op rfl (Ex_load (t1 rfl) rfl (cell_mine 0 rfl rfl)) ?_
          refine WL_nil ?_
          refine WQ_any ?_
          refine WA_step (rs := [4]) (by kernel_rfl) (by simp) ?_
          simp only [List.forall_mem_cons, List.not_mem_nil, false_imp_iff, implies_true, and_true]
          · refine ⟨_, rfl, ?_⟩
            refine WL_op rfl (Ex_leq rfl rfl) ?_
            refine WL_nil ?_
            refine WQ_any ?_
            refine WA_step (rs := [5]) (by kernel_rfl) (by simp) ?_
            simp only [List.forall_mem_cons, List.not_mem_nil, false_imp_iff, implies_true, and_true]
            · refine ⟨_, rfl, ?_⟩
              refine WL_op rfl (Ex_move rfl) ?_
              refine WL_nil ?_
              refine WQ_any ?_
              refine WA_step (rs := [6]) (by kernel_rfl) (by simp) ?_
              simp only [List.forall_mem_cons, List.not_mem_nil, false_imp_iff, implies_true, and_true]
              · refine ⟨_, rfl, ?_⟩
                refine WL_part rfl rfl rfl ?_ ?_
                · intro h13
                  try (first | replace h13 := of_decide_eq_true h13 | replace h13 := of_nd_true h13)
                  refine WL_yes rfl rfl rfl (Ex_field (ff rfl) rfl) ?_
                  refine WL_nil ?_
                  refine WQ_any ?_
                  refine WA_step (rs := [7]) (by kernel_rfl) (by simp) ?_
                  simp only [List.forall_mem_cons, List.not_mem_nil, false_imp_iff, implies_true, and_true]
                  · refine ⟨_, rfl, ?_⟩
                    refine WL_yes rfl rfl rfl (Ex_load (t1 rfl) rfl (cell_mine 0 rfl rfl)) ?_
                    refine WL_nil ?_
                    refine WQ_any ?_
                    refine WA_step (rs := [8]) (by kernel_rfl) (by simp) ?_
                    simp only [List.forall_mem_cons, List.not_mem_nil, false_imp_iff, implies_true, and_true]
                    · refine ⟨_, rfl, ?_⟩
                      refine WL_yes rfl rfl rfl (Ex_leq rfl rfl) ?_
                      refine WL_nil ?_
                      refine WQ_any ?_
                      refine WA_step (rs := [9]) (by kernel_rfl) (by simp) ?_
                      simp only [List.forall_mem_cons, List.not_mem_nil, false_imp_iff, implies_true, and_true]
                      · refine ⟨_, rfl, ?_⟩
                        refine WL_op rfl (Ex_pickT rfl rfl) ?_
                        refine WL_nil ?_
                        refine WQ_any ?_
                        refine WA_step (rs := [10]) (by kernel_rfl) (by simp) ?_
                        simp only [List.forall_mem_cons, List.not_mem_nil, false_imp_iff, implies_true, and_true]
                        · refine ⟨_, rfl, ?_⟩
                          refine WL_callP fn111 rfl rfl (fun w _ => must_any _ w) ?_ ?_
                          rotate_left
                          · intro o14
                            try (first | replace o14 := of_decide_eq_false o14 | replace o14 := of_nd_false o14)
                            refine WQ_pan ?_
                            refine WQ_pan ?_
                            refine PP_dies ?_
                            first | (simp_all; done) | (simp_all; omega)
                          intro o14
                          try (first | replace o14 := of_decide_eq_true o14 | replace o14 := of_nd_true o14)
                          refine WL_nil ?_
                          refine WQ_any ?_
                          refine WA_done (by kernel_rfl) ?_
                          refine WQ_next ?_
                          refine WC_seq ?_
                          refine WC_region ?_
                          refine WL_op rfl (Ex_field (ff rfl) rfl) ?_
                          refine WL_op rfl (Ex_load (t1 rfl) rfl (cell_mine 0 rfl rfl)) ?_
                          refine WL_op rfl (Ex_leq rfl rfl) ?_
                          refine WL_op rfl (Ex_move rfl) ?_
                          refine WL_part rfl rfl rfl ?_ ?_
                          · intro h15
                            try (first | replace h15 := of_decide_eq_true h15 | replace h15 := of_nd_true h15)
                            refine WL_yes rfl rfl rfl (Ex_field (ff rfl) rfl) ?_
                            refine WL_yes rfl rfl rfl (Ex_load (t1 rfl) rfl (cell_mine 0 rfl rfl)) ?_
                            refine WL_yes rfl rfl rfl (Ex_leq rfl rfl) ?_
                            refine WL_op rfl (Ex_pickT rfl rfl) ?_
                            refine WL_callP fn111 rfl rfl (fun w _ => must_any _ w) ?_ ?_
                            rotate_left
                            · intro o16
                              try (first | replace o16 := of_decide_eq_false o16 | replace o16 := of_nd_false o16)
                              refine WQ_pan ?_
                              refine PP_dies ?_
                              first | (simp_all; done) | (simp_all; omega)
                            intro o16
                            try (first | replace o16 := of_decide_eq_true o16 | replace o16 := of_nd_true o16)
                            refine WL_nil ?_
                            refine WQ_next ?_
                            refine WC_seq ?_
                            refine WC_region ?_
                            refine WL_op rfl (Ex_loadM (tn rfl) rfl 0 rfl rfl) ?_
                            refine WL_callP fn321 rfl rfl (fun w hs => mustBeCode_any m _ _ _ _ w (hm0.out.mono (lowOf hs))) ?_ ?_
                            rotate_left
                            · intro o17
                              try (first | replace o17 := of_decide_eq_false o17 | replace o17 := of_nd_false o17)
                              refine WQ_pan ?_
                              refine PP_dies ?_
                              first | (simp_all; done) | (simp_all; omega)
                            intro o17
                            try (first | replace o17 := of_decide_eq_true o17 | replace o17 := of_nd_true o17)
                            refine WL_nil ?_
                            refine WQ_next ?_
                            refine WC_seq ?_
                            refine WC_region ?_
                            refine WL_op rfl (Ex_loadM (tn rfl) rfl 0 rfl rfl) ?_
                            refine WL_callP fn322 rfl rfl (fun w hs => mustBeHandlers_any m _ _ _ _ w (hm0.out.mono (lowOf hs))) ?_ ?_
                            rotate_left
                            · intro o18
                              try (first | replace o18 := of_decide_eq_false o18 | replace o18 := of_nd_false o18)
                              refine WQ_pan ?_
                              refine PP_dies ?_
                              first | (simp_all; done) | (simp_all; omega)
                            intro o18
                            try (first | replace o18 := of_decide_eq_true o18 | replace o18 := of_nd_true o18)
                            refine WL_nil ?_
                            refine WQ_next ?_
                            refine WC_region ?_
                            refine WL_op rfl (Ex_loadM (tn rfl) rfl 0 rfl rfl) ?_
                            refine WL_callP fn323 rfl rfl (fun w hs => mustBeFrames_any m _ _ _ _ w (hm0.out.mono (lowOf hs))) ?_ ?_
                            rotate_left
                            · intro o19
                              try (first | replace o19 := of_decide_eq_false o19 | replace o19 := of_nd_false o19)
                              refine PP_dies ?_
                              first | (simp_all; done) | (simp_all; omega)
                            intro o19
                            try (first | replace o19 := of_decide_eq_true o19 | replace o19 := of_nd_true o19)
                            refine WL_nil ?_
                            refine PP_end rfl ?_
                            first | (simp_all; done) | (simp_all; omega)
                          · intro h15
                            try (first | replace h15 := of_decide_eq_false h15 | replace h15 := of_nd_false h15)
                            refine WL_no rfl rfl rfl ?_
                            refine WL_no rfl rfl rfl ?_
                            refine WL_no rfl rfl rfl ?_
                            refine WL_op rfl (Ex_pickF rfl rfl) ?_
                            refine WL_callP fn111 rfl rfl (fun w _ => must_any _ w) ?_ ?_
                            · intro o20; cases o20
                            intro _
                            refine WQ_pan ?_
                            refine PP_dies ?_
                            first | (simp_all; done) | (simp_all; omega)
                · intro h13
                  try (first | replace h13 := of_decide_eq_false h13 | replace h13 := of_nd_false h13)
                  refine WL_no rfl rfl rfl ?_
                  refine WL_nil ?_
                  refine WQ_any ?_
                  refine WA_step (rs := [7]) (by kernel_rfl) (by simp) ?_
                  simp only [List.forall_mem_cons, List.not_mem_nil, false_imp_iff, implies_true, and_true]
                  · refine ⟨_, rfl, ?_⟩
                    refine WL_no rfl rfl rfl ?_
                    refine WL_nil ?_
                    refine WQ_any ?_
                    refine WA_step (rs := [8]) (by kernel_rfl) (by simp) ?_
                    simp only [List.forall_mem_cons, List.not_mem_nil, false_imp_iff, implies_true, and_true]
                    · refine ⟨_, rfl, ?_⟩
                      refine WL_no rfl rfl rfl ?_
                      refine WL_nil ?_
                      refine WQ_any ?_
                      refine WA_step (rs := [9]) (by kernel_rfl) (by simp) ?_
                      simp only [List.forall_mem_cons, List.not_mem_nil, false_imp_iff, implies_true, and_true]
                      · refine ⟨_, rfl, ?_⟩
                        refine WL_op rfl (Ex_pickF rfl rfl) ?_
                        refine WL_nil ?_
                        refine WQ_any ?_
                        refine WA_step (rs := [10]) (by kernel_rfl) (by simp) ?_
                        simp only [List.forall_mem_cons, List.not_mem_nil, false_imp_iff, implies_true, and_true]
                        · refine ⟨_, rfl, ?_⟩
                          refine WL_callP fn111 rfl rfl (fun w _ => must_any _ w) ?_ ?_
                          · intro o21; cases o21
                          intro _
                          refine WQ_pan ?_
                          refine WQ_pan ?_
                          refine PP_dies ?_
                          first | (simp_all; done) | (simp_all; omega)
      · refine ⟨_, rfl, ?_⟩
        refine WL_op rfl (Ex_load (t1 rfl) rfl (cell_mine 0 rfl rfl)) ?_
        refine WL_nil ?_
        refine WQ_any ?_
        refine WA_step (rs := [1]) (by kernel_rfl) (by simp) ?_
        simp only [List.forall_mem_cons, List.not_mem_nil, false_imp_iff, implies_true, and_true]
        · refine ⟨_, rfl, ?_⟩
          refine WL_call fn320 rfl rfl (fun w _ => neededLocals_any m _ _ _ _ _ w hl1.1) ?_
          refine WL_nil ?_
          refine WQ_any ?_
          refine WA_step (rs := [4]) (by kernel_rfl) (by simp) ?_
          simp only [List.forall_mem_cons, List.not_mem_nil, false_imp_iff, implies_true, and_true]
          · refine ⟨_, rfl, ?_⟩
            refine WL_op rfl (Ex_leq rfl rfl) ?_
            refine WL_nil ?_
            refine WQ_any ?_
            refine WA_step (rs := [5]) (by kernel_rfl) (by simp) ?_
            simp only [List.forall_mem_cons, List.not_mem_nil, false_imp_iff, implies_true, and_true]
            · refine ⟨_, rfl, ?_⟩
              refine WL_op rfl (Ex_move rfl) ?_
              refine WL_nil ?_
              refine WQ_any ?_
              refine WA_step (rs := [6]) (by kernel_rfl) (by simp) ?_
              simp only [List.forall_mem_cons, List.not_mem_nil, false_imp_iff, implies_true, and_true]
              · refine ⟨_, rfl, ?_⟩
                refine WL_part rfl rfl rfl ?_ ?_
                · intro h22
                  try (first | replace h22 := of_decide_eq_true h22 | replace h22 := of_nd_true h22)
                  refine WL_yes rfl rfl rfl (Ex_field (ff rfl) rfl) ?_
                  refine WL_nil ?_
                  refine WQ_any ?_
                  refine WA_step (rs := [7]) (by kernel_rfl) (by simp) ?_
                  simp only [List.forall_mem_cons, List.not_mem_nil, false_imp_iff, implies_true, and_true]
                  · refine ⟨_, rfl, ?_⟩
                    refine WL_yes rfl rfl rfl (Ex_load (t1 rfl) rfl (cell_mine 0 rfl rfl)) ?_
                    refine WL_nil ?_
                    refine WQ_any ?_
                    refine WA_step (rs := [8]) (by kernel_rfl) (by simp) ?_
                    simp only [List.forall_mem_cons, List.not_mem_nil, false_imp_iff, implies_true, and_true]
                    · refine ⟨_, rfl, ?_⟩
                      refine WL_yes rfl rfl rfl (Ex_leq rfl rfl) ?_
                      refine WL_nil ?_
                      refine WQ_any ?_
                      refine WA_step (rs := [9]) (by kernel_rfl) (by simp) ?_
                      simp only [List.forall_mem_cons, List.not_mem_nil, false_imp_iff, implies_true, and_true]
                      · refine ⟨_, rfl, ?_⟩
                        refine WL_op rfl (Ex_pickT rfl rfl) ?_
                        refine WL_nil ?_
                        refine WQ_any ?_
                        refine WA_step (rs := [10]) (by kernel_rfl) (by simp) ?_
                        simp only [List.forall_mem_cons, List.not_mem_nil, false_imp_iff, implies_true, and_true]
                        · refine ⟨_, rfl, ?_⟩
                          refine WL_callP fn111 rfl rfl (fun w _ => must_any _ w) ?_ ?_
                          rotate_left
                          · intro o23
                            try (first | replace o23 := of_decide_eq_false o23 | replace o23 := of_nd_false o23)
                            refine WQ_pan ?_
                            refine WQ_pan ?_
                            refine PP_dies ?_
                            first | (simp_all; done) | (simp_all; omega)
                          intro o23
                          try (first | replace o23 := of_decide_eq_true o23 | replace o23 := of_nd_true o23)
                          refine WL_nil ?_
                          refine WQ_any ?_
                          refine WA_done (by kernel_rfl) ?_
                          refine WQ_next ?_
                          refine WC_seq ?_
                          refine WC_region ?_
                          refine WL_op rfl (Ex_field (ff rfl) rfl) ?_
                          refine WL_op rfl (Ex_load (t1 rfl) rfl (cell_mine 0 rfl rfl)) ?_
                          refine WL_op rfl (Ex_leq rfl rfl) ?_
                          refine WL_op rfl (Ex_move rfl) ?_
                          refine WL_part rfl rfl rfl ?_ ?_
                          · intro h24
                            try (first | replace h24 := of_decide_eq_true h24 | replace h24 := of_nd_true h24)
                            refine WL_yes rfl rfl rfl (Ex_field (ff rfl) rfl) ?_
                            refine WL_yes rfl rfl rfl (Ex_load (t1 rfl) rfl (cell_mine 0 rfl rfl)) ?_
                            refine WL_yes rfl rfl rfl (Ex_leq rfl rfl) ?_
                            refine WL_op rfl (Ex_pickT rfl rfl) ?_
                            refine WL_callP fn111 rfl rfl (fun w _ => must_any _ w) ?_ ?_
                            rotate_left
                            · intro o25
                              try (first | replace o25 := of_decide_eq_false o25 | replace o25 := of_nd_false o25)
                              refine WQ_pan ?_
                              refine PP_dies ?_
                              first | (simp_all; done) | (simp_all; omega)
                            intro o25
                            try (first | replace o25 := of_decide_eq_true o25 | replace o25 := of_nd_true o25)
                            refine WL_nil ?_
                            refine WQ_next ?_
                            refine WC_seq ?_
                            refine WC_region ?_
                            refine WL_op rfl (Ex_loadM (tn rfl) rfl 0 rfl rfl) ?_
                            refine WL_callP fn321 rfl rfl (fun w hs => mustBeCode_any m _ _ _ _ w (hm0.out.mono (lowOf hs))) ?_ ?_
                            rotate_left
                            · intro o26
                              try (first | replace o26 := of_decide_eq_false o26 | replace o26 := of_nd_false o26)
                              refine WQ_pan ?_
                              refine PP_dies ?_
                              first | (simp_all; done) | (simp_all; omega)
                            intro o26
                            try (first | replace o26 := of_decide_eq_true o26 | replace o26 := of_nd_true o26)
                            refine WL_nil ?_
                            refine WQ_next ?_
                            refine WC_seq ?_
                            refine WC_region ?_
                            refine WL_op rfl (Ex_loadM (tn rfl) rfl 0 rfl rfl) ?_
                            refine WL_callP fn322 rfl rfl (fun w hs => mustBeHandlers_any m _ _ _ _ w (hm0.out.mono (lowOf hs))) ?_ ?_
                            rotate_left
                            · intro o27
                              try (first | replace o27 := of_decide_eq_false o27 | replace o27 := of_nd_false o27)
                              refine WQ_pan ?_
                              refine PP_dies ?_
                              first | (simp_all; done) | (simp_all; omega)
                            intro o27
                            try (first | replace o27 := of_decide_eq_true o27 | replace o27 := of_nd_true o27)
                            refine WL_nil ?_
                            refine WQ_next ?_
                            refine WC_region ?_
                            refine WL_op rfl (Ex_loadM (tn rfl) rfl 0 rfl rfl) ?_
                            refine WL_callP fn323 rfl rfl (fun w hs => mustBeFrames_any m _ _ _ _ w (hm0.out.mono (lowOf hs))) ?_ ?_
                            rotate_left
                            · intro o28
                              try (first | replace o28 := of_decide_eq_false o28 | replace o28 := of_nd_false o28)
                              refine PP_dies ?_
                              first | (simp_all; done) | (simp_all; omega)
                            intro o28
                            try (first | replace o28 := of_decide_eq_true o28 | replace o28 := of_nd_true o28)
                            refine WL_nil ?_
                            refine PP_end rfl ?_
                            first | (simp_all; done) | (simp_all; omega)
                          · intro h24
                            try (first | replace h24 := of_decide_eq_false h24 | replace h24 := of_nd_false h24)
                            refine WL_no rfl rfl rfl ?_
                            refine WL_no rfl rfl rfl ?_
                            refine WL_no rfl rfl rfl ?_
                            refine WL_op rfl (Ex_pickF rfl rfl) ?_
                            refine WL_callP fn111 rfl rfl (fun w _ => must_any _ w) ?_ ?_
                            · intro o29; cases o29
                            intro _
                            refine WQ_pan ?_
                            refine PP_dies ?_
                            first | (simp_all; done) | (simp_all; omega)
                · intro h22
                  try (first | replace h22 := of_decide_eq_false h22 | replace h22 := of_nd_false h22)
                  refine WL_no rfl rfl rfl ?_
                  refine WL_nil ?_
                  refine WQ_any ?_
                  refine WA_step (rs := [7]) (by kernel_rfl) (by simp) ?_
                  simp only [List.forall_mem_cons, List.not_mem_nil, false_imp_iff, implies_true, and_true]
                  · refine ⟨_, rfl, ?_⟩
                    refine WL_no rfl rfl rfl ?_
                    refine WL_nil ?_
                    refine WQ_any ?_
                    refine WA_step (rs := [8]) (by kernel_rfl) (by simp) ?_
                    simp only [List.forall_mem_cons, List.not_mem_nil, false_imp_iff, implies_true, and_true]
                    · refine ⟨_, rfl, ?_⟩
                      refine WL_no rfl rfl rfl ?_
                      refine WL_nil ?_
                      refine WQ_any ?_
                      refine WA_step (rs := [9]) (by kernel_rfl) (by simp) ?_
                      simp only [List.forall_mem_cons, List.not_mem_nil, false_imp_iff, implies_true, and_true]
                      · refine ⟨_, rfl, ?_⟩
                        refine WL_op rfl (Ex_pickF rfl rfl) ?_
                        refine WL_nil ?_
                        refine WQ_any ?_
                        refine WA_step (rs := [10]) (by kernel_rfl) (by simp) ?_
                        simp only [List.forall_mem_cons, List.not_mem_nil, false_imp_iff, implies_true, and_true]
                        · refine ⟨_, rfl, ?_⟩
                          refine WL_callP fn111 rfl rfl (fun w _ => must_any _ w) ?_ ?_
                          · intro o30; cases o30
                          intro _
                          refine WQ_pan ?_
                          refine WQ_pan ?_
                          refine PP_dies ?_
                          first | (simp_all; done) | (simp_all; omega)
  · refine ⟨_, rfl, ?_⟩
    refine WL_op rfl (Ex_field (ff rfl) rfl) ?_
    refine WL_nil ?_
    refine WQ_any ?_
    refine WA_step (rs := [0, 3]) (by kernel_rfl) (by simp) ?_
    simp only [List.forall_mem_cons, List.not_mem_nil, false_imp_iff, implies_true, and_true]
    refine ⟨?_, ?_⟩
    · refine ⟨_, rfl, ?_⟩
      refine WL_op rfl (Ex_loadM (tn rfl) rfl 0 rfl rfl) ?_
      refine WL_nil ?_
      refine WQ_any ?_
      refine WA_step (rs := [1, 3]) (by kernel_rfl) (by simp) ?_
      simp only [List.forall_mem_cons, List.not_mem_nil, false_imp_iff, implies_true, and_true]
      refine ⟨?_, ?_⟩
      · refine ⟨_, rfl, ?_⟩
        refine WL_call fn320 rfl rfl (fun w _ => neededLocals_any m _ _ _ _ _ w hl1.1) ?_
        refine WL_nil ?_
        refine WQ_any ?_
        refine WA_step (rs := [3]) (by kernel_rfl) (by simp) ?_
        simp only [List.forall_mem_cons, List.not_mem_nil, false_imp_iff, implies_true, and_true]
        · refine ⟨_, rfl, ?_⟩
          refine WL_op rfl (Ex_load (t1 rfl) rfl (cell_mine 0 rfl rfl)) ?_
          refine WL_nil ?_
          refine WQ_any ?_
          refine WA_step (rs := [4]) (by kernel_rfl) (by simp) ?_
          simp only [List.forall_mem_cons, List.not_mem_nil, false_imp_iff, implies_true, and_true]
          · refine ⟨_, rfl, ?_⟩
            refine WL_op rfl (Ex_leq rfl rfl) ?_
            refine WL_nil ?_
            refine WQ_any ?_
            refine WA_step (rs := [5]) (by kernel_rfl) (by simp) ?_
            simp only [List.forall_mem_cons, List.not_mem_nil, false_imp_iff, implies_true, and_true]
            · refine ⟨_, rfl, ?_⟩
              refine WL_op rfl (Ex_move rfl) ?_
              refine WL_nil ?_
              refine WQ_any ?_
              refine WA_step (rs := [6]) (by kernel_rfl) (by simp) ?_
              simp only [List.forall_mem_cons, List.not_mem_nil, false_imp_iff, implies_true, and_true]
              · refine ⟨_, rfl, ?_⟩
                refine WL_part rfl rfl rfl ?_ ?_
                · intro h31
                  try (first | replace h31 := of_decide_eq_true h31 | replace h31 := of_nd_true h31)
                  refine WL_yes rfl rfl rfl (Ex_field (ff rfl) rfl) ?_
                  refine WL_nil ?_
                  refine WQ_any ?_
                  refine WA_step (rs := [7]) (by kernel_rfl) (by simp) ?_
                  simp only [List.forall_mem_cons, List.not_mem_nil, false_imp_iff, implies_true, and_true]
                  · refine ⟨_, rfl, ?_⟩
                    refine WL_yes rfl rfl rfl (Ex_load (t1 rfl) rfl (cell_mine 0 rfl rfl)) ?_
                    refine WL_nil ?_
                    refine WQ_any ?_
                    refine WA_step (rs := [8]) (by kernel_rfl) (by simp) ?_
                    simp only [List.forall_mem_cons, List.not_mem_nil, false_imp_iff, implies_true, and_true]
                    · refine ⟨_, rfl, ?_⟩
                      refine WL_yes rfl rfl rfl (Ex_leq rfl rfl) ?_
                      refine WL_nil ?_
                      refine WQ_any ?_
                      refine WA_step (rs := [9]) (by kernel_rfl) (by simp) ?_
                      simp only [List.forall_mem_cons, List.not_mem_nil, false_imp_iff, implies_true, and_true]
                      · refine ⟨_, rfl, ?_⟩
                        refine WL_op rfl (Ex_pickT rfl rfl) ?_
                        refine WL_nil ?_
                        refine WQ_any ?_
                        refine WA_step (rs := [10]) (by kernel_rfl) (by simp) ?_
                        simp only [List.forall_mem_cons, List.not_mem_nil, false_imp_iff, implies_true, and_true]
                        · refine ⟨_, rfl, ?_⟩
                          refine WL_callP fn111 rfl rfl (fun w _ => must_any _ w) ?_ ?_
                          rotate_left
                          · intro o32
                            try (first | replace o32 := of_decide_eq_false o32 | replace o32 := of_nd_false o32)
                            refine WQ_pan ?_
                            refine WQ_pan ?_
                            refine PP_dies ?_
                            first | (simp_all; done) | (simp_all; omega)
                          intro o32
                          try (first | replace o32 := of_decide_eq_true o32 | replace o32 := of_nd_true o32)
                          refine WL_nil ?_
                          refine WQ_any ?_
                          refine WA_done (by kernel_rfl) ?_
                          refine WQ_next ?_
                          refine WC_seq ?_
                          refine WC_region ?_
                          refine WL_op rfl (Ex_field (ff rfl) rfl) ?_
                          refine WL_op rfl (Ex_load (t1 rfl) rfl (cell_mine 0 rfl rfl)) ?_
                          refine WL_op rfl (Ex_leq rfl rfl) ?_
                          refine WL_op rfl (Ex_move rfl) ?_
                          refine WL_part rfl rfl rfl ?_ ?_
                          · intro h33
                            try (first | replace h33 := of_decide_eq_true h33 | replace h33 := of_nd_true h33)
                            refine WL_yes rfl rfl rfl (Ex_field (ff rfl) rfl) ?_
                            refine WL_yes rfl rfl rfl (Ex_load (t1 rfl) rfl (cell_mine 0 rfl rfl)) ?_
                            refine WL_yes rfl rfl rfl (Ex_leq rfl rfl) ?_
                            refine WL_op rfl (Ex_pickT rfl rfl) ?_
                            refine WL_callP fn111 rfl rfl (fun w _ => must_any _ w) ?_ ?_
                            rotate_left
                            · intro o34
                              try (first | replace o34 := of_decide_eq_false o34 | replace o34 := of_nd_false o34)
                              refine WQ_pan ?_
                              refine PP_dies ?_
                              first | (simp_all; done) | (simp_all; omega)
                            intro o34
                            try (first | replace o34 := of_decide_eq_true o34 | replace o34 := of_nd_true o34)
                            refine WL_nil ?_
                            refine WQ_next ?_
                            refine WC_seq ?_
                            refine WC_region ?_
                            refine WL_op rfl (Ex_loadM (tn rfl) rfl 0 rfl rfl) ?_
                            refine WL_callP fn321 rfl rfl (fun w hs => mustBeCode_any m _ _ _ _ w (hm0.out.mono (lowOf hs))) ?_ ?_
                            rotate_left
                            · intro o35
                              try (first | replace o35 := of_decide_eq_false o35 | replace o35 := of_nd_false o35)
                              refine WQ_pan ?_
                              refine PP_dies ?_
                              first | (simp_all; done) | (simp_all; omega)
                            intro o35
                            try (first | replace o35 := of_decide_eq_true o35 | replace o35 := of_nd_true o35)
                            refine WL_nil ?_
                            refine WQ_next ?_
                            refine WC_seq ?_
                            refine WC_region ?_
                            refine WL_op rfl (Ex_loadM (tn rfl) rfl 0 rfl rfl) ?_
                            refine WL_callP fn322 rfl rfl (fun w hs => mustBeHandlers_any m _ _ _ _ w (hm0.out.mono (lowOf hs))) ?_ ?_
                            rotate_left
                            · intro o36
                              try (first | replace o36 := of_decide_eq_false o36 | replace o36 := of_nd_false o36)
                              refine WQ_pan ?_
                              refine PP_dies ?_
                              first | (simp_all; done) | (simp_all; omega)
                            intro o36
                            try (first | replace o36 := of_decide_eq_true o36 | replace o36 := of_nd_true o36)
                            refine WL_nil ?_
                            refine WQ_next ?_
                            refine WC_region ?_
                            refine WL_op rfl (Ex_loadM (tn rfl) rfl 0 rfl rfl) ?_
                            refine WL_callP fn323 rfl rfl (fun w hs => mustBeFrames_any m _ _ _ _ w (hm0.out.mono (lowOf hs))) ?_ ?_
                            rotate_left
                            · intro o37
                              try (first | replace o37 := of_decide_eq_false o37 | replace o37 := of_nd_false o37)
                              refine PP_dies ?_
                              first | (simp_all; done) | (simp_all; omega)
                            intro o37
                            try (first | replace o37 := of_decide_eq_true o37 | replace o37 := of_nd_true o37)
                            refine WL_nil ?_
                            refine PP_end rfl ?_
                            first | (simp_all; done) | (simp_all; omega)
                          · intro h33
                            try (first | replace h33 := of_decide_eq_false h33 | replace h33 := of_nd_false h33)
                            refine WL_no rfl rfl rfl ?_
                            refine WL_no rfl rfl rfl ?_
                            refine WL_no rfl rfl rfl ?_
                            refine WL_op rfl (Ex_pickF rfl rfl) ?_
                            refine WL_callP fn111 rfl rfl (fun w _ => must_any _ w) ?_ ?_
                            · intro o38; cases o38
                            intro _
                            refine WQ_pan ?_
                            refine PP_dies ?_
                            first | (simp_all; done) | (simp_all; omega)
                · intro h31
                  try (first | replace h31 := of_decide_eq_false h31 | replace h31 := of_nd_false h31)
                  refine WL_no rfl rfl rfl ?_
                  refine WL_nil ?_
                  refine WQ_any ?_
                  refine WA_step (rs := [7]) (by kernel_rfl) (by simp) ?_
                  simp only [List.forall_mem_cons, List.not_mem_nil, false_imp_iff, implies_true, and_true]
                  · refine ⟨_, rfl, ?_⟩
                    refine WL_no rfl rfl rfl ?_
                    refine WL_nil ?_
                    refine WQ_any ?_
                    refine WA_step (rs := [8]) (by kernel_rfl) (by simp) ?_
                    simp only [List.forall_mem_cons, List.not_mem_nil, false_imp_iff, implies_true, and_true]
                    · refine ⟨_, rfl, ?_⟩
                      refine WL_no rfl rfl rfl ?_
                      refine WL_nil ?_
                      refine WQ_any ?_
                      refine WA_step (rs := [9]) (by kernel_rfl) (by simp) ?_
                      simp only [List.forall_mem_cons, List.not_mem_nil, false_imp_iff, implies_true, and_true]
                      · refine ⟨_, rfl, ?_⟩
                        refine WL_op rfl (Ex_pickF rfl rfl) ?_
                        refine WL_nil ?_
                        refine WQ_any ?_
                        refine WA_step (rs := [10]) (by kernel_rfl) (by simp) ?_
                        simp only [List.forall_mem_cons, List.not_mem_nil, false_imp_iff, implies_true, and_true]
                        · refine ⟨_, rfl, ?_⟩
                          refine WL_callP fn111 rfl rfl (fun w _ => must_any _ w) ?_ ?_
                          · intro o39; cases o39
                          intro _
                          refine WQ_pan ?_
                          refine WQ_pan ?_
                          refine PP_dies ?_
                          first | (simp_all; done) | (simp_all; omega)
      · refine ⟨_, rfl, ?_⟩
        refine WL_op rfl (Ex_load (t1 rfl) rfl (cell_mine 0 rfl rfl)) ?_
        refine WL_nil ?_
        refine WQ_any ?_
        refine WA_step (rs := [1]) (by kernel_rfl) (by simp) ?_
        simp only [List.forall_mem_cons, List.not_mem_nil, false_imp_iff, implies_true, and_true]
        · refine ⟨_, rfl, ?_⟩
          refine WL_call fn320 rfl rfl (fun w _ => neededLocals_any m _ _ _ _ _ w hl1.1) ?_
          refine WL_nil ?_
          refine WQ_any ?_
          refine WA_step (rs := [4]) (by kernel_rfl) (by simp) ?_
          simp only [List.forall_mem_cons, List.not_mem_nil, false_imp_iff, implies_true, and_true]
          · refine ⟨_, rfl, ?_⟩
            refine WL_op rfl (Ex_leq rfl rfl) ?_
            refine WL_nil ?_
            refine WQ_any ?_
            refine WA_step (rs := [5]) (by kernel_rfl) (by simp) ?_
            simp only [List.forall_mem_cons, List.not_mem_nil, false_imp_iff, implies_true, and_true]
            · refine ⟨_, rfl, ?_⟩
              refine WL_op rfl (Ex_move rfl) ?_
              refine WL_nil ?_
              refine WQ_any ?_
              refine WA_step (rs := [6]) (by kernel_rfl) (by simp) ?_
              simp only [List.forall_mem_cons, List.not_mem_nil, false_imp_iff, implies_true, and_true]
              · refine ⟨_, rfl, ?_⟩
                refine WL_part rfl rfl rfl ?_ ?_
                · intro h40
                  try (first | replace h40 := of_decide_eq_true h40 | replace h40 := of_nd_true h40)
                  refine WL_yes rfl rfl rfl (Ex_field (ff rfl) rfl) ?_
                  refine WL_nil ?_
                  refine WQ_any ?_
                  refine WA_step (rs := [7]) (by kernel_rfl) (by simp) ?_
                  simp only [List.forall_mem_cons, List.not_mem_nil, false_imp_iff, implies_true, and_true]
                  · refine ⟨_, rfl, ?_⟩
                    refine WL_yes rfl rfl rfl (Ex_load (t1 rfl) rfl (cell_mine 0 rfl rfl)) ?_
                    refine WL_nil ?_
                    refine WQ_any ?_
                    refine WA_step (rs := [8]) (by kernel_rfl) (by simp) ?_
                    simp only [List.forall_mem_cons, List.not_mem_nil, false_imp_iff, implies_true, and_true]
                    · refine ⟨_, rfl, ?_⟩
                      refine WL_yes rfl rfl rfl (Ex_leq rfl rfl) ?_
                      refine WL_nil ?_
                      refine WQ_any ?_
                      refine WA_step (rs := [9]) (by kernel_rfl) (by simp) ?_
                      simp only [List.forall_mem_cons, List.not_mem_nil, false_imp_iff, implies_true, and_true]
                      · refine ⟨_, rfl, ?_⟩
                        refine WL_op rfl (Ex_pickT rfl rfl) ?_
                        refine WL_nil ?_
                        refine WQ_any ?_
                        refine WA_step (rs := [10]) (by kernel_rfl) (by simp) ?_
                        simp only [List.forall_mem_cons, List.not_mem_nil, false_imp_iff, implies_true, and_true]
                        · refine ⟨_, rfl, ?_⟩
                          refine WL_callP fn111 rfl rfl (fun w _ => must_any _ w) ?_ ?_
                          rotate_left
                          · intro o41
                            try (first | replace o41 := of_decide_eq_false o41 | replace o41 := of_nd_false o41)
                            refine WQ_pan ?_
                            refine WQ_pan ?_
                            refine PP_dies ?_
                            first | (simp_all; done) | (simp_all; omega)
                          intro o41
                          try (first | replace o41 := of_decide_eq_true o41 | replace o41 := of_nd_true o41)
                          refine WL_nil ?_
                          refine WQ_any ?_
                          refine WA_done (by kernel_rfl) ?_
                          refine WQ_next ?_
                          refine WC_seq ?_
                          refine WC_region ?_
                          refine WL_op rfl (Ex_field (ff rfl) rfl) ?_
                          refine WL_op rfl (Ex_load (t1 rfl) rfl (cell_mine 0 rfl rfl)) ?_
                          refine WL_op rfl (Ex_leq rfl rfl) ?_
                          refine WL_op rfl (Ex_move rfl) ?_
                          refine WL_part rfl rfl rfl ?_ ?_
                          · intro h42
                            try (first | replace h42 := of_decide_eq_true h42 | replace h42 := of_nd_true h42)
                            refine WL_yes rfl rfl rfl (Ex_field (ff rfl) rfl) ?_
                            refine WL_yes rfl rfl rfl (Ex_load (t1 rfl) rfl (cell_mine 0 rfl rfl)) ?_
                            refine WL_yes rfl rfl rfl (Ex_leq rfl rfl) ?_
                            refine WL_op rfl (Ex_pickT rfl rfl) ?_
                            refine WL_callP fn111 rfl rfl (fun w _ => must_any _ w) ?_ ?_
                            rotate_left
                            · intro o43
                              try (first | replace o43 := of_decide_eq_false o43 | replace o43 := of_nd_false o43)
                              refine WQ_pan ?_
                              refine PP_dies ?_
                              first | (simp_all; done) | (simp_all; omega)
                            intro o43
                            try (first | replace o43 := of_decide_eq_true o43 | replace o43 := of_nd_true o43)
                            refine WL_nil ?_
                            refine WQ_next ?_
                            refine WC_seq ?_
                            refine WC_region ?_
                            refine WL_op rfl (Ex_loadM (tn rfl) rfl 0 rfl rfl) ?_
                            refine WL_callP fn321 rfl rfl (fun w hs => mustBeCode_any m _ _ _ _ w (hm0.out.mono (lowOf hs))) ?_ ?_
                            rotate_left
                            · intro o44
                              try (first | replace o44 := of_decide_eq_false o44 | replace o44 := of_nd_false o44)
                              refine WQ_pan ?_
                              refine PP_dies ?_
                              first | (simp_all; done) | (simp_all; omega)
                            intro o44
                            try (first | replace o44 := of_decide_eq_true o44 | replace o44 := of_nd_true o44)
                            refine WL_nil ?_
                            refine WQ_next ?_
                            refine WC_seq ?_
                            refine WC_region ?_
                            refine WL_op rfl (Ex_loadM (tn rfl) rfl 0 rfl rfl) ?_
                            refine WL_callP fn322 rfl rfl (fun w hs => mustBeHandlers_any m _ _ _ _ w (hm0.out.mono (lowOf hs))) ?_ ?_
                            rotate_left
                            · intro o45
                              try (first | replace o45 := of_decide_eq_false o45 | replace o45 := of_nd_false o45)
                              refine WQ_pan ?_
                              refine PP_dies ?_
                              first | (simp_all; done) | (simp_all; omega)
                            intro o45
                            try (first | replace o45 := of_decide_eq_true o45 | replace o45 := of_nd_true o45)
                            refine WL_nil ?_
                            refine WQ_next ?_
                            refine WC_region ?_
                            refine WL_op rfl (Ex_loadM (tn rfl) rfl 0 rfl rfl) ?_
                            refine WL_callP fn323 rfl rfl (fun w hs => mustBeFrames_any m _ _ _ _ w (hm0.out.mono (lowOf hs))) ?_ ?_
                            rotate_left
                            · intro o46
                              try (first | replace o46 := of_decide_eq_false o46 | replace o46 := of_nd_false o46)
                              refine PP_dies ?_
                              first | (simp_all; done) | (simp_all; omega)
                            intro o46
                            try (first | replace o46 := of_decide_eq_true o46 | replace o46 := of_nd_true o46)
                            refine WL_nil ?_
                            refine PP_end rfl ?_
                            first | (simp_all; done) | (simp_all; omega)
                          · intro h42
                            try (first | replace h42 := of_decide_eq_false h42 | replace h42 := of_nd_false h42)
                            refine WL_no rfl rfl rfl ?_
                            refine WL_no rfl rfl rfl ?_
                            refine WL_no rfl rfl rfl ?_
                            refine WL_op rfl (Ex_pickF rfl rfl) ?_
                            refine WL_callP fn111 rfl rfl (fun w _ => must_any _ w) ?_ ?_
                            · intro o47; cases o47
                            intro _
                            refine WQ_pan ?_
                            refine PP_dies ?_
                            first | (simp_all; done) | (simp_all; omega)
                · intro h40
                  try (first | replace h40 := of_decide_eq_false h40 | replace h40 := of_nd_false h40)
                  refine WL_no rfl rfl rfl ?_
                  refine WL_nil ?_
                  refine WQ_any ?_
                  refine WA_step (rs := [7]) (by kernel_rfl) (by simp) ?_
                  simp only [List.forall_mem_cons, List.not_mem_nil, false_imp_iff, implies_true, and_true]
                  · refine ⟨_, rfl, ?_⟩
                    refine WL_no rfl rfl rfl ?_
                    refine WL_nil ?_
                    refine WQ_any ?_
                    refine WA_step (rs := [8]) (by kernel_rfl) (by simp) ?_
                    simp only [List.forall_mem_cons, List.not_mem_nil, false_imp_iff, implies_true, and_true]
                    · refine ⟨_, rfl, ?_⟩
                      refine WL_no rfl rfl rfl ?_
                      refine WL_nil ?_
                      refine WQ_any ?_
                      refine WA_step (rs := [9]) (by kernel_rfl) (by simp) ?_
                      simp only [List.forall_mem_cons, List.not_mem_nil, false_imp_iff, implies_true, and_true]
                      · refine ⟨_, rfl, ?_⟩
                        refine WL_op rfl (Ex_pickF rfl rfl) ?_
                        refine WL_nil ?_
                        refine WQ_any ?_
                        refine WA_step (rs := [10]) (by kernel_rfl) (by simp) ?_
                        simp only [List.forall_mem_cons, List.not_mem_nil, false_imp_iff, implies_true, and_true]
                        · refine ⟨_, rfl, ?_⟩
                          refine WL_callP fn111 rfl rfl (fun w _ => must_any _ w) ?_ ?_
                          · intro o48; cases o48
                          intro _
                          refine WQ_pan ?_
                          refine WQ_pan ?_
                          refine PP_dies ?_
                          first | (simp_all; done) | (simp_all; omega)
    · refine ⟨_, rfl, ?_⟩
      refine WL_op rfl (Ex_load (t1 rfl) rfl (cell_mine 0 rfl rfl)) ?_
      refine WL_nil ?_
      refine WQ_any ?_
      refine WA_step (rs := [0]) (by kernel_rfl) (by simp) ?_
      simp only [List.forall_mem_cons, List.not_mem_nil, false_imp_iff, implies_true, and_true]
      · refine ⟨_, rfl, ?_⟩
        refine WL_op rfl (Ex_loadM (tn rfl) rfl 0 rfl rfl) ?_
        refine WL_nil ?_
        refine WQ_any ?_
        refine WA_step (rs := [1]) (by kernel_rfl) (by simp) ?_
        simp only [List.forall_mem_cons, List.not_mem_nil, false_imp_iff, implies_true, and_true]
        · refine ⟨_, rfl, ?_⟩
          refine WL_call fn320 rfl rfl (fun w _ => neededLocals_any m _ _ _ _ _ w hl1.1) ?_
          refine WL_nil ?_
          refine WQ_any ?_
          refine WA_step (rs := [4]) (by kernel_rfl) (by simp) ?_
          simp only [List.forall_mem_cons, List.not_mem_nil, false_imp_iff, implies_true, and_true]
          · refine ⟨_, rfl, ?_⟩
            refine WL_op rfl (Ex_leq rfl rfl) ?_
            refine WL_nil ?_
            refine WQ_any ?_
            refine WA_step (rs := [5]) (by kernel_rfl) (by simp) ?_
            simp only [List.forall_mem_cons, List.not_mem_nil, false_imp_iff, implies_true, and_true]
            · refine ⟨_, rfl, ?_⟩
              refine WL_op rfl (Ex_move rfl) ?_
              refine WL_nil ?_
              refine WQ_any ?_
              refine WA_step (rs := [6]) (by kernel_rfl) (by simp) ?_
              simp only [List.forall_mem_cons, List.not_mem_nil, false_imp_iff, implies_true, and_true]
              · refine ⟨_, rfl, ?_⟩
                refine WL_part rfl rfl rfl ?_ ?_
                · intro h49
                  try (first | replace h49 := of_decide_eq_true h49 | replace h49 := of_nd_true h49)
                  refine WL_yes rfl rfl rfl (Ex_field (ff rfl) rfl) ?_
                  refine WL_nil ?_
                  refine WQ_any ?_
                  refine WA_step (rs := [7]) (by kernel_rfl) (by simp) ?_
                  simp only [List.forall_mem_cons, List.not_mem_nil, false_imp_iff, implies_true, and_true]
                  · refine ⟨_, rfl, ?_⟩
                    refine WL_yes rfl rfl rfl (Ex_load (t1 rfl) rfl (cell_mine 0 rfl rfl)) ?_
                    refine WL_nil ?_
                    refine WQ_any ?_
                    refine WA_step (rs := [8]) (by kernel_rfl) (by simp) ?_
                    simp only [List.forall_mem_cons, List.not_mem_nil, false_imp_iff, implies_true, and_true]
                    · refine ⟨_, rfl, ?_⟩
                      refine WL_yes rfl rfl rfl (Ex_leq rfl rfl) ?_
                      refine WL_nil ?_
                      refine WQ_any ?_
                      refine WA_step (rs := [9]) (by kernel_rfl) (by simp) ?_
                      simp only [List.forall_mem_cons, List.not_mem_nil, false_imp_iff, implies_true, and_true]
                      · refine ⟨_, rfl, ?_⟩
                        refine WL_op rfl (Ex_pickT rfl rfl) ?_
                        refine WL_nil ?_
                        refine WQ_any ?_
                        refine WA_step (rs := [10]) (by kernel_rfl) (by simp) ?_
                        simp only [List.forall_mem_cons, List.not_mem_nil, false_imp_iff, implies_true, and_true]
                        · refine ⟨_, rfl, ?_⟩
                          refine WL_callP fn111 rfl rfl (fun w _ => must_any _ w) ?_ ?_
                          rotate_left
                          · intro o50
                            try (first | replace o50 := of_decide_eq_false o50 | replace o50 := of_nd_false o50)
                            refine WQ_pan ?_
                            refine WQ_pan ?_
                            refine PP_dies ?_
                            first | (simp_all; done) | (simp_all; omega)
                          intro o50
                          try (first | replace o50 := of_decide_eq_true o50 | replace o50 := of_nd_true o50)
                          refine WL_nil ?_
                          refine WQ_any ?_
                          refine WA_done (by kernel_rfl) ?_
                          refine WQ_next ?_
                          refine WC_seq ?_
                          refine WC_region ?_
                          refine WL_op rfl (Ex_field (ff rfl) rfl) ?_
                          refine WL_op rfl (Ex_load (t1 rfl) rfl (cell_mine 0 rfl rfl)) ?_
                          refine WL_op rfl (Ex_leq rfl rfl) ?_
                          refine WL_op rfl (Ex_move rfl) ?_
                          refine WL_part rfl rfl rfl ?_ ?_
                          · intro h51
                            try (first | replace h51 := of_decide_eq_true h51 | replace h51 := of_nd_true h51)
                            refine WL_yes rfl rfl rfl (Ex_field (ff rfl) rfl) ?_
                            refine WL_yes rfl rfl rfl (Ex_load (t1 rfl) rfl (cell_mine 0 rfl rfl)) ?_
                            refine WL_yes rfl rfl rfl (Ex_leq rfl rfl) ?_
                            refine WL_op rfl (Ex_pickT rfl rfl) ?_
                            refine WL_callP fn111 rfl rfl (fun w _ => must_any _ w) ?_ ?_
                            rotate_left
                            · intro o52
                              try (first | replace o52 := of_decide_eq_false o52 | replace o52 := of_nd_false o52)
                              refine WQ_pan ?_
                              refine PP_dies ?_
                              first | (simp_all; done) | (simp_all; omega)
                            intro o52
                            try (first | replace o52 := of_decide_eq_true o52 | replace o52 := of_nd_true o52)
                            refine WL_nil ?_
                            refine WQ_next ?_
                            refine WC_seq ?_
                            refine WC_region ?_
                            refine WL_op rfl (Ex_loadM (tn rfl) rfl 0 rfl rfl) ?_
                            refine WL_callP fn321 rfl rfl (fun w hs => mustBeCode_any m _ _ _ _ w (hm0.out.mono (lowOf hs))) ?_ ?_
                            rotate_left
                            · intro o53
                              try (first | replace o53 := of_decide_eq_false o53 | replace o53 := of_nd_false o53)
                              refine WQ_pan ?_
                              refine PP_dies ?_
                              first | (simp_all; done) | (simp_all; omega)
                            intro o53
                            try (first | replace o53 := of_decide_eq_true o53 | replace o53 := of_nd_true o53)
                            refine WL_nil ?_
                            refine WQ_next ?_
                            refine WC_seq ?_
                            refine WC_region ?_
                            refine WL_op rfl (Ex_loadM (tn rfl) rfl 0 rfl rfl) ?_
                            refine WL_callP fn322 rfl rfl (fun w hs => mustBeHandlers_any m _ _ _ _ w (hm0.out.mono (lowOf hs))) ?_ ?_
                            rotate_left
                            · intro o54
                              try (first | replace o54 := of_decide_eq_false o54 | replace o54 := of_nd_false o54)
                              refine WQ_pan ?_
                              refine PP_dies ?_
                              first | (simp_all; done) | (simp_all; omega)
                            intro o54
                            try (first | replace o54 := of_decide_eq_true o54 | replace o54 := of_nd_true o54)
                            refine WL_nil ?_
                            refine WQ_next ?_
                            refine WC_region ?_
                            refine WL_op rfl (Ex_loadM (tn rfl) rfl 0 rfl rfl) ?_
                            refine WL_callP fn323 rfl rfl (fun w hs => mustBeFrames_any m _ _ _ _ w (hm0.out.mono (lowOf hs))) ?_ ?_
                            rotate_left
                            · intro o55
                              try (first | replace o55 := of_decide_eq_false o55 | replace o55 := of_nd_false o55)
                              refine PP_dies ?_
                              first | (simp_all; done) | (simp_all; omega)
                            intro o55
                            try (first | replace o55 := of_decide_eq_true o55 | replace o55 := of_nd_true o55)
                            refine WL_nil ?_
                            refine PP_end rfl ?_
                            first | (simp_all; done) | (simp_all; omega)
                          · intro h51
                            try (first | replace h51 := of_decide_eq_false h51 | replace h51 := of_nd_false h51)
                            refine WL_no rfl rfl rfl ?_
                            refine WL_no rfl rfl rfl ?_
                            refine WL_no rfl rfl rfl ?_
                            refine WL_op rfl (Ex_pickF rfl rfl) ?_
                            refine WL_callP fn111 rfl rfl (fun w _ => must_any _ w) ?_ ?_
                            · intro o56; cases o56
                            intro _
                            refine WQ_pan ?_
                            refine PP_dies ?_
                            first | (simp_all; done) | (simp_all; omega)
                · intro h49
                  try (first | replace h49 := of_decide_eq_false h49 | replace h49 := of_nd_false h49)
                  refine WL_no rfl rfl rfl ?_
                  refine WL_nil ?_
                  refine WQ_any ?_
                  refine WA_step (rs := [7]) (by kernel_rfl) (by simp) ?_
                  simp only [List.forall_mem_cons, List.not_mem_nil, false_imp_iff, implies_true, and_true]
                  · refine ⟨_, rfl, ?_⟩
                    refine WL_no rfl rfl rfl ?_
                    refine WL_nil ?_
                    refine WQ_any ?_
                    refine WA_step (rs := [8]) (by kernel_rfl) (by simp) ?_
                    simp only [List.forall_mem_cons, List.not_mem_nil, false_imp_iff, implies_true, and_true]
                    · refine ⟨_, rfl, ?_⟩
                      refine WL_no rfl rfl rfl ?_
                      refine WL_nil ?_
                      refine WQ_any ?_
                      refine WA_step (rs := [9]) (by kernel_rfl) (by simp) ?_
                      simp only [List.forall_mem_cons, List.not_mem_nil, false_imp_iff, implies_true, and_true]
                      · refine ⟨_, rfl, ?_⟩
                        refine WL_op rfl (Ex_pickF rfl rfl) ?_
                        refine WL_nil ?_
                        refine WQ_any ?_
                        refine WA_step (rs := [10]) (by kernel_rfl) (by simp) ?_
                        simp only [List.forall_mem_cons, List.not_mem_nil, false_imp_iff, implies_true, and_true]
                        · refine ⟨_, rfl, ?_⟩
                          refine WL_callP fn111 rfl rfl (fun w _ => must_any _ w) ?_ ?_
                          · intro o57; cases o57
                          intro _
                          refine WQ_pan ?_
                          refine WQ_pan ?_
                          refine PP_dies ?_
                          first | (simp_all; done) | (simp_all; omega)
end Go.Proofs.YtpofmnfkdkmieaaGreat
