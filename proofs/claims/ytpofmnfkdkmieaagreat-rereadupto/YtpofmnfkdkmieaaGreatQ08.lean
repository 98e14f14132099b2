/- What is proved here: the program's own asking of instructions, handlers and frames (package shape). -/
import Derived.Test.YtpofmnfkdkmieaaGreatQ07
set_option linter.unusedVariables false
set_option linter.unusedSimpArgs false
namespace Go.Proofs.YtpofmnfkdkmieaaGreat
open Go.RowKit At E

def opdB (op : Int) : Int :=
  if op = 1 then 1 else if op = 2 ∨ op = 3 then 2 else if op = 10 ∨ op = 11 ∨ op = 12 ∨ op = 13 then 3 else if op = 15 ∨ op = 25 ∨ op = 26 then 4
  else if op = 16 ∨ op = 17 ∨ op = 18 ∨ op = 19 then 5 else if op = 20 ∨ op = 21 then 6 else 0
theorem operandOf_any (op : Int) (w : World) : Pure Tryz.prog 284 #[.int .i64 op] w (.int .i64 (opdB op)) := by
  refine opens (args := [.int .i64 op]) Tryz.func284 rfl Tryz.ntmps284 ?_
  refine WC_seq ?_
  refine WC_region ?_
  refine WL_op rfl (Ex_assign rfl) ?_
  refine WL_nil ?_
  refine WQ_next ?_
  refine WC_seq ?_
  refine WC_seq ?_
  refine WC_region ?_
  refine WL_op rfl (Ex_move rfl) ?_
  refine WL_nil ?_
  refine WQ_next ?_
  refine WC_block ?_
  refine WC_seq ?_
  refine WC_region ?_
  refine WL_op rfl (Ex_eql rfl rfl) ?_
  refine WL_op rfl (Ex_assign rfl) ?_
  refine WL_nil ?_
  refine WQ_next ?_
  refine WC_if rfl ?_ ?_  -- cond 1 operand.go:25
  · intro c1
    try (first | replace c1 := of_decide_eq_true c1 | replace c1 := of_nd_true c1)
    refine WC_seq ?_
    refine WC_region ?_
    refine WL_op rfl (Ex_assign rfl) ?_
    refine WL_nil ?_
    refine WQ_next ?_
    refine WC_ret ?_
    refine WQ_ret ?_
    refine WQ_ret ?_
    refine P_end1 rfl rfl ?_
    simp_all [opdB]
  · intro c1
    try (first | replace c1 := of_decide_eq_false c1 | replace c1 := of_nd_false c1)
    refine WC_seq ?_
    refine WC_seq ?_
    refine WC_region ?_
    refine WL_op rfl (Ex_eql rfl rfl) ?_
    refine WL_op rfl (Ex_assign rfl) ?_
    refine WL_nil ?_
    refine WQ_next ?_
    refine WC_if rfl ?_ ?_  -- cond 2 operand.go:27
    · intro c2
      try (first | replace c2 := of_decide_eq_true c2 | replace c2 := of_nd_true c2)
      refine WC_skip ?_
      refine WQ_next ?_
      refine WC_true rfl ?_
      refine WC_seq ?_
      refine WC_region ?_
      refine WL_op rfl (Ex_assign rfl) ?_
      refine WL_nil ?_
      refine WQ_next ?_
      refine WC_ret ?_
      refine WQ_ret ?_
      refine WQ_ret ?_
      refine P_end1 rfl rfl ?_
      simp_all [opdB]
    · intro c2
      try (first | replace c2 := of_decide_eq_false c2 | replace c2 := of_nd_false c2)
      refine WC_region ?_
      refine WL_op rfl (Ex_eql rfl rfl) ?_
      refine WL_op rfl (Ex_assign rfl) ?_
      refine WL_nil ?_
      refine WQ_next ?_
      refine WC_if rfl ?_ ?_  -- cond 3 operand.go:27
      · intro c3
        try (first | replace c3 := of_decide_eq_true c3 | replace c3 := of_nd_true c3)
        refine WC_seq ?_
        refine WC_region ?_
        refine WL_op rfl (Ex_assign rfl) ?_
        refine WL_nil ?_
        refine WQ_next ?_
        refine WC_ret ?_
        refine WQ_ret ?_
        refine WQ_ret ?_
        refine P_end1 rfl rfl ?_
        simp_all [opdB]
      · intro c3
        try (first | replace c3 := of_decide_eq_false c3 | replace c3 := of_nd_false c3)
        refine WC_seq ?_
        refine WC_seq ?_
        refine WC_region ?_
        refine WL_op rfl (Ex_eql rfl rfl) ?_
        refine WL_op rfl (Ex_assign rfl) ?_
        refine WL_nil ?_
        refine WQ_next ?_
        refine WC_if rfl ?_ ?_  -- cond 4 operand.go:29
        · intro c4
          try (first | replace c4 := of_decide_eq_true c4 | replace c4 := of_nd_true c4)
          refine WC_skip ?_
          refine WQ_next ?_
          refine WC_true rfl ?_
          refine WC_seq ?_
          refine WC_region ?_
          refine WL_op rfl (Ex_assign rfl) ?_
          refine WL_nil ?_
          refine WQ_next ?_
          refine WC_ret ?_
          refine WQ_ret ?_
          refine WQ_ret ?_
          refine P_end1 rfl rfl ?_
          simp_all [opdB]
        · intro c4
          try (first | replace c4 := of_decide_eq_false c4 | replace c4 := of_nd_false c4)
          refine WC_seq ?_
          refine WC_region ?_
          refine WL_op rfl (Ex_eql rfl rfl) ?_
          refine WL_op rfl (Ex_assign rfl) ?_
          refine WL_nil ?_
          refine WQ_next ?_
          refine WC_if rfl ?_ ?_  -- cond 5 operand.go:29
          · intro c5
            try (first | replace c5 := of_decide_eq_true c5 | replace c5 := of_nd_true c5)
            refine WC_skip ?_
            refine WQ_next ?_
            refine WC_true rfl ?_
            refine WC_seq ?_
            refine WC_region ?_
            refine WL_op rfl (Ex_assign rfl) ?_
            refine WL_nil ?_
            refine WQ_next ?_
            refine WC_ret ?_
            refine WQ_ret ?_
            refine WQ_ret ?_
            refine P_end1 rfl rfl ?_
            simp_all [opdB]
          · intro c5
            try (first | replace c5 := of_decide_eq_false c5 | replace c5 := of_nd_false c5)
            refine WC_seq ?_
            refine WC_region ?_
            refine WL_op rfl (Ex_eql rfl rfl) ?_
            refine WL_op rfl (Ex_assign rfl) ?_
            refine WL_nil ?_
            refine WQ_next ?_
            refine WC_if rfl ?_ ?_  -- cond 6 operand.go:29
            · intro c6
              try (first | replace c6 := of_decide_eq_true c6 | replace c6 := of_nd_true c6)
              refine WC_skip ?_
              refine WQ_next ?_
              refine WC_true rfl ?_
              refine WC_seq ?_
              refine WC_region ?_
              refine WL_op rfl (Ex_assign rfl) ?_
              refine WL_nil ?_
              refine WQ_next ?_
              refine WC_ret ?_
              refine WQ_ret ?_
              refine WQ_ret ?_
              refine P_end1 rfl rfl ?_
              simp_all [opdB]
            · intro c6
              try (first | replace c6 := of_decide_eq_false c6 | replace c6 := of_nd_false c6)
              refine WC_region ?_
              refine WL_op rfl (Ex_eql rfl rfl) ?_
              refine WL_op rfl (Ex_assign rfl) ?_
              refine WL_nil ?_
              refine WQ_next ?_
              refine WC_if rfl ?_ ?_  -- cond 7 operand.go:29
              · intro c7
                try (first | replace c7 := of_decide_eq_true c7 | replace c7 := of_nd_true c7)
                refine WC_seq ?_
                refine WC_region ?_
                refine WL_op rfl (Ex_assign rfl) ?_
                refine WL_nil ?_
                refine WQ_next ?_
                refine WC_ret ?_
                refine WQ_ret ?_
                refine WQ_ret ?_
                refine P_end1 rfl rfl ?_
                simp_all [opdB]
              · intro c7
                try (first | replace c7 := of_decide_eq_false c7 | replace c7 := of_nd_false c7)
                refine WC_seq ?_
                refine WC_seq ?_
                refine WC_region ?_
                refine WL_op rfl (Ex_eql rfl rfl) ?_
                refine WL_op rfl (Ex_assign rfl) ?_
                refine WL_nil ?_
                refine WQ_next ?_
                refine WC_if rfl ?_ ?_  -- cond 8 operand.go:31
                · intro c8
                  try (first | replace c8 := of_decide_eq_true c8 | replace c8 := of_nd_true c8)
                  refine WC_skip ?_
                  refine WQ_next ?_
                  refine WC_true rfl ?_
                  refine WC_seq ?_
                  refine WC_region ?_
                  refine WL_op rfl (Ex_assign rfl) ?_
                  refine WL_nil ?_
                  refine WQ_next ?_
                  refine WC_ret ?_
                  refine WQ_ret ?_
                  refine WQ_ret ?_
                  refine P_end1 rfl rfl ?_
                  simp_all [opdB]
                · intro c8
                  try (first | replace c8 := of_decide_eq_false c8 | replace c8 := of_nd_false c8)
                  refine WC_seq ?_
                  refine WC_region ?_
                  refine WL_op rfl (Ex_eql rfl rfl) ?_
                  refine WL_op rfl (Ex_assign rfl) ?_
                  refine WL_nil ?_
                  refine WQ_next ?_
                  refine WC_if rfl ?_ ?_  -- cond 9 operand.go:31
                  · intro c9
                    try (first | replace c9 := of_decide_eq_true c9 | replace c9 := of_nd_true c9)
                    refine WC_skip ?_
                    refine WQ_next ?_
                    refine WC_true rfl ?_
                    refine WC_seq ?_
                    refine WC_region ?_
                    refine WL_op rfl (Ex_assign rfl) ?_
                    refine WL_nil ?_
                    refine WQ_next ?_
                    refine WC_ret ?_
                    refine WQ_ret ?_
                    refine WQ_ret ?_
                    refine P_end1 rfl rfl ?_
                    simp_all [opdB]
                  · intro c9
                    try (first | replace c9 := of_decide_eq_false c9 | replace c9 := of_nd_false c9)
                    refine WC_region ?_
                    refine WL_op rfl (Ex_eql rfl rfl) ?_
                    refine WL_op rfl (Ex_assign rfl) ?_
                    refine WL_nil ?_
                    refine WQ_next ?_
                    refine WC_if rfl ?_ ?_  -- cond 10 operand.go:31
                    · intro c10
                      try (first | replace c10 := of_decide_eq_true c10 | replace c10 := of_nd_true c10)
                      refine WC_seq ?_
                      refine WC_region ?_
                      refine WL_op rfl (Ex_assign rfl) ?_
                      refine WL_nil ?_
                      refine WQ_next ?_
                      refine WC_ret ?_
                      refine WQ_ret ?_
                      refine WQ_ret ?_
                      refine P_end1 rfl rfl ?_
                      simp_all [opdB]
                    · intro c10
                      try (first | replace c10 := of_decide_eq_false c10 | replace c10 := of_nd_false c10)
                      refine WC_seq ?_
                      refine WC_seq ?_
                      refine WC_region ?_
                      refine WL_op rfl (Ex_eql rfl rfl) ?_
                      refine WL_op rfl (Ex_assign rfl) ?_
                      refine WL_nil ?_
                      refine WQ_next ?_
                      refine WC_if rfl ?_ ?_  -- cond 11 operand.go:33
                      · intro c11
                        try (first | replace c11 := of_decide_eq_true c11 | replace c11 := of_nd_true c11)
                        refine WC_skip ?_
                        refine WQ_next ?_
                        refine WC_true rfl ?_
                        refine WC_seq ?_
                        refine WC_region ?_
                        refine WL_op rfl (Ex_assign rfl) ?_
                        refine WL_nil ?_
                        refine WQ_next ?_
                        refine WC_ret ?_
                        refine WQ_ret ?_
                        refine WQ_ret ?_
                        refine P_end1 rfl rfl ?_
                        simp_all [opdB]
                      · intro c11
                        try (first | replace c11 := of_decide_eq_false c11 | replace c11 := of_nd_false c11)
                        refine WC_seq ?_
                        refine WC_region ?_
                        refine WL_op rfl (Ex_eql rfl rfl) ?_
                        refine WL_op rfl (Ex_assign rfl) ?_
                        refine WL_nil ?_
                        refine WQ_next ?_
                        refine WC_if rfl ?_ ?_  -- cond 12 operand.go:33
                        · intro c12
                          try (first | replace c12 := of_decide_eq_true c12 | replace c12 := of_nd_true c12)
                          refine WC_skip ?_
                          refine WQ_next ?_
                          refine WC_true rfl ?_
                          refine WC_seq ?_
                          refine WC_region ?_
                          refine WL_op rfl (Ex_assign rfl) ?_
                          refine WL_nil ?_
                          refine WQ_next ?_
                          refine WC_ret ?_
                          refine WQ_ret ?_
                          refine WQ_ret ?_
                          refine P_end1 rfl rfl ?_
                          simp_all [opdB]
                        · intro c12
                          try (first | replace c12 := of_decide_eq_false c12 | replace c12 := of_nd_false c12)
                          refine WC_seq ?_
                          refine WC_region ?_
                          refine WL_op rfl (Ex_eql rfl rfl) ?_
                          refine WL_op rfl (Ex_assign rfl) ?_
                          refine WL_nil ?_
                          refine WQ_next ?_
                          refine WC_if rfl ?_ ?_  -- cond 13 operand.go:33
                          · intro c13
                            try (first | replace c13 := of_decide_eq_true c13 | replace c13 := of_nd_true c13)
                            refine WC_skip ?_
                            refine WQ_next ?_
                            refine WC_true rfl ?_
                            refine WC_seq ?_
                            refine WC_region ?_
                            refine WL_op rfl (Ex_assign rfl) ?_
                            refine WL_nil ?_
                            refine WQ_next ?_
                            refine WC_ret ?_
                            refine WQ_ret ?_
                            refine WQ_ret ?_
                            refine P_end1 rfl rfl ?_
                            simp_all [opdB]
                          · intro c13
                            try (first | replace c13 := of_decide_eq_false c13 | replace c13 := of_nd_false c13)
                            refine WC_region ?_
                            refine WL_op rfl (Ex_eql rfl rfl) ?_
                            refine WL_op rfl (Ex_assign rfl) ?_
                            refine WL_nil ?_
                            refine WQ_next ?_
                            refine WC_if rfl ?_ ?_  -- cond 14 operand.go:33
                            · intro c14
                              try (first | replace c14 := of_decide_eq_true c14 | replace c14 := of_nd_true c14)
                              refine WC_seq ?_
                              refine WC_region ?_
                              refine WL_op rfl (Ex_assign rfl) ?_
                              refine WL_nil ?_
                              refine WQ_next ?_
                              refine WC_ret ?_
                              refine WQ_ret ?_
                              refine WQ_ret ?_
                              refine P_end1 rfl rfl ?_
                              simp_all [opdB]
                            · intro c14
                              try (first | replace c14 := of_decide_eq_false c14 | replace c14 := of_nd_false c14)
                              refine WC_seq ?_
                              refine WC_seq ?_
                              refine WC_region ?_
                              refine WL_op rfl (Ex_eql rfl rfl) ?_
                              refine WL_op rfl (Ex_assign rfl) ?_
                              refine WL_nil ?_
                              refine WQ_next ?_
                              refine WC_if rfl ?_ ?_  -- cond 15 operand.go:35
                              · intro c15
                                try (first | replace c15 := of_decide_eq_true c15 | replace c15 := of_nd_true c15)
                                refine WC_skip ?_
                                refine WQ_next ?_
                                refine WC_true rfl ?_
                                refine WC_seq ?_
                                refine WC_region ?_
                                refine WL_op rfl (Ex_assign rfl) ?_
                                refine WL_nil ?_
                                refine WQ_next ?_
                                refine WC_ret ?_
                                refine WQ_ret ?_
                                refine WQ_ret ?_
                                refine P_end1 rfl rfl ?_
                                simp_all [opdB]
                              · intro c15
                                try (first | replace c15 := of_decide_eq_false c15 | replace c15 := of_nd_false c15)
                                refine WC_region ?_
                                refine WL_op rfl (Ex_eql rfl rfl) ?_
                                refine WL_op rfl (Ex_assign rfl) ?_
                                refine WL_nil ?_
                                refine WQ_next ?_
                                refine WC_if rfl ?_ ?_  -- cond 16 operand.go:35
                                · intro c16
                                  try (first | replace c16 := of_decide_eq_true c16 | replace c16 := of_nd_true c16)
                                  refine WC_seq ?_
                                  refine WC_region ?_
                                  refine WL_op rfl (Ex_assign rfl) ?_
                                  refine WL_nil ?_
                                  refine WQ_next ?_
                                  refine WC_ret ?_
                                  refine WQ_ret ?_
                                  refine WQ_ret ?_
                                  refine P_end1 rfl rfl ?_
                                  simp_all [opdB]
                                · intro c16
                                  try (first | replace c16 := of_decide_eq_false c16 | replace c16 := of_nd_false c16)
                                  refine WC_skip ?_
                                  refine WQ_bnext ?_
                                  refine WQ_next ?_
                                  refine WC_seq ?_
                                  refine WC_region ?_
                                  refine WL_op rfl (Ex_assign rfl) ?_
                                  refine WL_nil ?_
                                  refine WQ_next ?_
                                  refine WC_ret ?_
                                  refine P_end1 rfl rfl ?_
                                  simp_all [opdB]
theorem isPlace_any (x : Int) (m : Me) (pv hv fv : Value) (p : Option Addr) (c : Nat) (w : World) : Pure Tryz.prog 357 #[.int .i64 x, .agg (meV m pv (.slice p m.code.length c) hv fv).toArray] w (.bool (decide (0 ≤ x) && decide (x < (m.code.length : Int)))) := by
  refine opens (args := [.int .i64 x, .agg (meV m pv (.slice p m.code.length c) hv fv).toArray]) Tryz.func357 rfl Tryz.ntmps357 ?_
  refine WC_seq ?_
  refine WC_region ?_
  refine WL_box rfl rfl ?_
  intro b0 hb0
  refine WL_op rfl (Ex_assign rfl) ?_
  refine WL_nil ?_
  refine WQ_next ?_
  refine WC_seq ?_
  refine WC_region ?_
  refine WL_op rfl (Ex_move rfl) ?_
  refine WL_op rfl (Ex_leq rfl rfl) ?_
  refine WL_op rfl (Ex_move rfl) ?_
  refine WL_part rfl rfl rfl ?_ ?_
  · intro h1
    try (first | replace h1 := of_decide_eq_true h1 | replace h1 := of_nd_true h1)
    refine WL_yes rfl rfl rfl (Ex_move rfl) ?_
    refine WL_yes rfl rfl rfl (Ex_field (ff rfl) rfl) ?_
    refine WL_yes rfl rfl rfl (Ex_load (t1 rfl) rfl (cell_mine 0 rfl rfl)) ?_
    refine WL_yes rfl rfl rfl (Ex_lenL (ts rfl) rfl) ?_
    refine WL_yes rfl rfl rfl (Ex_lss rfl rfl) ?_
    refine WL_op rfl (Ex_pickT rfl rfl) ?_
    refine WL_op rfl (Ex_assign rfl) ?_
    refine WL_nil ?_
    refine WQ_next ?_
    refine WC_ret ?_
    refine P_end1 rfl rfl ?_
    first | (simp_all; done) | (simp_all; omega)
  · intro h1
    try (first | replace h1 := of_decide_eq_false h1 | replace h1 := of_nd_false h1)
    refine WL_no rfl rfl rfl ?_
    refine WL_no rfl rfl rfl ?_
    refine WL_no rfl rfl rfl ?_
    refine WL_no rfl rfl rfl ?_
    refine WL_no rfl rfl rfl ?_
    refine WL_op rfl (Ex_pickF rfl rfl) ?_
    refine WL_op rfl (Ex_assign rfl) ?_
    refine WL_nil ?_
    refine WQ_next ?_
    refine WC_ret ?_
    refine P_end1 rfl rfl ?_
    first | (simp_all; done) | (simp_all; omega)
theorem neededLocals_any (m : Me) (p : Option Addr) (c : Nat) (cv hv fv : Value) (w : World) (hl : m.params.length ≤ 1048576) : Pure Tryz.prog 320 #[.agg (meV m (.slice p m.params.length c) cv hv fv).toArray] w (.int .i64 (leastB m)) := by
  refine opens (args := [.agg (meV m (.slice p m.params.length c) cv hv fv).toArray]) Tryz.func320 rfl Tryz.ntmps320 ?_
  refine WC_seq ?_
  refine WC_region ?_
  refine WL_box rfl rfl ?_
  intro b0 hb0
  refine WL_op rfl (Ex_assign rfl) ?_
  refine WL_nil ?_
  refine WQ_next ?_
  refine WC_seq ?_
  refine WC_seq ?_
  refine WC_region ?_
  refine WL_op rfl (Ex_field (ff rfl) rfl) ?_
  refine WL_op rfl (Ex_load (t1 rfl) rfl (cell_mine 0 rfl rfl)) ?_
  refine WL_nil ?_
  refine WQ_next ?_
  refine WC_if rfl ?_ ?_  -- cond 1 shape.go:68
  · intro c1
    try (first | replace c1 := of_decide_eq_true c1 | replace c1 := of_nd_true c1)
    refine WC_seq ?_
    refine WC_region ?_
    refine WL_op rfl (Ex_field (ff rfl) rfl) ?_
    refine WL_op rfl (Ex_load (t1 rfl) rfl (cell_mine 0 rfl rfl)) ?_
    refine WL_op rfl (Ex_lenL (ts rfl) rfl) ?_
    refine WL_op rfl (Ex_assign rfl) ?_
    refine WL_nil ?_
    refine WQ_next ?_
    refine WC_ret ?_
    refine WQ_ret ?_
    refine P_end1 rfl rfl ?_
    simp_all [leastB]
  · intro c1
    try (first | replace c1 := of_decide_eq_false c1 | replace c1 := of_nd_false c1)
    refine WC_skip ?_
    refine WQ_next ?_
    refine WC_seq ?_
    refine WC_region ?_
    refine WL_op rfl (Ex_field (ff rfl) rfl) ?_
    refine WL_op rfl (Ex_load (t1 rfl) rfl (cell_mine 0 rfl rfl)) ?_
    refine WL_op rfl (Ex_lenL (ts rfl) rfl) ?_
    (first | (refine WL_op rfl (Ex_inc rfl rfl ?_) ?_; omega) | (refine WL_op rfl (Ex_addB rfl rfl ?_) ?_; omega) | refine WL_op rfl (Ex_add rfl rfl) ?_)
    refine WL_op rfl (Ex_assign rfl) ?_
    refine WL_nil ?_
    refine WQ_next ?_
    refine WC_ret ?_
    refine P_end1 rfl rfl ?_
    simp_all [leastB]
def numB (i : Ins) (locals : Int) (len : Nat) : Bool :=
  if opdB i.op = 1 then true else if opdB i.op = 2 then decide (0 ≤ i.n) && decide (i.n < locals) else if opdB i.op = 3 then decide (0 ≤ i.n) && decide (i.n < (len : Int)) else decide (i.n = 0)
def mtT (t : Ty) : Bool := decide (t.kind = 0) && decide (t.cls = ⟨#[]⟩)
def refB (i : Ins) : Bool :=
  if opdB i.op = 4 then isNameB i.ref.cls && (decide (i.ref.name = ⟨#[]⟩) && decide ((i.ref.params.length : Int) = 0) && mtT i.ref.ty)
  else if opdB i.op = 5 then isNameB i.ref.cls && isNameB i.ref.name && decide ((i.ref.params.length : Int) = 0) && isTypeB i.ref.ty false false
  else if opdB i.op = 6 then isNameB i.ref.cls && isNameB i.ref.name && (decide ((i.ref.params.length : Int) ≤ 6) && areTypesB i.ref.params false) && isTypeB i.ref.ty true false
  else decide (i.ref.cls = ⟨#[]⟩) && decide (i.ref.name = ⟨#[]⟩) && decide ((i.ref.params.length : Int) = 0) && mtT i.ref.ty
theorem mustHaveNumber_any (i : Ins) (qv : Value) (m : Me) (pv hv fv : Value) (p : Option Addr) (c : Nat) (w : World) :
    PureP Tryz.prog 355 #[.agg (insV i qv).toArray, .agg (meV m pv (.slice p m.code.length c) hv fv).toArray] w (numB i m.locals m.code.length) := by
  refine opens (args := [.agg (insV i qv).toArray, .agg (meV m pv (.slice p m.code.length c) hv fv).toArray]) Tryz.func355 rfl Tryz.ntmps355 ?_
  refine WC_seq ?_
  refine WC_region ?_
  refine WL_box rfl rfl ?_
  intro b0 hb0
  refine WL_box rfl rfl ?_
  intro b1 hb1
  refine WL_nil ?_
  refine WQ_next ?_
  refine WC_seq ?_
  refine WC_region ?_
  refine WL_op rfl (Ex_field (ff rfl) rfl) ?_
  refine WL_op rfl (Ex_load (t1 rfl) rfl (cell_mine 1 rfl rfl)) ?_
  refine WL_call fn284 rfl rfl (fun w _ => operandOf_any _ w) ?_
  refine WL_nil ?_
  refine WQ_next ?_
  refine WC_block ?_
  refine WC_seq ?_
  refine WC_region ?_
  refine WL_op rfl (Ex_eql rfl rfl) ?_
  refine WL_op rfl (Ex_assign rfl) ?_
  refine WL_nil ?_
  refine WQ_next ?_
  refine WC_if rfl ?_ ?_  -- cond 1 code.go:16
  · intro c1
    try (first | replace c1 := of_decide_eq_true c1 | replace c1 := of_nd_true c1)
    refine WC_skip ?_
    refine WQ_bnext ?_
    refine PP_end rfl ?_
    first | (simp_all [numB]; done) | (simp_all [numB]; omega)
  · intro c1
    try (first | replace c1 := of_decide_eq_false c1 | replace c1 := of_nd_false c1)
    refine WC_seq ?_
    refine WC_region ?_
    refine WL_op rfl (Ex_eql rfl rfl) ?_
    refine WL_op rfl (Ex_assign rfl) ?_
    refine WL_nil ?_
    refine WQ_next ?_
    refine WC_if rfl ?_ ?_  -- cond 2 code.go:17
    · intro c2
      try (first | replace c2 := of_decide_eq_true c2 | replace c2 := of_nd_true c2)
      refine WC_region ?_
      refine WL_op rfl (Ex_field (ff rfl) rfl) ?_
      refine WL_op rfl (Ex_load (t1 rfl) rfl (cell_mine 1 rfl rfl)) ?_
      refine WL_op rfl (Ex_leq rfl rfl) ?_
      refine WL_op rfl (Ex_move rfl) ?_
      refine WL_part rfl rfl rfl ?_ ?_
      · intro h1
        try (first | replace h1 := of_decide_eq_true h1 | replace h1 := of_nd_true h1)
        refine WL_yes rfl rfl rfl (Ex_field (ff rfl) rfl) ?_
        refine WL_yes rfl rfl rfl (Ex_load (t1 rfl) rfl (cell_mine 1 rfl rfl)) ?_
        refine WL_yes rfl rfl rfl (Ex_field (ff rfl) rfl) ?_
        refine WL_yes rfl rfl rfl (Ex_load (t1 rfl) rfl (cell_mine 0 rfl rfl)) ?_
        refine WL_yes rfl rfl rfl (Ex_lss rfl rfl) ?_
        refine WL_op rfl (Ex_pickT rfl rfl) ?_
        refine WL_callP fn111 rfl rfl (fun w _ => must_any _ w) ?_ ?_
        rotate_left
        · intro o2
          try (first | replace o2 := of_decide_eq_false o2 | replace o2 := of_nd_false o2)
          refine WQ_pan ?_
          refine PP_dies ?_
          first | (simp_all [numB]; done) | (simp_all [numB]; omega)
        intro o2
        try (first | replace o2 := of_decide_eq_true o2 | replace o2 := of_nd_true o2)
        refine WL_nil ?_
        refine WQ_bnext ?_
        refine PP_end rfl ?_
        first | (simp_all [numB]; done) | (simp_all [numB]; omega)
      · intro h1
        try (first | replace h1 := of_decide_eq_false h1 | replace h1 := of_nd_false h1)
        refine WL_no rfl rfl rfl ?_
        refine WL_no rfl rfl rfl ?_
        refine WL_no rfl rfl rfl ?_
        refine WL_no rfl rfl rfl ?_
        refine WL_no rfl rfl rfl ?_
        refine WL_op rfl (Ex_pickF rfl rfl) ?_
        refine WL_callP fn111 rfl rfl (fun w _ => must_any _ w) ?_ ?_
        · intro o3; cases o3
        intro _
        refine WQ_pan ?_
        refine PP_dies ?_
        first | (simp_all [numB]; done) | (simp_all [numB]; omega)
    · intro c2
      try (first | replace c2 := of_decide_eq_false c2 | replace c2 := of_nd_false c2)
      refine WC_seq ?_
      refine WC_region ?_
      refine WL_op rfl (Ex_eql rfl rfl) ?_
      refine WL_op rfl (Ex_assign rfl) ?_
      refine WL_nil ?_
      refine WQ_next ?_
      refine WC_if rfl ?_ ?_  -- cond 3 code.go:19
      · intro c3
        try (first | replace c3 := of_decide_eq_true c3 | replace c3 := of_nd_true c3)
        refine WC_region ?_
        refine WL_op rfl (Ex_field (ff rfl) rfl) ?_
        refine WL_op rfl (Ex_load (t1 rfl) rfl (cell_mine 1 rfl rfl)) ?_
        refine WL_op rfl (Ex_loadM (tn rfl) rfl 0 rfl rfl) ?_
        refine WL_call fn357 rfl rfl (fun w _ => isPlace_any _ m _ _ _ _ _ w) ?_
        refine WL_callP fn111 rfl rfl (fun w _ => must_any _ w) ?_ ?_
        rotate_left
        · intro o4
          try (first | replace o4 := of_decide_eq_false o4 | replace o4 := of_nd_false o4)
          refine WQ_pan ?_
          refine PP_dies ?_
          first | (simp_all [numB]; done) | (simp_all [numB]; omega)
        intro o4
        try (first | replace o4 := of_decide_eq_true o4 | replace o4 := of_nd_true o4)
        refine WL_nil ?_
        refine WQ_bnext ?_
        refine PP_end rfl ?_
        first | (simp_all [numB]; done) | (simp_all [numB]; omega)
      · intro c3
        try (first | replace c3 := of_decide_eq_false c3 | replace c3 := of_nd_false c3)
        refine WC_region ?_
        refine WL_op rfl (Ex_field (ff rfl) rfl) ?_
        refine WL_op rfl (Ex_load (t1 rfl) rfl (cell_mine 1 rfl rfl)) ?_
        refine WL_op rfl (Ex_eql rfl rfl) ?_
        refine WL_callP fn111 rfl rfl (fun w _ => must_any _ w) ?_ ?_
        rotate_left
        · intro o5
          try (first | replace o5 := of_decide_eq_false o5 | replace o5 := of_nd_false o5)
          refine WQ_pan ?_
          refine PP_dies ?_
          first | (simp_all [numB]; done) | (simp_all [numB]; omega)
        intro o5
        try (first | replace o5 := of_decide_eq_true o5 | replace o5 := of_nd_true o5)
        refine WL_nil ?_
        refine WQ_bnext ?_
        refine PP_end rfl ?_
        first | (simp_all [numB]; done) | (simp_all [numB]; omega)
set_option maxHeartbeats 1000000 in
theorem mustHaveRef_any (i : Ins) (pv : Value) (w : World) (hp : TysAt w pv i.ref.params) (hi : insOk i) : PureP Tryz.prog 356 #[.agg (insV i pv).toArray] w (refB i) := by
  have hp0 := hp
  obtain ⟨p, c, rfl, hl, -⟩ := hp.is
  replace hp : Hid _ := hp
  refine opens (args := [.agg (insV i (.slice p i.ref.params.length c)).toArray]) Tryz.func356 rfl Tryz.ntmps356 ?_
  refine WC_seq ?_
  refine WC_region ?_
  refine WL_box rfl rfl ?_
  intro b0 hb0
  refine WL_nil ?_
  refine WQ_next ?_
  refine WC_seq ?_
  refine WC_region ?_
  refine WL_op rfl (Ex_field (ff rfl) rfl) ?_
  refine WL_op rfl (Ex_loadM (tn rfl) rfl 0 rfl rfl) ?_
  refine WL_alloc rfl (tz rfl) ?_
  intro b1 hb1
  refine WL_storeN (tn rfl) rfl rfl 0 rfl rfl rfl rfl ?_
  refine WL_nil ?_
  refine WQ_next ?_
  refine WC_seq ?_
  refine WC_region ?_
  refine WL_op rfl (Ex_field (ff rfl) rfl) ?_
  refine WL_op rfl (Ex_load (t1 rfl) rfl (cell_mine 1 rfl rfl)) ?_
  refine WL_call fn284 rfl rfl (fun w _ => operandOf_any _ w) ?_
  refine WL_nil ?_
  refine WQ_next ?_
  refine WC_block ?_
  refine WC_seq ?_
  refine WC_region ?_
  refine WL_op rfl (Ex_eql rfl rfl) ?_
  refine WL_op rfl (Ex_assign rfl) ?_
  refine WL_nil ?_
  refine WQ_next ?_
  refine WC_if rfl ?_ ?_  -- cond 1 code.go:29
  · intro c1
    try (first | replace c1 := of_decide_eq_true c1 | replace c1 := of_nd_true c1)
    refine WC_seq ?_
    refine WC_region ?_
    refine WL_op rfl (Ex_field (ff rfl) rfl) ?_
    refine WL_op rfl (Ex_load (t1 rfl) rfl (cell_mine 0 rfl rfl)) ?_
    refine WL_callP fn139 rfl rfl (fun w _ => mustBeName_any _ w hi.2.2.1) ?_ ?_
    rotate_left
    · intro o1
      try (first | replace o1 := of_decide_eq_false o1 | replace o1 := of_nd_false o1)
      refine WQ_pan ?_
      refine WQ_pan ?_
      refine PP_dies ?_
      clear hp0; first | (simp_all [refB, mtT, eqS]; done) | (simp_all [refB, mtT, eqS]; omega)
    intro o1
    try (first | replace o1 := of_decide_eq_true o1 | replace o1 := of_nd_true o1)
    refine WL_nil ?_
    refine WQ_next ?_
    refine WC_region ?_
    refine WL_op rfl (Ex_field (ff rfl) rfl) ?_
    refine WL_op rfl (Ex_load (t1 rfl) rfl (cell_mine 0 rfl rfl)) ?_
    refine WL_op rfl (Ex_eqlS rfl rfl) ?_
    refine WL_op rfl (Ex_move rfl) ?_
    refine WL_part rfl rfl rfl ?_ ?_
    · intro h2
      try (first | replace h2 := of_decide_eq_true h2 | replace h2 := of_nd_true h2)
      refine WL_yes rfl rfl rfl (Ex_field (ff rfl) rfl) ?_
      refine WL_yes rfl rfl rfl (Ex_load (t1 rfl) rfl (cell_mine 0 rfl rfl)) ?_
      refine WL_yes rfl rfl rfl (Ex_lenL (ts rfl) rfl) ?_
      refine WL_yes rfl rfl rfl (Ex_eql rfl rfl) ?_
      refine WL_op rfl (Ex_pickT rfl rfl) ?_
      refine WL_op rfl (Ex_move rfl) ?_
      refine WL_part rfl rfl rfl ?_ ?_
      · intro h3
        try (first | replace h3 := of_decide_eq_true h3 | replace h3 := of_nd_true h3)
        refine WL_yes rfl rfl rfl (Ex_field (ff rfl) rfl) ?_
        refine WL_yes rfl rfl rfl (Ex_loadM (tn rfl) rfl 0 rfl rfl) ?_
        refine WL_yes rfl rfl rfl (Ex_build (tb rfl) rfl rfl) ?_
        refine WL_yes rfl rfl rfl (Ex_eqlTy rfl rfl) ?_
        refine WL_op rfl (Ex_pickT rfl rfl) ?_
        refine WL_callP fn111 rfl rfl (fun w _ => must_any _ w) ?_ ?_
        rotate_left
        · intro o4
          try (first | replace o4 := of_decide_eq_false o4 | replace o4 := of_nd_false o4)
          refine WQ_pan ?_
          refine PP_dies ?_
          clear hp0; first | (simp_all [refB, mtT, eqS]; done) | (simp_all [refB, mtT, eqS]; omega)
        intro o4
        try (first | replace o4 := of_decide_eq_true o4 | replace o4 := of_nd_true o4)
        refine WL_nil ?_
        refine WQ_bnext ?_
        refine PP_end rfl ?_
        clear hp0; first | (simp_all [refB, mtT, eqS]; done) | (simp_all [refB, mtT, eqS]; omega)
      · intro h3
        try (first | replace h3 := of_decide_eq_false h3 | replace h3 := of_nd_false h3)
        refine WL_no rfl rfl rfl ?_
        refine WL_no rfl rfl rfl ?_
        refine WL_no rfl rfl rfl ?_
        refine WL_no rfl rfl rfl ?_
        refine WL_op rfl (Ex_pickF rfl rfl) ?_
        refine WL_callP fn111 rfl rfl (fun w _ => must_any _ w) ?_ ?_
        · intro o5; cases o5
        intro _
        refine WQ_pan ?_
        refine PP_dies ?_
        clear hp0; first | (simp_all [refB, mtT, eqS]; done) | (simp_all [refB, mtT, eqS]; omega)
    · intro h2
      try (first | replace h2 := of_decide_eq_false h2 | replace h2 := of_nd_false h2)
      refine WL_no rfl rfl rfl ?_
      refine WL_no rfl rfl rfl ?_
      refine WL_no rfl rfl rfl ?_
      refine WL_no rfl rfl rfl ?_
      refine WL_op rfl (Ex_pickF rfl rfl) ?_
      refine WL_op rfl (Ex_move rfl) ?_
      refine WL_no rfl rfl rfl ?_
      refine WL_no rfl rfl rfl ?_
      refine WL_no rfl rfl rfl ?_
      refine WL_no rfl rfl rfl ?_
      refine WL_op rfl (Ex_pickF rfl rfl) ?_
      refine WL_callP fn111 rfl rfl (fun w _ => must_any _ w) ?_ ?_
      · intro o6; cases o6
      intro _
      refine WQ_pan ?_
      refine PP_dies ?_
      clear hp0; first | (simp_all [refB, mtT, eqS]; done) | (simp_all [refB, mtT, eqS]; omega)
  · intro c1
    try (first | replace c1 := of_decide_eq_false c1 | replace c1 := of_nd_false c1)
    refine WC_seq ?_
    refine WC_region ?_
    refine WL_op rfl (Ex_eql rfl rfl) ?_
    refine WL_op rfl (Ex_assign rfl) ?_
    refine WL_nil ?_
    refine WQ_next ?_
    refine WC_if rfl ?_ ?_  -- cond 2 code.go:32
    · intro c2
      try (first | replace c2 := of_decide_eq_true c2 | replace c2 := of_nd_true c2)
      refine WC_seq ?_
      refine WC_region ?_
      refine WL_op rfl (Ex_field (ff rfl) rfl) ?_
      refine WL_op rfl (Ex_load (t1 rfl) rfl (cell_mine 0 rfl rfl)) ?_
      refine WL_callP fn139 rfl rfl (fun w _ => mustBeName_any _ w hi.2.2.1) ?_ ?_
      rotate_left
      · intro o7
        try (first | replace o7 := of_decide_eq_false o7 | replace o7 := of_nd_false o7)
        refine WQ_pan ?_
        refine WQ_pan ?_
        refine PP_dies ?_
        clear hp0; first | (simp_all [refB, mtT, eqS]; done) | (simp_all [refB, mtT, eqS]; omega)
      intro o7
      try (first | replace o7 := of_decide_eq_true o7 | replace o7 := of_nd_true o7)
      refine WL_nil ?_
      refine WQ_next ?_
      refine WC_seq ?_
      refine WC_region ?_
      refine WL_op rfl (Ex_field (ff rfl) rfl) ?_
      refine WL_op rfl (Ex_load (t1 rfl) rfl (cell_mine 0 rfl rfl)) ?_
      refine WL_callP fn139 rfl rfl (fun w _ => mustBeName_any _ w hi.2.2.2.1) ?_ ?_
      rotate_left
      · intro o8
        try (first | replace o8 := of_decide_eq_false o8 | replace o8 := of_nd_false o8)
        refine WQ_pan ?_
        refine WQ_pan ?_
        refine PP_dies ?_
        clear hp0; first | (simp_all [refB, mtT, eqS]; done) | (simp_all [refB, mtT, eqS]; omega)
      intro o8
      try (first | replace o8 := of_decide_eq_true o8 | replace o8 := of_nd_true o8)
      refine WL_nil ?_
      refine WQ_next ?_
      refine WC_seq ?_
      refine WC_region ?_
      refine WL_op rfl (Ex_field (ff rfl) rfl) ?_
      refine WL_op rfl (Ex_load (t1 rfl) rfl (cell_mine 0 rfl rfl)) ?_
      refine WL_op rfl (Ex_lenL (ts rfl) rfl) ?_
      refine WL_op rfl (Ex_eql rfl rfl) ?_
      refine WL_callP fn111 rfl rfl (fun w _ => must_any _ w) ?_ ?_
      rotate_left
      · intro o9
        try (first | replace o9 := of_decide_eq_false o9 | replace o9 := of_nd_false o9)
        refine WQ_pan ?_
        refine WQ_pan ?_
        refine PP_dies ?_
        clear hp0; first | (simp_all [refB, mtT, eqS]; done) | (simp_all [refB, mtT, eqS]; omega)
      intro o9
      try (first | replace o9 := of_decide_eq_true o9 | replace o9 := of_nd_true o9)
      refine WL_nil ?_
      refine WQ_next ?_
      refine WC_region ?_
      refine WL_op rfl (Ex_field (ff rfl) rfl) ?_
      refine WL_op rfl (Ex_loadM (tn rfl) rfl 0 rfl rfl) ?_
      refine WL_callP fn245 rfl rfl (fun w _ => (mustBeType_any 246 valB fn246 isOfValue_any i.ref.ty w hi.2.2.2.2).of_eq (mayB_val _)) ?_ ?_
      rotate_left
      · intro o10
        try (first | replace o10 := of_decide_eq_false o10 | replace o10 := of_nd_false o10)
        refine WQ_pan ?_
        refine PP_dies ?_
        clear hp0; first | (simp_all [refB, mtT, eqS]; done) | (simp_all [refB, mtT, eqS]; omega)
      intro o10
      try (first | replace o10 := of_decide_eq_true o10 | replace o10 := of_nd_true o10)
      refine WL_nil ?_
      refine WQ_bnext ?_
      refine PP_end rfl ?_
      clear hp0; first | (simp_all [refB, mtT, eqS]; done) | (simp_all [refB, mtT, eqS]; omega)
    · intro c2
      try (first | replace c2 := of_decide_eq_false c2 | replace c2 := of_nd_false c2)
      refine WC_seq ?_
      refine WC_region ?_
      refine WL_op rfl (Ex_eql rfl rfl) ?_
      refine WL_op rfl (Ex_assign rfl) ?_
      refine WL_nil ?_
      refine WQ_next ?_
      refine WC_if rfl ?_ ?_  -- cond 3 code.go:37
      · intro c3
        try (first | replace c3 := of_decide_eq_true c3 | replace c3 := of_nd_true c3)
        refine WC_seq ?_
        refine WC_region ?_
        refine WL_op rfl (Ex_field (ff rfl) rfl) ?_
        refine WL_op rfl (Ex_load (t1 rfl) rfl (cell_mine 0 rfl rfl)) ?_
        refine WL_callP fn139 rfl rfl (fun w _ => mustBeName_any _ w hi.2.2.1) ?_ ?_
        rotate_left
        · intro o11
          try (first | replace o11 := of_decide_eq_false o11 | replace o11 := of_nd_false o11)
          refine WQ_pan ?_
          refine WQ_pan ?_
          refine PP_dies ?_
          clear hp0; first | (simp_all [refB, mtT, eqS]; done) | (simp_all [refB, mtT, eqS]; omega)
        intro o11
        try (first | replace o11 := of_decide_eq_true o11 | replace o11 := of_nd_true o11)
        refine WL_nil ?_
        refine WQ_next ?_
        refine WC_seq ?_
        refine WC_region ?_
        refine WL_op rfl (Ex_field (ff rfl) rfl) ?_
        refine WL_op rfl (Ex_load (t1 rfl) rfl (cell_mine 0 rfl rfl)) ?_
        refine WL_callP fn139 rfl rfl (fun w _ => mustBeName_any _ w hi.2.2.2.1) ?_ ?_
        rotate_left
        · intro o12
          try (first | replace o12 := of_decide_eq_false o12 | replace o12 := of_nd_false o12)
          refine WQ_pan ?_
          refine WQ_pan ?_
          refine PP_dies ?_
          clear hp0; first | (simp_all [refB, mtT, eqS]; done) | (simp_all [refB, mtT, eqS]; omega)
        intro o12
        try (first | replace o12 := of_decide_eq_true o12 | replace o12 := of_nd_true o12)
        refine WL_nil ?_
        refine WQ_next ?_
        refine WC_seq ?_
        refine WC_region ?_
        refine WL_op rfl (Ex_field (ff rfl) rfl) ?_
        refine WL_op rfl (Ex_load (t1 rfl) rfl (cell_mine 0 rfl rfl)) ?_
        refine WL_callP fn318 rfl rfl (fun w hs => mustBeParams_any _ i.ref.params w (TysAt.mono hp0 (lowOf hs))) ?_ ?_
        rotate_left
        · intro o13
          try (first | replace o13 := of_decide_eq_false o13 | replace o13 := of_nd_false o13)
          refine WQ_pan ?_
          refine WQ_pan ?_
          refine PP_dies ?_
          clear hp0; first | (simp_all [refB, mtT, eqS]; done) | (simp_all [refB, mtT, eqS]; omega)
        intro o13
        try (first | replace o13 := of_decide_eq_true o13 | replace o13 := of_nd_true o13)
        refine WL_nil ?_
        refine WQ_next ?_
        refine WC_region ?_
        refine WL_op rfl (Ex_field (ff rfl) rfl) ?_
        refine WL_op rfl (Ex_loadM (tn rfl) rfl 0 rfl rfl) ?_
        refine WL_callP fn245 rfl rfl (fun w _ => (mustBeType_any 319 resB fn319 isOfResult_any i.ref.ty w hi.2.2.2.2).of_eq (mayB_res _)) ?_ ?_
        rotate_left
        · intro o14
          try (first | replace o14 := of_decide_eq_false o14 | replace o14 := of_nd_false o14)
          refine WQ_pan ?_
          refine PP_dies ?_
          clear hp0; first | (simp_all [refB, mtT, eqS]; done) | (simp_all [refB, mtT, eqS]; omega)
        intro o14
        try (first | replace o14 := of_decide_eq_true o14 | replace o14 := of_nd_true o14)
        refine WL_nil ?_
        refine WQ_bnext ?_
        refine PP_end rfl ?_
        clear hp0; first | (simp_all [refB, mtT, eqS]; done) | (simp_all [refB, mtT, eqS]; omega)
      · intro c3
        try (first | replace c3 := of_decide_eq_false c3 | replace c3 := of_nd_false c3)
        refine WC_region ?_
        refine WL_op rfl (Ex_field (ff rfl) rfl) ?_
        refine WL_op rfl (Ex_load (t1 rfl) rfl (cell_mine 0 rfl rfl)) ?_
        refine WL_op rfl (Ex_eqlS rfl rfl) ?_
        refine WL_op rfl (Ex_move rfl) ?_
        refine WL_part rfl rfl rfl ?_ ?_
        · intro h15
          try (first | replace h15 := of_decide_eq_true h15 | replace h15 := of_nd_true h15)
          refine WL_yes rfl rfl rfl (Ex_field (ff rfl) rfl) ?_
          refine WL_yes rfl rfl rfl (Ex_load (t1 rfl) rfl (cell_mine 0 rfl rfl)) ?_
          refine WL_yes rfl rfl rfl (Ex_eqlS rfl rfl) ?_
          refine WL_op rfl (Ex_pickT rfl rfl) ?_
          refine WL_op rfl (Ex_move rfl) ?_
          refine WL_part rfl rfl rfl ?_ ?_
          · intro h16
            try (first | replace h16 := of_decide_eq_true h16 | replace h16 := of_nd_true h16)
            refine WL_yes rfl rfl rfl (Ex_field (ff rfl) rfl) ?_
            refine WL_yes rfl rfl rfl (Ex_load (t1 rfl) rfl (cell_mine 0 rfl rfl)) ?_
            refine WL_yes rfl rfl rfl (Ex_lenL (ts rfl) rfl) ?_
            refine WL_yes rfl rfl rfl (Ex_eql rfl rfl) ?_
            refine WL_op rfl (Ex_pickT rfl rfl) ?_
            refine WL_op rfl (Ex_move rfl) ?_
            refine WL_part rfl rfl rfl ?_ ?_
            · intro h17
              try (first | replace h17 := of_decide_eq_true h17 | replace h17 := of_nd_true h17)
              refine WL_yes rfl rfl rfl (Ex_field (ff rfl) rfl) ?_
              refine WL_yes rfl rfl rfl (Ex_loadM (tn rfl) rfl 0 rfl rfl) ?_
              refine WL_yes rfl rfl rfl (Ex_build (tb rfl) rfl rfl) ?_
              refine WL_yes rfl rfl rfl (Ex_eqlTy rfl rfl) ?_
              refine WL_op rfl (Ex_pickT rfl rfl) ?_
              refine WL_callP fn111 rfl rfl (fun w _ => must_any _ w) ?_ ?_
              rotate_left
              · intro o18
                try (first | replace o18 := of_decide_eq_false o18 | replace o18 := of_nd_false o18)
                refine WQ_pan ?_
                refine PP_dies ?_
                clear hp0; first | (simp_all [refB, mtT, eqS]; done) | (simp_all [refB, mtT, eqS]; omega)
              intro o18
              try (first | replace o18 := of_decide_eq_true o18 | replace o18 := of_nd_true o18)
              refine WL_nil ?_
              refine WQ_bnext ?_
              refine PP_end rfl ?_
              clear hp0; first | (simp_all [refB, mtT, eqS]; done) | (simp_all [refB, mtT, eqS]; omega)
            · intro h17
              try (first | replace h17 := of_decide_eq_false h17 | replace h17 := of_nd_false h17)
              refine WL_no rfl rfl rfl ?_
              refine WL_no rfl rfl rfl ?_
              refine WL_no rfl rfl rfl ?_
              refine WL_no rfl rfl rfl ?_
              refine WL_op rfl (Ex_pickF rfl rfl) ?_
              refine WL_callP fn111 rfl rfl (fun w _ => must_any _ w) ?_ ?_
              · intro o19; cases o19
              intro _
              refine WQ_pan ?_
              refine PP_dies ?_
              clear hp0; first | (simp_all [refB, mtT, eqS]; done) | (simp_all [refB, mtT, eqS]; omega)
          · intro h16
            try (first | replace h16 := of_decide_eq_false h16 | replace h16 := of_nd_false h16)
            refine WL_no rfl rfl rfl ?_
            refine WL_no rfl rfl rfl ?_
            refine WL_no rfl rfl rfl ?_
            refine WL_no rfl rfl rfl ?_
            refine WL_op rfl (Ex_pickF rfl rfl) ?_
            refine WL_op rfl (Ex_move rfl) ?_
            refine WL_no rfl rfl rfl ?_
            refine WL_no rfl rfl rfl ?_
            refine WL_no rfl rfl rfl ?_
            refine WL_no rfl rfl rfl ?_
            refine WL_op rfl (Ex_pickF rfl rfl) ?_
            refine WL_callP fn111 rfl rfl (fun w _ => must_any _ w) ?_ ?_
            · intro o20; cases o20
            intro _
            refine WQ_pan ?_
            refine PP_dies ?_
            clear hp0; first | (simp_all [refB, mtT, eqS]; done) | (simp_all [refB, mtT, eqS]; omega)
        · intro h15
          try (first | replace h15 := of_decide_eq_false h15 | replace h15 := of_nd_false h15)
          refine WL_no rfl rfl rfl ?_
          refine WL_no rfl rfl rfl ?_
          refine WL_no rfl rfl rfl ?_
          refine WL_op rfl (Ex_pickF rfl rfl) ?_
          refine WL_op rfl (Ex_move rfl) ?_
          refine WL_no rfl rfl rfl ?_
          refine WL_no rfl rfl rfl ?_
          refine WL_no rfl rfl rfl ?_
          refine WL_no rfl rfl rfl ?_
          refine WL_op rfl (Ex_pickF rfl rfl) ?_
          refine WL_op rfl (Ex_move rfl) ?_
          refine WL_no rfl rfl rfl ?_
          refine WL_no rfl rfl rfl ?_
          refine WL_no rfl rfl rfl ?_
          refine WL_no rfl rfl rfl ?_
          refine WL_op rfl (Ex_pickF rfl rfl) ?_
          refine WL_callP fn111 rfl rfl (fun w _ => must_any _ w) ?_ ?_
          · intro o21; cases o21
          intro _
          refine WQ_pan ?_
          refine PP_dies ?_
          clear hp0; first | (simp_all [refB, mtT, eqS]; done) | (simp_all [refB, mtT, eqS]; omega)
end Go.Proofs.YtpofmnfkdkmieaaGreat
