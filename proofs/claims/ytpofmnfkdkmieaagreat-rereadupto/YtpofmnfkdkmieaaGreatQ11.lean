/- What is proved here: the program's writer (package wire) writes the bytes that the plain functions name: lists of types, instructions, handlers, frames, methods. -/
import Derived.Test.YtpofmnfkdkmieaaGreatQ09
import Derived.Test.YtpofmnfkdkmieaaGreatQ10
set_option linter.unusedVariables false
set_option linter.unusedSimpArgs false
namespace Go.Proofs.YtpofmnfkdkmieaaGreat
open Go.RowKit At E

theorem dl_fold {α : Type} (g : ByteArray → α → ByteArray) (f : α → List UInt8) (hg : ∀ s x, dl (g s x) = dl s ++ f x) : ∀ (l : List α) (s : ByteArray), dl (l.foldl g s) = dl s ++ l.flatMap f
  | [], s => by simp
  | x :: l, s => by rw [List.foldl_cons, dl_fold g f hg l, hg, List.flatMap_cons, List.append_assoc]
theorem flat_room {α : Type} (g : α → List UInt8) (l : List α) (i : Nat) (hi : i < l.length) : ((l.take i).flatMap g).length + (g l[i]).length ≤ (l.flatMap g).length := by
  have h : l.flatMap g = (l.take i).flatMap g ++ (g l[i] ++ (l.drop (i + 1)).flatMap g) := by
    rw [← List.flatMap_cons, ← List.flatMap_append, ← List.drop_eq_getElem_cons hi, List.take_append_drop]
  rw [h]; simp only [List.length_append]; omega
theorem flat_next {α : Type} (g : α → List UInt8) (l : List α) (i : Nat) (hi : i < l.length) : (l.take (i + 1)).flatMap g = (l.take i).flatMap g ++ g l[i] := by
  rw [List.take_succ_eq_append_getElem hi, List.flatMap_append, List.flatMap_cons, List.flatMap_nil, List.append_nil]
theorem flat_all {α : Type} (g : α → List UInt8) (l : List α) (i : Nat) (hi : ¬ i < l.length) : (l.take i).flatMap g = l.flatMap g := by rw [List.take_of_length_le (by omega)]

def tyL (t : Ty) : List UInt8 := dl (oneTypeS t)
theorem dl_typesS (l : List Ty) : dl (typesS l) = dl (lowS (l.length : Nat) 1) ++ l.flatMap tyL := dl_fold _ tyL (fun s t => dl_append s _) l _
theorem wrTypes_any (U : World) (b : Nat) (tv : Value) (l : List Ty) (hv : TysAt U tv l) : WrP Tryz.prog 192 #[.pointer (some ⟨b, 0, none⟩), tv] U b (dl (typesS l)) := by
  intro w v bs h0 hl
  obtain ⟨p, e, rfl, hlen, hr1⟩ := hv.is
  replace hr1 : Hid _ := hr1
  rw [dl_typesS] at hl ⊢
  simp only [List.length_append] at hl
  refine opensF (h0.sat) (args := [.pointer (some ⟨b, 0, none⟩), .slice p l.length e]) Tryz.func192 rfl Tryz.ntmps192 ?_
  refine WC_seq ?_
  refine WC_region ?_
  refine WL_op rfl (Ex_move rfl) ?_
  refine WL_op rfl (Ex_move rfl) ?_
  refine WL_op rfl (Ex_lenL (ts rfl) rfl) ?_
  refine WL_callW fn122 rfl rfl 0 rfl h0.base h0.F (wrByte_any U b (l.length : Nat)) (by omega) ?_
  intro v1
  refine WL_nil ?_
  refine WQ_next ?_
  refine WC_seq ?_
  refine WC_region ?_
  refine WL_op rfl (Ex_move rfl) ?_
  refine WL_op rfl (Ex_lenL (ts rfl) rfl) ?_
  refine WL_op rfl (Ex_move rfl) ?_
  refine WL_nil ?_
  refine WQ_next ?_
  refine WC_block ?_
  refine WC_res (congrArg (wrA _) (show _ = bs ++ dl (lowS (l.length : Nat) 1) ++ (l.take 0).flatMap tyL from by simp)) ?_
  refine WC_sub (E' := (fun x : Nat × Value => [(0, .pointer (some ⟨b, 0, none⟩)), (10, .slice p l.length e), (11, .int .i64 (l.length : Nat)), (12, .int .i64 (x.1 : Nat))]) ((0, v1))) ⟨rfl, rfl, rfl, rfl, trivial⟩ (WC_loop (X := Nat × Value) (fun x : Nat × Value => [(0, .pointer (some ⟨b, 0, none⟩)), (10, .slice p l.length e), (11, .int .i64 (l.length : Nat)), (12, .int .i64 (x.1 : Nat))]) _ _ (fun x : Nat × Value => [(b, [x.2])]) (fun x : Nat × Value => wrA x.2 (bs ++ dl (lowS (l.length : Nat) 1) ++ (l.take x.1).flatMap tyL)) (fun x : Nat × Value => x.1 ≤ l.length) (fun x : Nat × Value => l.length - x.1) ((0, v1)) (Nat.zero_le _) ?_)
  intro x hI
  refine WC_seq ?_
  refine WC_region ?_
  refine WL_op rfl (Ex_lss rfl rfl) ?_
  refine WL_nil ?_
  refine WQ_next ?_
  refine WC_seq ?_
  refine WC_if rfl ?_ ?_  -- cond 1 write.go:83
  · intro c1
    try (first | replace c1 := of_decide_eq_true c1 | replace c1 := of_nd_true c1)
    have hx : x.1 < l.length := by omega
    obtain ⟨b', o', r, hp, hb, ⟨hr, -⟩, hc⟩ := hr1.out x.1 l[x.1] (List.getElem?_eq_getElem hx)
    subst hp; subst hr
    refine WC_skip ?_
    refine WQ_next ?_
    refine WC_seq ?_
    refine WC_block ?_
    refine WC_seq ?_
    refine WC_region ?_
    refine WL_op rfl (Ex_at (ts rfl) rfl rfl ?_) ?_
    · omega
    refine WL_op rfl (Ex_loadN (tn rfl) rfl (row_oldU h0.base h0.F hb hc) rfl) ?_
    refine WL_alloc rfl (tz rfl) ?_
    intro b1 hb1
    refine WL_storeN (tn rfl) rfl rfl 0 rfl rfl rfl rfl ?_
    refine WL_nil ?_
    refine WQ_next ?_
    refine WC_region ?_
    refine WL_op rfl (Ex_move rfl) ?_
    refine WL_op rfl (Ex_loadM (tn rfl) rfl 0 rfl rfl) ?_
    refine WL_callW fn124 rfl rfl 1 rfl h0.base h0.F (wrTyp_any U b l[x.1]) (by have hr := flat_room tyL l x.1 hx; unfold tyL at hr; simp only [List.length_append]; unfold tyL at *; omega) ?_
    intro v2
    refine WL_nil ?_
    refine WQ_bnext ?_
    refine WQ_next ?_
    refine WC_region ?_
    (first | (refine WL_op rfl (Ex_inc rfl rfl ?_) ?_; omega) | (refine WL_op rfl (Ex_addB rfl rfl ?_) ?_; omega) | refine WL_op rfl (Ex_add rfl rfl) ?_)
    refine WL_op rfl (Ex_move rfl) ?_
    refine WL_nil ?_
    refine WQ_again ((x.1 + 1, v2)) ?_ (hx) 1 rfl (congrArg (wrA v2) (by rw [flat_next tyL l x.1 hx, ← List.append_assoc]; rfl)) ⟨rfl, rfl, rfl, rfl, trivial⟩
    omega
  · intro c1
    try (first | replace c1 := of_decide_eq_false c1 | replace c1 := of_nd_false c1)
    refine WC_exit ?_
    refine WQ_exit ?_
    refine WQ_lexit ?_
    refine WQ_here ?_
    refine wr_end h0 rfl (i := 0) rfl ?_
    rw [flat_all tyL l x.1 (by omega), List.append_assoc]
theorem opd_eq (op : Int) : opdB op = if sortB op = -1 then 0 else sortB op := by
  unfold opdB sortB
  by_cases h1 : op = 1
  · rw [if_pos h1, if_pos h1]; rfl
  rw [if_neg h1, if_neg h1]
  by_cases h2 : op = 2 ∨ op = 3
  · rw [if_pos h2, if_pos h2]; rfl
  rw [if_neg h2, if_neg h2]
  by_cases h3 : op = 10 ∨ op = 11 ∨ op = 12 ∨ op = 13
  · rw [if_pos h3, if_pos h3]; rfl
  rw [if_neg h3, if_neg h3]
  by_cases h4 : op = 15 ∨ op = 25 ∨ op = 26
  · rw [if_pos h4, if_pos h4]; rfl
  rw [if_neg h4, if_neg h4]
  by_cases h5 : op = 16 ∨ op = 17 ∨ op = 18 ∨ op = 19
  · rw [if_pos h5, if_pos h5]; rfl
  rw [if_neg h5, if_neg h5]
  by_cases h6 : op = 20 ∨ op = 21
  · rw [if_pos h6, if_pos h6]; rfl
  rw [if_neg h6, if_neg h6]
  by_cases h7 : op < 0 ∨ 32 < op
  · rw [if_pos h7]; rfl
  · rw [if_neg h7]; rfl
theorem opd_sort {op k : Int} (hk : k = 1 ∨ k = 2 ∨ k = 3 ∨ k = 4 ∨ k = 5 ∨ k = 6) : opdB op = k ↔ sortB op = k := by
  rw [opd_eq]
  split <;> omega
theorem instrL_1 {i : Ins} (h : opdB i.op = 1) : dl (instrS i) = dl (lowS i.op 1) ++ dl (lowS i.n 8) := by
  have h := (opd_sort (by omega)).1 h
  unfold instrS; rw [if_pos h, dl_append]
theorem instrL_2 {i : Ins} (h : opdB i.op = 2) : dl (instrS i) = dl (lowS i.op 1) ++ dl (lowS i.n 1) := by
  have h := (opd_sort (by omega)).1 h
  unfold instrS; rw [if_neg (by omega), if_pos h, dl_append]
theorem instrL_3 {i : Ins} (h : opdB i.op = 3) : dl (instrS i) = dl (lowS i.op 1) ++ dl (lowS i.n 2) := by
  have h := (opd_sort (by omega)).1 h
  unfold instrS; rw [if_neg (by omega), if_neg (by omega), if_pos h, dl_append]
theorem instrL_4 {i : Ins} (h : opdB i.op = 4) : dl (instrS i) = dl (lowS i.op 1) ++ dl (nameS i.ref.cls) := by
  have h := (opd_sort (by omega)).1 h
  unfold instrS; rw [if_neg (by omega), if_neg (by omega), if_neg (by omega), if_pos h, dl_append]
theorem instrL_5 {i : Ins} (h : opdB i.op = 5) : dl (instrS i) = dl (lowS i.op 1) ++ dl (nameS i.ref.cls) ++ dl (nameS i.ref.name) ++ dl (oneTypeS i.ref.ty) := by
  have h := (opd_sort (by omega)).1 h
  unfold instrS; rw [if_neg (by omega), if_neg (by omega), if_neg (by omega), if_neg (by omega), if_pos h, dl_append, dl_append, dl_append]
theorem instrL_6 {i : Ins} (h : opdB i.op = 6) : dl (instrS i) = dl (lowS i.op 1) ++ dl (nameS i.ref.cls) ++ dl (nameS i.ref.name) ++ dl (typesS i.ref.params) ++ dl (oneTypeS i.ref.ty) := by
  have h := (opd_sort (by omega)).1 h
  unfold instrS; rw [if_neg (by omega), if_neg (by omega), if_neg (by omega), if_neg (by omega), if_neg (by omega), if_pos h, dl_append, dl_append, dl_append, dl_append]
theorem instrL_0 {i : Ins} (h1 : ¬ opdB i.op = 1) (h2 : ¬ opdB i.op = 2) (h3 : ¬ opdB i.op = 3) (h4 : ¬ opdB i.op = 4) (h5 : ¬ opdB i.op = 5) (h6 : ¬ opdB i.op = 6) : dl (instrS i) = dl (lowS i.op 1) := by
  have h1 := fun h => h1 ((opd_sort (by omega)).2 h)
  have h2 := fun h => h2 ((opd_sort (by omega)).2 h)
  have h3 := fun h => h3 ((opd_sort (by omega)).2 h)
  have h4 := fun h => h4 ((opd_sort (by omega)).2 h)
  have h5 := fun h => h5 ((opd_sort (by omega)).2 h)
  have h6 := fun h => h6 ((opd_sort (by omega)).2 h)
  unfold instrS; rw [if_neg h1, if_neg h2, if_neg h3, if_neg h4, if_neg h5, if_neg h6]
theorem instrL_pos (i : Ins) : (dl (lowS i.op 1)).length ≤ (dl (instrS i)).length := by
  by_cases h1 : opdB i.op = 1
  · rw [instrL_1 h1]; simp only [List.length_append]; omega
  by_cases h2 : opdB i.op = 2
  · rw [instrL_2 h2]; simp only [List.length_append]; omega
  by_cases h3 : opdB i.op = 3
  · rw [instrL_3 h3]; simp only [List.length_append]; omega
  by_cases h4 : opdB i.op = 4
  · rw [instrL_4 h4]; simp only [List.length_append]; omega
  by_cases h5 : opdB i.op = 5
  · rw [instrL_5 h5]; simp only [List.length_append]; omega
  by_cases h6 : opdB i.op = 6
  · rw [instrL_6 h6]; simp only [List.length_append]; omega
  rw [instrL_0 h1 h2 h3 h4 h5 h6]; omega
theorem wrInstr_any (U : World) (b : Nat) (i : Ins) (pv : Value) (hp : TysAt U pv i.ref.params) : WrP Tryz.prog 194 #[.pointer (some ⟨b, 0, none⟩), .agg (insV i pv).toArray] U b (dl (instrS i)) := by
  intro w v bs h0 hl
  have h1 := instrL_pos i
  refine opensF (h0.sat) (args := [.pointer (some ⟨b, 0, none⟩), .agg (insV i pv).toArray]) Tryz.func194 rfl Tryz.ntmps194 ?_
  refine WC_seq ?_
  refine WC_region ?_
  refine WL_box rfl rfl ?_
  intro b1 hb1
  refine WL_nil ?_
  refine WQ_next ?_
  refine WC_seq ?_
  refine WC_region ?_
  refine WL_op rfl (Ex_move rfl) ?_
  refine WL_op rfl (Ex_field (ff rfl) rfl) ?_
  refine WL_op rfl (Ex_load (t1 rfl) rfl (cell_mine 0 rfl rfl)) ?_
  refine WL_callW fn122 rfl rfl 1 rfl h0.base h0.F (wrByte_any U b i.op) (by omega) ?_
  intro v1
  refine WL_nil ?_
  refine WQ_next ?_
  refine WC_seq ?_
  refine WC_region ?_
  refine WL_op rfl (Ex_field (ff rfl) rfl) ?_
  refine WL_op rfl (Ex_load (t1 rfl) rfl (cell_mine 0 rfl rfl)) ?_
  refine WL_call fn284 rfl rfl (fun w _ => operandOf_any _ w) ?_
  refine WL_nil ?_
  refine WQ_next ?_
  refine WC_block ?_
  refine WC_seq ?_
  refine WC_region ?_
  refine WL_op rfl (Ex_eql rfl rfl) ?_
  refine WL_op rfl (Ex_assign rfl) ?_
  refine WL_nil ?_
  refine WQ_next ?_
  refine WC_if rfl ?_ ?_  -- cond 1 write.go:112
  · intro c1
    try (first | replace c1 := of_decide_eq_true c1 | replace c1 := of_nd_true c1)
    have e := instrL_1 c1; rw [e] at hl; simp only [List.length_append] at hl
    refine WC_region ?_
    refine WL_op rfl (Ex_move rfl) ?_
    refine WL_op rfl (Ex_field (ff rfl) rfl) ?_
    refine WL_op rfl (Ex_load (t1 rfl) rfl (cell_mine 0 rfl rfl)) ?_
    refine WL_callW fn286 rfl rfl 1 rfl h0.base h0.F (wrEight_any U b i.n) (by (try simp only [List.length_append]); omega) ?_
    intro v2
    refine WL_nil ?_
    refine WQ_bnext ?_
    refine wr_end h0 rfl (i := 1) rfl ?_
    first | (rw [e]; done) | (rw [e]; simp only [List.append_assoc])
  · intro c1
    try (first | replace c1 := of_decide_eq_false c1 | replace c1 := of_nd_false c1)
    refine WC_seq ?_
    refine WC_region ?_
    refine WL_op rfl (Ex_eql rfl rfl) ?_
    refine WL_op rfl (Ex_assign rfl) ?_
    refine WL_nil ?_
    refine WQ_next ?_
    refine WC_if rfl ?_ ?_  -- cond 2 write.go:114
    · intro c2
      try (first | replace c2 := of_decide_eq_true c2 | replace c2 := of_nd_true c2)
      have e := instrL_2 c2; rw [e] at hl; simp only [List.length_append] at hl
      refine WC_region ?_
      refine WL_op rfl (Ex_move rfl) ?_
      refine WL_op rfl (Ex_field (ff rfl) rfl) ?_
      refine WL_op rfl (Ex_load (t1 rfl) rfl (cell_mine 0 rfl rfl)) ?_
      refine WL_callW fn122 rfl rfl 1 rfl h0.base h0.F (wrByte_any U b i.n) (by (try simp only [List.length_append]); omega) ?_
      intro v3
      refine WL_nil ?_
      refine WQ_bnext ?_
      refine wr_end h0 rfl (i := 1) rfl ?_
      first | (rw [e]; done) | (rw [e]; simp only [List.append_assoc])
    · intro c2
      try (first | replace c2 := of_decide_eq_false c2 | replace c2 := of_nd_false c2)
      refine WC_seq ?_
      refine WC_region ?_
      refine WL_op rfl (Ex_eql rfl rfl) ?_
      refine WL_op rfl (Ex_assign rfl) ?_
      refine WL_nil ?_
      refine WQ_next ?_
      refine WC_if rfl ?_ ?_  -- cond 3 write.go:116
      · intro c3
        try (first | replace c3 := of_decide_eq_true c3 | replace c3 := of_nd_true c3)
        have e := instrL_3 c3; rw [e] at hl; simp only [List.length_append] at hl
        refine WC_region ?_
        refine WL_op rfl (Ex_move rfl) ?_
        refine WL_op rfl (Ex_field (ff rfl) rfl) ?_
        refine WL_op rfl (Ex_load (t1 rfl) rfl (cell_mine 0 rfl rfl)) ?_
        refine WL_callW fn193 rfl rfl 1 rfl h0.base h0.F (wrTwo_any U b i.n) (by (try simp only [List.length_append]); omega) ?_
        intro v4
        refine WL_nil ?_
        refine WQ_bnext ?_
        refine wr_end h0 rfl (i := 1) rfl ?_
        first | (rw [e]; done) | (rw [e]; simp only [List.append_assoc])
      · intro c3
        try (first | replace c3 := of_decide_eq_false c3 | replace c3 := of_nd_false c3)
        refine WC_seq ?_
        refine WC_region ?_
        refine WL_op rfl (Ex_eql rfl rfl) ?_
        refine WL_op rfl (Ex_assign rfl) ?_
        refine WL_nil ?_
        refine WQ_next ?_
        refine WC_if rfl ?_ ?_  -- cond 4 write.go:118
        · intro c4
          try (first | replace c4 := of_decide_eq_true c4 | replace c4 := of_nd_true c4)
          have e := instrL_4 c4; rw [e] at hl; simp only [List.length_append] at hl
          refine WC_region ?_
          refine WL_op rfl (Ex_move rfl) ?_
          refine WL_op rfl (Ex_field (ff rfl) rfl) ?_
          refine WL_op rfl (Ex_field (ff rfl) rfl) ?_
          refine WL_op rfl (Ex_load (t1 rfl) rfl (cell_mine 0 rfl rfl)) ?_
          refine WL_callW fn121 rfl rfl 1 rfl h0.base h0.F (wrName_any U b i.ref.cls) (by (try simp only [List.length_append]); omega) ?_
          intro v5
          refine WL_nil ?_
          refine WQ_bnext ?_
          refine wr_end h0 rfl (i := 1) rfl ?_
          first | (rw [e]; done) | (rw [e]; simp only [List.append_assoc])
        · intro c4
          try (first | replace c4 := of_decide_eq_false c4 | replace c4 := of_nd_false c4)
          refine WC_seq ?_
          refine WC_region ?_
          refine WL_op rfl (Ex_eql rfl rfl) ?_
          refine WL_op rfl (Ex_assign rfl) ?_
          refine WL_nil ?_
          refine WQ_next ?_
          refine WC_if rfl ?_ ?_  -- cond 5 write.go:120
          · intro c5
            try (first | replace c5 := of_decide_eq_true c5 | replace c5 := of_nd_true c5)
            have e := instrL_5 c5; rw [e] at hl; simp only [List.length_append] at hl
            refine WC_seq ?_
            refine WC_region ?_
            refine WL_op rfl (Ex_move rfl) ?_
            refine WL_op rfl (Ex_field (ff rfl) rfl) ?_
            refine WL_op rfl (Ex_field (ff rfl) rfl) ?_
            refine WL_op rfl (Ex_load (t1 rfl) rfl (cell_mine 0 rfl rfl)) ?_
            refine WL_callW fn121 rfl rfl 1 rfl h0.base h0.F (wrName_any U b i.ref.cls) (by (try simp only [List.length_append]); omega) ?_
            intro v6
            refine WL_nil ?_
            refine WQ_next ?_
            refine WC_seq ?_
            refine WC_region ?_
            refine WL_op rfl (Ex_move rfl) ?_
            refine WL_op rfl (Ex_field (ff rfl) rfl) ?_
            refine WL_op rfl (Ex_field (ff rfl) rfl) ?_
            refine WL_op rfl (Ex_load (t1 rfl) rfl (cell_mine 0 rfl rfl)) ?_
            refine WL_callW fn121 rfl rfl 1 rfl h0.base h0.F (wrName_any U b i.ref.name) (by (try simp only [List.length_append]); omega) ?_
            intro v7
            refine WL_nil ?_
            refine WQ_next ?_
            refine WC_region ?_
            refine WL_op rfl (Ex_move rfl) ?_
            refine WL_op rfl (Ex_field (ff rfl) rfl) ?_
            refine WL_op rfl (Ex_field (ff rfl) rfl) ?_
            refine WL_op rfl (Ex_loadM (tn rfl) rfl 0 rfl rfl) ?_
            refine WL_callW fn124 rfl rfl 1 rfl h0.base h0.F (wrTyp_any U b i.ref.ty) (by (try simp only [List.length_append]); omega) ?_
            intro v8
            refine WL_nil ?_
            refine WQ_bnext ?_
            refine wr_end h0 rfl (i := 1) rfl ?_
            first | (rw [e]; done) | (rw [e]; simp only [List.append_assoc])
          · intro c5
            try (first | replace c5 := of_decide_eq_false c5 | replace c5 := of_nd_false c5)
            refine WC_seq ?_
            refine WC_region ?_
            refine WL_op rfl (Ex_eql rfl rfl) ?_
            refine WL_op rfl (Ex_assign rfl) ?_
            refine WL_nil ?_
            refine WQ_next ?_
            refine WC_if rfl ?_ ?_  -- cond 6 write.go:124
            · intro c6
              try (first | replace c6 := of_decide_eq_true c6 | replace c6 := of_nd_true c6)
              have e := instrL_6 c6; rw [e] at hl; simp only [List.length_append] at hl
              refine WC_seq ?_
              refine WC_region ?_
              refine WL_op rfl (Ex_move rfl) ?_
              refine WL_op rfl (Ex_field (ff rfl) rfl) ?_
              refine WL_op rfl (Ex_field (ff rfl) rfl) ?_
              refine WL_op rfl (Ex_load (t1 rfl) rfl (cell_mine 0 rfl rfl)) ?_
              refine WL_callW fn121 rfl rfl 1 rfl h0.base h0.F (wrName_any U b i.ref.cls) (by (try simp only [List.length_append]); omega) ?_
              intro v9
              refine WL_nil ?_
              refine WQ_next ?_
              refine WC_seq ?_
              refine WC_region ?_
              refine WL_op rfl (Ex_move rfl) ?_
              refine WL_op rfl (Ex_field (ff rfl) rfl) ?_
              refine WL_op rfl (Ex_field (ff rfl) rfl) ?_
              refine WL_op rfl (Ex_load (t1 rfl) rfl (cell_mine 0 rfl rfl)) ?_
              refine WL_callW fn121 rfl rfl 1 rfl h0.base h0.F (wrName_any U b i.ref.name) (by (try simp only [List.length_append]); omega) ?_
              intro v10
              refine WL_nil ?_
              refine WQ_next ?_
              refine WC_seq ?_
              refine WC_region ?_
              refine WL_op rfl (Ex_move rfl) ?_
              refine WL_op rfl (Ex_field (ff rfl) rfl) ?_
              refine WL_op rfl (Ex_field (ff rfl) rfl) ?_
              refine WL_op rfl (Ex_load (t1 rfl) rfl (cell_mine 0 rfl rfl)) ?_
              refine WL_callW fn192 rfl rfl 1 rfl h0.base h0.F (wrTypes_any U b pv i.ref.params hp) (by (try simp only [List.length_append]); omega) ?_
              intro v11
              refine WL_nil ?_
              refine WQ_next ?_
              refine WC_region ?_
              refine WL_op rfl (Ex_move rfl) ?_
              refine WL_op rfl (Ex_field (ff rfl) rfl) ?_
              refine WL_op rfl (Ex_field (ff rfl) rfl) ?_
              refine WL_op rfl (Ex_loadM (tn rfl) rfl 0 rfl rfl) ?_
              refine WL_callW fn124 rfl rfl 1 rfl h0.base h0.F (wrTyp_any U b i.ref.ty) (by (try simp only [List.length_append]); omega) ?_
              intro v12
              refine WL_nil ?_
              refine WQ_bnext ?_
              refine wr_end h0 rfl (i := 1) rfl ?_
              first | (rw [e]; done) | (rw [e]; simp only [List.append_assoc])
            · intro c6
              try (first | replace c6 := of_decide_eq_false c6 | replace c6 := of_nd_false c6)
              have e := instrL_0 c1 c2 c3 c4 c5 c6
              refine WC_skip ?_
              refine WQ_bnext ?_
              refine wr_end h0 rfl (i := 1) rfl ?_
              first | (rw [e]; done) | (rw [e]; simp only [List.append_assoc])
def hdL (h : Hd) : List UInt8 := dl (lowS h.lo 2) ++ dl (lowS h.hi 2) ++ dl (lowS h.pos 2) ++ dl (nameS h.cls)
theorem wrHandler_any (U : World) (b : Nat) (h : Hd) : WrP Tryz.prog 195 #[.pointer (some ⟨b, 0, none⟩), .agg (hdV h).toArray] U b (hdL h) := by
  intro w v bs h0 hl
  unfold hdL at hl
  simp only [List.length_append] at hl
  refine opensF (h0.sat) (args := [.pointer (some ⟨b, 0, none⟩), .agg (hdV h).toArray]) Tryz.func195 rfl Tryz.ntmps195 ?_
  refine WC_seq ?_
  refine WC_region ?_
  refine WL_box rfl rfl ?_
  intro b1 hb1
  refine WL_nil ?_
  refine WQ_next ?_
  refine WC_seq ?_
  refine WC_region ?_
  refine WL_op rfl (Ex_move rfl) ?_
  refine WL_op rfl (Ex_field (ff rfl) rfl) ?_
  refine WL_op rfl (Ex_load (t1 rfl) rfl (cell_mine 0 rfl rfl)) ?_
  refine WL_callW fn193 rfl rfl 1 rfl h0.base h0.F (wrTwo_any U b h.lo) (by (try simp only [List.length_append]); omega) ?_
  intro v1
  refine WL_nil ?_
  refine WQ_next ?_
  refine WC_seq ?_
  refine WC_region ?_
  refine WL_op rfl (Ex_move rfl) ?_
  refine WL_op rfl (Ex_field (ff rfl) rfl) ?_
  refine WL_op rfl (Ex_load (t1 rfl) rfl (cell_mine 0 rfl rfl)) ?_
  refine WL_callW fn193 rfl rfl 1 rfl h0.base h0.F (wrTwo_any U b h.hi) (by (try simp only [List.length_append]); omega) ?_
  intro v2
  refine WL_nil ?_
  refine WQ_next ?_
  refine WC_seq ?_
  refine WC_region ?_
  refine WL_op rfl (Ex_move rfl) ?_
  refine WL_op rfl (Ex_field (ff rfl) rfl) ?_
  refine WL_op rfl (Ex_load (t1 rfl) rfl (cell_mine 0 rfl rfl)) ?_
  refine WL_callW fn193 rfl rfl 1 rfl h0.base h0.F (wrTwo_any U b h.pos) (by (try simp only [List.length_append]); omega) ?_
  intro v3
  refine WL_nil ?_
  refine WQ_next ?_
  refine WC_region ?_
  refine WL_op rfl (Ex_move rfl) ?_
  refine WL_op rfl (Ex_field (ff rfl) rfl) ?_
  refine WL_op rfl (Ex_load (t1 rfl) rfl (cell_mine 0 rfl rfl)) ?_
  refine WL_callW fn121 rfl rfl 1 rfl h0.base h0.F (wrName_any U b h.cls) (by (try simp only [List.length_append]); omega) ?_
  intro v4
  refine WL_nil ?_
  refine wr_end h0 rfl (i := 1) rfl ?_
  unfold hdL; simp only [List.append_assoc]
def frL (f : Fr) : List UInt8 := dl (lowS f.pos 2) ++ dl (typesS f.locals) ++ dl (typesS f.stack)
theorem wrFrame_any (U : World) (b : Nat) (f : Fr) (lv sv : Value) (hlv : TysAt U lv f.locals) (hsv : TysAt U sv f.stack) : WrP Tryz.prog 196 #[.pointer (some ⟨b, 0, none⟩), .agg (frV f lv sv).toArray] U b (frL f) := by
  intro w v bs h0 hl
  unfold frL at hl
  simp only [List.length_append] at hl
  refine opensF (h0.sat) (args := [.pointer (some ⟨b, 0, none⟩), .agg (frV f lv sv).toArray]) Tryz.func196 rfl Tryz.ntmps196 ?_
  refine WC_seq ?_
  refine WC_region ?_
  refine WL_box rfl rfl ?_
  intro b1 hb1
  refine WL_nil ?_
  refine WQ_next ?_
  refine WC_seq ?_
  refine WC_region ?_
  refine WL_op rfl (Ex_move rfl) ?_
  refine WL_op rfl (Ex_field (ff rfl) rfl) ?_
  refine WL_op rfl (Ex_load (t1 rfl) rfl (cell_mine 0 rfl rfl)) ?_
  refine WL_callW fn193 rfl rfl 1 rfl h0.base h0.F (wrTwo_any U b f.pos) (by (try simp only [List.length_append]); omega) ?_
  intro v1
  refine WL_nil ?_
  refine WQ_next ?_
  refine WC_seq ?_
  refine WC_region ?_
  refine WL_op rfl (Ex_move rfl) ?_
  refine WL_op rfl (Ex_field (ff rfl) rfl) ?_
  refine WL_op rfl (Ex_load (t1 rfl) rfl (cell_mine 0 rfl rfl)) ?_
  refine WL_callW fn192 rfl rfl 1 rfl h0.base h0.F (wrTypes_any U b lv f.locals hlv) (by (try simp only [List.length_append]); omega) ?_
  intro v2
  refine WL_nil ?_
  refine WQ_next ?_
  refine WC_region ?_
  refine WL_op rfl (Ex_move rfl) ?_
  refine WL_op rfl (Ex_field (ff rfl) rfl) ?_
  refine WL_op rfl (Ex_load (t1 rfl) rfl (cell_mine 0 rfl rfl)) ?_
  refine WL_callW fn192 rfl rfl 1 rfl h0.base h0.F (wrTypes_any U b sv f.stack hsv) (by (try simp only [List.length_append]); omega) ?_
  intro v3
  refine WL_nil ?_
  refine wr_end h0 rfl (i := 1) rfl ?_
  unfold frL; simp only [List.append_assoc]
def insL (i : Ins) : List UInt8 := dl (instrS i)
def headL (m : Me) : List UInt8 := dl (nameS m.name) ++ dl (flagS m.stat) ++ dl (typesS m.params) ++ dl (oneTypeS m.result) ++ dl (lowS m.locals 1) ++ dl (lowS m.stack 1) ++ dl (lowS (m.code.length : Nat) 2)
theorem dl_methodS (m : Me) : dl (methodS m) = headL m ++ m.code.flatMap insL ++ dl (lowS (m.handlers.length : Nat) 1) ++ m.handlers.flatMap hdL ++ dl (lowS (m.frames.length : Nat) 1) ++ m.frames.flatMap frL := by
  unfold methodS hdsS codeS
  rw [dl_fold frS frL (fun s f => by unfold frS frL; simp only [dl_append, List.append_assoc]), dl_append, dl_fold hdS hdL (fun s f => by unfold hdS hdL; simp only [dl_append, List.append_assoc]), dl_append,
    dl_fold _ insL (fun s i => dl_append s _)]
  unfold headS headL
  simp only [dl_append, List.append_assoc]
theorem wrMethod_any (U : World) (b : Nat) (m : Me) (pv cv hv fv : Value) (hm : MeParts U m pv cv hv fv) : WrP Tryz.prog 125 #[.pointer (some ⟨b, 0, none⟩), .agg (meV m pv cv hv fv).toArray] U b (dl (methodS m)) := by
  intro w v bs h0 hl
  have hps := hm.ps
  obtain ⟨p1, e1, rfl, -, -⟩ := hm.ps.is
  obtain ⟨p2, e2, rfl, hk2, hr2⟩ := hm.cs.is
  obtain ⟨p3, e3, rfl, hk3, hr3⟩ := hm.hs.is
  obtain ⟨p4, e4, rfl, hk4, hr4⟩ := hm.fs.is
  replace hr2 : Hid _ := hr2
  replace hr3 : Hid _ := hr3
  replace hr4 : Hid _ := hr4
  clear hm
  rw [dl_methodS] at hl ⊢
  have hl' := hl
  unfold headL at hl
  simp only [List.length_append] at hl hl'
  refine opensF (h0.sat) (args := [.pointer (some ⟨b, 0, none⟩), .agg (meV m (.slice p1 m.params.length e1) (.slice p2 m.code.length e2) (.slice p3 m.handlers.length e3) (.slice p4 m.frames.length e4)).toArray]) Tryz.func125 rfl Tryz.ntmps125 ?_
  refine WC_seq ?_
  refine WC_region ?_
  refine WL_box rfl rfl ?_
  intro b1 hb1
  refine WL_nil ?_
  refine WQ_next ?_
  refine WC_seq ?_
  refine WC_region ?_
  refine WL_op rfl (Ex_move rfl) ?_
  refine WL_op rfl (Ex_field (ff rfl) rfl) ?_
  refine WL_op rfl (Ex_load (t1 rfl) rfl (cell_mine 0 rfl rfl)) ?_
  refine WL_callW fn121 rfl rfl 1 rfl h0.base h0.F (wrName_any U b m.name) (by (try simp only [List.length_append]); omega) ?_
  intro v1
  refine WL_nil ?_
  refine WQ_next ?_
  refine WC_seq ?_
  refine WC_region ?_
  refine WL_op rfl (Ex_move rfl) ?_
  refine WL_op rfl (Ex_field (ff rfl) rfl) ?_
  refine WL_op rfl (Ex_load (t1 rfl) rfl (cell_mine 0 rfl rfl)) ?_
  refine WL_callW fn123 rfl rfl 1 rfl h0.base h0.F (wrFlag_any U b m.stat) (by (try simp only [List.length_append]); omega) ?_
  intro v2
  refine WL_nil ?_
  refine WQ_next ?_
  refine WC_seq ?_
  refine WC_region ?_
  refine WL_op rfl (Ex_move rfl) ?_
  refine WL_op rfl (Ex_field (ff rfl) rfl) ?_
  refine WL_op rfl (Ex_load (t1 rfl) rfl (cell_mine 0 rfl rfl)) ?_
  refine WL_callW fn192 rfl rfl 1 rfl h0.base h0.F (wrTypes_any U b _ m.params hps) (by (try simp only [List.length_append]); omega) ?_
  intro v3
  refine WL_nil ?_
  refine WQ_next ?_
  refine WC_seq ?_
  refine WC_region ?_
  refine WL_op rfl (Ex_move rfl) ?_
  refine WL_op rfl (Ex_field (ff rfl) rfl) ?_
  refine WL_op rfl (Ex_loadM (tn rfl) rfl 0 rfl rfl) ?_
  refine WL_callW fn124 rfl rfl 1 rfl h0.base h0.F (wrTyp_any U b m.result) (by (try simp only [List.length_append]); omega) ?_
  intro v4
  refine WL_nil ?_
  refine WQ_next ?_
  refine WC_seq ?_
  refine WC_region ?_
  refine WL_op rfl (Ex_move rfl) ?_
  refine WL_op rfl (Ex_field (ff rfl) rfl) ?_
  refine WL_op rfl (Ex_load (t1 rfl) rfl (cell_mine 0 rfl rfl)) ?_
  refine WL_callW fn122 rfl rfl 1 rfl h0.base h0.F (wrByte_any U b m.locals) (by (try simp only [List.length_append]); omega) ?_
  intro v5
  refine WL_nil ?_
  refine WQ_next ?_
  refine WC_seq ?_
  refine WC_region ?_
  refine WL_op rfl (Ex_move rfl) ?_
  refine WL_op rfl (Ex_field (ff rfl) rfl) ?_
  refine WL_op rfl (Ex_load (t1 rfl) rfl (cell_mine 0 rfl rfl)) ?_
  refine WL_callW fn122 rfl rfl 1 rfl h0.base h0.F (wrByte_any U b m.stack) (by (try simp only [List.length_append]); omega) ?_
  intro v6
  refine WL_nil ?_
  refine WQ_next ?_
  refine WC_seq ?_
  refine WC_region ?_
  refine WL_op rfl (Ex_move rfl) ?_
  refine WL_op rfl (Ex_field (ff rfl) rfl) ?_
  refine WL_op rfl (Ex_load (t1 rfl) rfl (cell_mine 0 rfl rfl)) ?_
  refine WL_op rfl (Ex_lenL (ts rfl) rfl) ?_
  refine WL_callW fn193 rfl rfl 1 rfl h0.base h0.F (wrTwo_any U b (m.code.length : Nat)) (by (try simp only [List.length_append]); omega) ?_
  intro v7
  refine WL_nil ?_
  refine WQ_next ?_
  refine WC_seq ?_
  refine WC_seq ?_
  refine WC_region ?_
  refine WL_op rfl (Ex_field (ff rfl) rfl) ?_
  refine WL_op rfl (Ex_load (t1 rfl) rfl (cell_mine 0 rfl rfl)) ?_
  refine WL_op rfl (Ex_lenL (ts rfl) rfl) ?_
  refine WL_op rfl (Ex_move rfl) ?_
  refine WL_nil ?_
  refine WQ_next ?_
  refine WC_block ?_
  refine WC_res (congrArg (wrA _) (show _ = bs ++ headL m ++ (m.code.take 0).flatMap insL from by unfold headL; simp only [List.append_assoc, List.take_zero, List.flatMap_nil, List.append_nil])) ?_
  refine WC_sub (E' := (fun x : Nat × Value => [(0, .pointer (some ⟨b, 0, none⟩)), (3, .pointer (some ⟨b1, 0, none⟩)), (40, .slice p2 m.code.length e2), (41, .int .i64 (m.code.length : Nat)), (42, .int .i64 (x.1 : Nat))]) ((0, v7))) ⟨rfl, rfl, rfl, rfl, rfl, trivial⟩ (WC_loop (X := Nat × Value) (fun x : Nat × Value => [(0, .pointer (some ⟨b, 0, none⟩)), (3, .pointer (some ⟨b1, 0, none⟩)), (40, .slice p2 m.code.length e2), (41, .int .i64 (m.code.length : Nat)), (42, .int .i64 (x.1 : Nat))]) _ _ (fun x : Nat × Value => [(b1, meV m (.slice p1 m.params.length e1) (.slice p2 m.code.length e2) (.slice p3 m.handlers.length e3) (.slice p4 m.frames.length e4)), (b, [x.2])]) (fun x : Nat × Value => wrA x.2 (bs ++ headL m ++ (m.code.take x.1).flatMap insL)) (fun x : Nat × Value => x.1 ≤ m.code.length) (fun x : Nat × Value => m.code.length - x.1) ((0, v7)) (Nat.zero_le _) ?_)
  intro x hI
  refine WC_seq ?_
  refine WC_region ?_
  refine WL_op rfl (Ex_lss rfl rfl) ?_
  refine WL_nil ?_
  refine WQ_next ?_
  refine WC_seq ?_
  refine WC_if rfl ?_ ?_  -- cond 1 write.go:96
  · intro c1
    try (first | replace c1 := of_decide_eq_true c1 | replace c1 := of_nd_true c1)
    have hx : x.1 < m.code.length := by omega
    obtain ⟨b', o', r, hp, hb, ⟨qv, hr, hq, -⟩, hc⟩ := hr2.out x.1 m.code[x.1] (List.getElem?_eq_getElem hx)
    subst hp; subst hr
    obtain ⟨q1, g1, rfl, -, -⟩ := hq.is
    refine WC_skip ?_
    refine WQ_next ?_
    refine WC_seq ?_
    refine WC_block ?_
    refine WC_seq ?_
    refine WC_region ?_
    refine WL_op rfl (Ex_at (ts rfl) rfl rfl ?_) ?_
    · omega
    refine WL_op rfl (Ex_loadN (tn rfl) rfl (row_oldU h0.base h0.F hb hc) rfl) ?_
    refine WL_alloc rfl (tz rfl) ?_
    intro b2 hb2
    refine WL_storeN (tn rfl) rfl rfl 0 rfl rfl rfl rfl ?_
    refine WL_nil ?_
    refine WQ_next ?_
    refine WC_region ?_
    refine WL_op rfl (Ex_move rfl) ?_
    refine WL_op rfl (Ex_loadM (tn rfl) rfl 0 rfl rfl) ?_
    refine WL_callW fn194 rfl rfl 2 rfl h0.base h0.F (wrInstr_any U b m.code[x.1] _ hq) (by have hr := flat_room insL m.code x.1 hx; unfold insL at *; simp only [List.length_append]; omega) ?_
    intro v8
    refine WL_nil ?_
    refine WQ_bnext ?_
    refine WQ_next ?_
    refine WC_region ?_
    (first | (refine WL_op rfl (Ex_inc rfl rfl ?_) ?_; omega) | (refine WL_op rfl (Ex_addB rfl rfl ?_) ?_; omega) | refine WL_op rfl (Ex_add rfl rfl) ?_)
    refine WL_op rfl (Ex_move rfl) ?_
    refine WL_nil ?_
    refine WQ_again ((x.1 + 1, v8)) ?_ (hx) 1 rfl (congrArg (wrA v8) (by rw [flat_next insL m.code x.1 hx, ← List.append_assoc]; rfl)) ⟨rfl, rfl, rfl, rfl, rfl, trivial⟩
    omega
  · intro c1
    try (first | replace c1 := of_decide_eq_false c1 | replace c1 := of_nd_false c1)
    refine WC_exit ?_
    refine WQ_exit ?_
    refine WQ_lexit ?_
    refine WQ_here ?_
    refine WQ_next ?_
    refine WC_seq ?_
    refine WC_res (congrArg (wrA _) (show _ = bs ++ headL m ++ m.code.flatMap insL from by rw [flat_all insL m.code x.1 (by omega)])) ?_
    refine WC_region ?_
    refine WL_op rfl (Ex_move rfl) ?_
    refine WL_op rfl (Ex_field (ff rfl) rfl) ?_
    refine WL_op rfl (Ex_load (t1 rfl) rfl (cell_mine 0 rfl rfl)) ?_
    refine WL_op rfl (Ex_lenL (ts rfl) rfl) ?_
    refine WL_callW fn122 rfl rfl 1 rfl h0.base h0.F (wrByte_any U b (m.handlers.length : Nat)) (by (try simp only [List.length_append]); omega) ?_
    intro v9
    refine WL_nil ?_
    refine WQ_next ?_
    refine WC_seq ?_
    refine WC_seq ?_
    refine WC_region ?_
    refine WL_op rfl (Ex_field (ff rfl) rfl) ?_
    refine WL_op rfl (Ex_load (t1 rfl) rfl (cell_mine 0 rfl rfl)) ?_
    refine WL_op rfl (Ex_lenL (ts rfl) rfl) ?_
    refine WL_op rfl (Ex_move rfl) ?_
    refine WL_nil ?_
    refine WQ_next ?_
    refine WC_block ?_
    refine WC_res (congrArg (wrA _) (show _ = bs ++ headL m ++ m.code.flatMap insL ++ dl (lowS (m.handlers.length : Nat) 1) ++ (m.handlers.take 0).flatMap hdL from by simp only [List.take_zero, List.flatMap_nil, List.append_nil])) ?_
    refine WC_sub (E' := (fun y : Nat × Value => [(0, .pointer (some ⟨b, 0, none⟩)), (3, .pointer (some ⟨b1, 0, none⟩)), (56, .slice p3 m.handlers.length e3), (57, .int .i64 (m.handlers.length : Nat)), (58, .int .i64 (y.1 : Nat))]) ((0, v9))) ⟨rfl, rfl, rfl, rfl, rfl, trivial⟩ (WC_loop (X := Nat × Value) (fun y : Nat × Value => [(0, .pointer (some ⟨b, 0, none⟩)), (3, .pointer (some ⟨b1, 0, none⟩)), (56, .slice p3 m.handlers.length e3), (57, .int .i64 (m.handlers.length : Nat)), (58, .int .i64 (y.1 : Nat))]) _ _ (fun y : Nat × Value => [(b1, meV m (.slice p1 m.params.length e1) (.slice p2 m.code.length e2) (.slice p3 m.handlers.length e3) (.slice p4 m.frames.length e4)), (b, [y.2])]) (fun y : Nat × Value => wrA y.2 (bs ++ headL m ++ m.code.flatMap insL ++ dl (lowS (m.handlers.length : Nat) 1) ++ (m.handlers.take y.1).flatMap hdL)) (fun y : Nat × Value => y.1 ≤ m.handlers.length) (fun y : Nat × Value => m.handlers.length - y.1) ((0, v9)) (Nat.zero_le _) ?_)
    intro y hI
    refine WC_seq ?_
    refine WC_region ?_
    refine WL_op rfl (Ex_lss rfl rfl) ?_
    refine WL_nil ?_
    refine WQ_next ?_
    refine WC_seq ?_
    refine WC_if rfl ?_ ?_  -- cond 2 write.go:100
    · intro c2
      try (first | replace c2 := of_decide_eq_true c2 | replace c2 := of_nd_true c2)
      have hy : y.1 < m.handlers.length := by omega
      obtain ⟨b', o', r, hp, hb, ⟨hr, -⟩, hc⟩ := hr3.out y.1 m.handlers[y.1] (List.getElem?_eq_getElem hy)
      subst hp; subst hr
      refine WC_skip ?_
      refine WQ_next ?_
      refine WC_seq ?_
      refine WC_block ?_
      refine WC_seq ?_
      refine WC_region ?_
      refine WL_op rfl (Ex_at (ts rfl) rfl rfl ?_) ?_
      · omega
      refine WL_op rfl (Ex_loadN (tn rfl) rfl (row_oldU h0.base h0.F hb hc) rfl) ?_
      refine WL_alloc rfl (tz rfl) ?_
      intro b2 hb2
      refine WL_storeN (tn rfl) rfl rfl 0 rfl rfl rfl rfl ?_
      refine WL_nil ?_
      refine WQ_next ?_
      refine WC_region ?_
      refine WL_op rfl (Ex_move rfl) ?_
      refine WL_op rfl (Ex_loadM (tn rfl) rfl 0 rfl rfl) ?_
      refine WL_callW fn195 rfl rfl 2 rfl h0.base h0.F (wrHandler_any U b m.handlers[y.1]) (by have hr := flat_room hdL m.handlers y.1 hy; simp only [List.length_append]; omega) ?_
      intro v10
      refine WL_nil ?_
      refine WQ_bnext ?_
      refine WQ_next ?_
      refine WC_region ?_
      (first | (refine WL_op rfl (Ex_inc rfl rfl ?_) ?_; omega) | (refine WL_op rfl (Ex_addB rfl rfl ?_) ?_; omega) | refine WL_op rfl (Ex_add rfl rfl) ?_)
      refine WL_op rfl (Ex_move rfl) ?_
      refine WL_nil ?_
      refine WQ_again ((y.1 + 1, v10)) ?_ (hy) 1 rfl (congrArg (wrA v10) (by rw [flat_next hdL m.handlers y.1 hy, ← List.append_assoc])) ⟨rfl, rfl, rfl, rfl, rfl, trivial⟩
      omega
    · intro c2
      try (first | replace c2 := of_decide_eq_false c2 | replace c2 := of_nd_false c2)
      refine WC_exit ?_
      refine WQ_exit ?_
      refine WQ_lexit ?_
      refine WQ_here ?_
      refine WQ_next ?_
      refine WC_seq ?_
      refine WC_res (congrArg (wrA _) (show _ = bs ++ headL m ++ m.code.flatMap insL ++ dl (lowS (m.handlers.length : Nat) 1) ++ m.handlers.flatMap hdL from by rw [flat_all hdL m.handlers y.1 (by omega)])) ?_
      refine WC_region ?_
      refine WL_op rfl (Ex_move rfl) ?_
      refine WL_op rfl (Ex_field (ff rfl) rfl) ?_
      refine WL_op rfl (Ex_load (t1 rfl) rfl (cell_mine 0 rfl rfl)) ?_
      refine WL_op rfl (Ex_lenL (ts rfl) rfl) ?_
      refine WL_callW fn122 rfl rfl 1 rfl h0.base h0.F (wrByte_any U b (m.frames.length : Nat)) (by (try simp only [List.length_append]); omega) ?_
      intro v11
      refine WL_nil ?_
      refine WQ_next ?_
      refine WC_seq ?_
      refine WC_region ?_
      refine WL_op rfl (Ex_field (ff rfl) rfl) ?_
      refine WL_op rfl (Ex_load (t1 rfl) rfl (cell_mine 0 rfl rfl)) ?_
      refine WL_op rfl (Ex_lenL (ts rfl) rfl) ?_
      refine WL_op rfl (Ex_move rfl) ?_
      refine WL_nil ?_
      refine WQ_next ?_
      refine WC_block ?_
      refine WC_res (congrArg (wrA _) (show _ = bs ++ headL m ++ m.code.flatMap insL ++ dl (lowS (m.handlers.length : Nat) 1) ++ m.handlers.flatMap hdL ++ dl (lowS (m.frames.length : Nat) 1) ++ (m.frames.take 0).flatMap frL from by simp only [List.take_zero, List.flatMap_nil, List.append_nil])) ?_
      refine WC_sub (E' := (fun z : Nat × Value => [(0, .pointer (some ⟨b, 0, none⟩)), (3, .pointer (some ⟨b1, 0, none⟩)), (72, .slice p4 m.frames.length e4), (73, .int .i64 (m.frames.length : Nat)), (74, .int .i64 (z.1 : Nat))]) ((0, v11))) ⟨rfl, rfl, rfl, rfl, rfl, trivial⟩ (WC_loop (X := Nat × Value) (fun z : Nat × Value => [(0, .pointer (some ⟨b, 0, none⟩)), (3, .pointer (some ⟨b1, 0, none⟩)), (72, .slice p4 m.frames.length e4), (73, .int .i64 (m.frames.length : Nat)), (74, .int .i64 (z.1 : Nat))]) _ _ (fun z : Nat × Value => [(b1, meV m (.slice p1 m.params.length e1) (.slice p2 m.code.length e2) (.slice p3 m.handlers.length e3) (.slice p4 m.frames.length e4)), (b, [z.2])]) (fun z : Nat × Value => wrA z.2 (bs ++ headL m ++ m.code.flatMap insL ++ dl (lowS (m.handlers.length : Nat) 1) ++ m.handlers.flatMap hdL ++ dl (lowS (m.frames.length : Nat) 1) ++ (m.frames.take z.1).flatMap frL)) (fun z : Nat × Value => z.1 ≤ m.frames.length) (fun z : Nat × Value => m.frames.length - z.1) ((0, v11)) (Nat.zero_le _) ?_)
      intro z hI
      refine WC_seq ?_
      refine WC_region ?_
      refine WL_op rfl (Ex_lss rfl rfl) ?_
      refine WL_nil ?_
      refine WQ_next ?_
      refine WC_seq ?_
      refine WC_if rfl ?_ ?_  -- cond 3 write.go:104
      · intro c3
        try (first | replace c3 := of_decide_eq_true c3 | replace c3 := of_nd_true c3)
        have hz : z.1 < m.frames.length := by omega
        obtain ⟨b', o', r, hp, hb, ⟨lv, sv, hr, hq1, hq2, -⟩, hc⟩ := hr4.out z.1 m.frames[z.1] (List.getElem?_eq_getElem hz)
        subst hp; subst hr
        obtain ⟨q1, g1, rfl, -, -⟩ := hq1.is
        obtain ⟨q2, g2, rfl, -, -⟩ := hq2.is
        refine WC_skip ?_
        refine WQ_next ?_
        refine WC_seq ?_
        refine WC_block ?_
        refine WC_seq ?_
        refine WC_region ?_
        refine WL_op rfl (Ex_at (ts rfl) rfl rfl ?_) ?_
        · omega
        refine WL_op rfl (Ex_loadN (tn rfl) rfl (row_oldU h0.base h0.F hb hc) rfl) ?_
        refine WL_alloc rfl (tz rfl) ?_
        intro b2 hb2
        refine WL_storeN (tn rfl) rfl rfl 0 rfl rfl rfl rfl ?_
        refine WL_nil ?_
        refine WQ_next ?_
        refine WC_region ?_
        refine WL_op rfl (Ex_move rfl) ?_
        refine WL_op rfl (Ex_loadM (tn rfl) rfl 0 rfl rfl) ?_
        refine WL_callW fn196 rfl rfl 2 rfl h0.base h0.F (wrFrame_any U b m.frames[z.1] _ _ hq1 hq2) (by have hr := flat_room frL m.frames z.1 hz; simp only [List.length_append]; omega) ?_
        intro v12
        refine WL_nil ?_
        refine WQ_bnext ?_
        refine WQ_next ?_
        refine WC_region ?_
        (first | (refine WL_op rfl (Ex_inc rfl rfl ?_) ?_; omega) | (refine WL_op rfl (Ex_addB rfl rfl ?_) ?_; omega) | refine WL_op rfl (Ex_add rfl rfl) ?_)
        refine WL_op rfl (Ex_move rfl) ?_
        refine WL_nil ?_
        refine WQ_again ((z.1 + 1, v12)) ?_ (hz) 1 rfl (congrArg (wrA v12) (by rw [flat_next frL m.frames z.1 hz, ← List.append_assoc])) ⟨rfl, rfl, rfl, rfl, rfl, trivial⟩
        omega
      · intro c3
        try (first | replace c3 := of_decide_eq_false c3 | replace c3 := of_nd_false c3)
        refine WC_exit ?_
        refine WQ_exit ?_
        refine WQ_lexit ?_
        refine WQ_here ?_
        refine wr_end h0 rfl (i := 1) rfl ?_
        rw [flat_all frL m.frames z.1 (by omega)]; simp only [List.append_assoc]
end Go.Proofs.YtpofmnfkdkmieaaGreat
