/- What is proved here: the document's own answers method and Bytes write what the plain functions write, of what is a method, a class. -/
import Derived.Test.YtpofmnfkdkmieaaGreatQ06
set_option linter.unusedVariables false
set_option linter.unusedSimpArgs false
namespace Go.Proofs.YtpofmnfkdkmieaaGreat
open Go.RowKit At E

theorem isNameB_size {s : ByteArray} (h : isNameB s = true) : s.size ≤ 12 := by
  unfold isNameB at h
  simp only [Bool.and_eq_true, decide_eq_true_eq] at h
  exact h.1.2
theorem mt_size : (⟨#[]⟩ : ByteArray).size = 0 := rfl
theorem isTypeB_size {t : Ty} {v o : Bool} (h : isTypeB t v o = true) : t.cls.size ≤ 12 := by
  unfold isTypeB at h
  split at h
  · simp only [Bool.and_eq_true, decide_eq_true_eq] at h; rw [h.2, mt_size]; omega
  split at h
  · simp only [decide_eq_true_eq] at h; rw [h, mt_size]; omega
  split at h
  · exact isNameB_size h
  split at h
  · simp only [Bool.and_eq_true, decide_eq_true_eq] at h; rw [h.2, mt_size]; omega
  · cases h
theorem areTypesB_size {l : List Ty} {o : Bool} (h : areTypesB l o = true) : ∀ t ∈ l, t.cls.size ≤ 12 := by
  intro t ht
  unfold areTypesB at h
  exact isTypeB_size (List.all_eq_true.1 h t ht)
theorem isInstrB_small {i : Ins} {a : Int} {n : Nat} (h : isInstrB i a n = true) : i.ref.params.length ≤ 6 ∧ (∀ t ∈ i.ref.params, t.cls.size ≤ 12) ∧ (instrS i).size ≤ 200 := by
  unfold isInstrB at h
  split at h
  · cases h
  split at h
  · split at h
    · cases h
    · rename_i h1 h2 h3
      have hp : i.ref.params.length = 0 := by
        rcases Nat.eq_zero_or_pos i.ref.params.length with h0 | h0
        · exact h0
        · exact absurd (.inr (.inr (.inl (by omega)))) h3
      refine ⟨by omega, ?_, ?_⟩
      · intro t ht
        rw [List.length_eq_zero_iff.1 hp] at ht; cases ht
      · have e4 : ¬ sortB i.op = 4 := by omega
        have e5 : ¬ sortB i.op = 5 := by omega
        have e6 : ¬ sortB i.op = 6 := by omega
        unfold instrS
        rw [if_neg e4, if_neg e5, if_neg e6]
        split
        · simp only [ByteArray.size_append, lowS_size]; omega
        split
        · simp only [ByteArray.size_append, lowS_size]; omega
        split
        · simp only [ByteArray.size_append, lowS_size]; omega
        · simp only [lowS_size]; omega
  · rename_i h1 h2
    split at h
    · cases h
    · rename_i h3
      have hn : i.ref.cls.size ≤ 12 := by
        cases hb : isNameB i.ref.cls with
        | true => exact isNameB_size hb
        | false => exact absurd (.inr hb) h3
      have e1 : ¬ sortB i.op = 1 := by omega
      have e2 : ¬ sortB i.op = 2 := by omega
      have e3 : ¬ sortB i.op = 3 := by omega
      unfold instrS
      rw [if_neg e1, if_neg e2, if_neg e3]
      split at h
      · rename_i e4
        simp only [Bool.and_eq_true, decide_eq_true_eq] at h
        have hp : i.ref.params.length = 0 := by omega
        rw [if_pos e4]
        refine ⟨by omega, ?_, by simp only [ByteArray.size_append, lowS_size, nameS_size]; omega⟩
        intro t ht
        rw [List.length_eq_zero_iff.1 hp] at ht; cases ht
      · rename_i e4
        rw [if_neg e4]
        split at h
        · rename_i e5
          simp only [Bool.and_eq_true, decide_eq_true_eq] at h
          have hp : i.ref.params.length = 0 := by omega
          rw [if_pos e5]
          have ho := oneTypeS_le i.ref.ty
          have ht' := isTypeB_size h.2
          have hm := isNameB_size h.1.1
          refine ⟨by omega, ?_, by simp only [ByteArray.size_append, lowS_size, nameS_size]; omega⟩
          intro t ht
          rw [List.length_eq_zero_iff.1 hp] at ht; cases ht
        · rename_i e5
          rw [if_neg e5]
          simp only [Bool.and_eq_true, decide_eq_true_eq] at h
          have ho := oneTypeS_le i.ref.ty
          have ht' := isTypeB_size h.2
          have hm := isNameB_size h.1.1.1
          have h12 := areTypesB_size h.1.2
          have hT := typesS_le i.ref.params h12
          refine ⟨by omega, h12, ?_⟩
          split
          · simp only [ByteArray.size_append, lowS_size, nameS_size]; omega
          · simp only [lowS_size]; omega

def hdS (s : ByteArray) (h : Hd) : ByteArray := s ++ lowS h.lo 2 ++ lowS h.hi 2 ++ lowS h.pos 2 ++ nameS h.cls
def frS (s : ByteArray) (f : Fr) : ByteArray := s ++ lowS f.pos 2 ++ typesS f.locals ++ typesS f.stack
def headS (m : Me) : ByteArray := nameS m.name ++ flagS m.stat ++ typesS m.params ++ oneTypeS m.result ++ lowS m.locals 1 ++ lowS m.stack 1 ++ lowS (m.code.length : Nat) 2
def codeS (m : Me) : ByteArray := m.code.foldl (fun s i => s ++ instrS i) (headS m)
def hdsS (m : Me) : ByteArray := m.handlers.foldl hdS (codeS m ++ lowS (m.handlers.length : Nat) 1)
def methodS (m : Me) : ByteArray := m.frames.foldl frS (hdsS m ++ lowS (m.frames.length : Nat) 1)
theorem foldl_le {α : Type} (g : ByteArray → α → ByteArray) (c : Nat) : ∀ (l : List α) (s : ByteArray), (∀ s, ∀ x ∈ l, (g s x).size ≤ s.size + c) → (l.foldl g s).size ≤ s.size + l.length * c
  | [], s, _ => by simp
  | x :: r, s, h => by
    have ih := foldl_le g c r (g s x) (fun s y hy => h s y (List.mem_cons_of_mem _ hy))
    have hx := h s x List.mem_cons_self
    simp only [List.foldl_cons, List.length_cons, Nat.add_mul, Nat.one_mul]
    omega
structure MeSmall (m : Me) : Prop where
  nm : m.name.size ≤ 12
  ps : m.params.length ≤ 6
  pt : ∀ t ∈ m.params, t.cls.size ≤ 12
  rt : m.result.cls.size ≤ 12
  cl : m.code.length ≤ 200
  hl : m.handlers.length ≤ 10
  fl : m.frames.length ≤ 60
  ci : ∀ i ∈ m.code, i.ref.params.length ≤ 6 ∧ (∀ t ∈ i.ref.params, t.cls.size ≤ 12) ∧ (instrS i).size ≤ 200
  hi : ∀ h ∈ m.handlers, h.cls.size ≤ 12
  fi : ∀ f ∈ m.frames, f.locals.length ≤ 20 ∧ f.stack.length ≤ 20 ∧ (∀ t ∈ f.locals, t.cls.size ≤ 12) ∧ (∀ t ∈ f.stack, t.cls.size ≤ 12)
theorem isMethodB_small {m : Me} (h : isMethodB m = true) : MeSmall m := by
  unfold isMethodB isHeadB at h
  simp only [Bool.and_eq_true, decide_eq_true_eq] at h
  obtain ⟨⟨⟨⟨⟨⟨⟨⟨⟨⟨⟨⟨⟨⟨h1, h2⟩, h3⟩, h4⟩, h5⟩, h6⟩, h7⟩, h8⟩, h9⟩, h10⟩, h11⟩, h12⟩, h13⟩, h14⟩, h15⟩ := h
  refine ⟨isNameB_size h1, by omega, areTypesB_size h2, isTypeB_size h3, by omega, by omega, by omega, fun i hi => isInstrB_small (List.all_eq_true.1 h13 i hi), fun x hx => ?_, fun f hf => ?_⟩
  · have := List.all_eq_true.1 h14 x hx
    unfold isHdB at this
    simp only [Bool.and_eq_true, Bool.or_eq_true, decide_eq_true_eq] at this
    rcases this.2 with h' | h'
    · exact isNameB_size h'
    · rw [h', mt_size]; omega
  · obtain ⟨k, hk⟩ := List.mem_iff_getElem?.1 hf
    have hkl : k < m.frames.length := by
      rcases Nat.lt_or_ge k m.frames.length with h' | h'
      · exact h'
      · rw [List.getElem?_eq_none h'] at hk; cases hk
    have := List.all_eq_true.1 h15 k (List.mem_range.2 hkl)
    unfold frAt at this
    rw [hk] at this
    simp only [isFrB, Bool.and_eq_true, decide_eq_true_eq] at this
    obtain ⟨⟨⟨⟨⟨⟨_, _⟩, _⟩, hl⟩, hs⟩, ht1⟩, ht2⟩ := this
    exact ⟨by omega, by omega, areTypesB_size ht1, areTypesB_size ht2⟩
theorem headS_le {m : Me} (h : MeSmall m) : (headS m).size ≤ 200 := by
  have h1 := typesS_le m.params h.pt
  have h2 := oneTypeS_le m.result
  have := h.nm; have := h.ps; have := h.rt
  unfold headS
  simp only [ByteArray.size_append, lowS_size, nameS_size, flagS_size]; omega
theorem codeS_le {m : Me} (h : MeSmall m) (k : Nat) : ((m.code.take k).foldl (fun s i => s ++ instrS i) (headS m)).size ≤ 40200 := by
  have := foldl_le (fun s i => s ++ instrS i) 200 (m.code.take k) (headS m) (fun s i hi => by have := (h.ci i (List.mem_of_mem_take hi)).2.2; simp only [ByteArray.size_append]; omega)
  have h1 := headS_le h
  have h2 := h.cl
  have h3 : (m.code.take k).length ≤ 200 := by rw [List.length_take]; omega
  have h4 : (m.code.take k).length * 200 ≤ 200 * 200 := Nat.mul_le_mul_right _ h3
  omega
theorem hdsS_le {m : Me} (h : MeSmall m) (k : Nat) : ((m.handlers.take k).foldl hdS (codeS m ++ lowS (m.handlers.length : Nat) 1)).size ≤ 41000 := by
  have := foldl_le hdS 30 (m.handlers.take k) (codeS m ++ lowS (m.handlers.length : Nat) 1) (fun s i hi => by have := h.hi i (List.mem_of_mem_take hi); simp only [hdS, ByteArray.size_append, lowS_size, nameS_size]; omega)
  have h1 := codeS_le h m.code.length
  rw [List.take_length] at h1
  have h2 := h.hl
  have h3 : (m.handlers.take k).length ≤ 10 := by rw [List.length_take]; omega
  have h4 : (m.handlers.take k).length * 30 ≤ 10 * 30 := Nat.mul_le_mul_right _ h3
  rw [ByteArray.size_append, lowS_size] at this
  have h5 : (codeS m).size ≤ 40200 := h1
  omega
theorem methodTo_le {m : Me} (h : MeSmall m) (k : Nat) : ((m.frames.take k).foldl frS (hdsS m ++ lowS (m.frames.length : Nat) 1)).size ≤ 90000 := by
  have := foldl_le frS 700 (m.frames.take k) (hdsS m ++ lowS (m.frames.length : Nat) 1) (fun s i hi => by
    obtain ⟨a, b, c, d⟩ := h.fi i (List.mem_of_mem_take hi)
    have e1 := typesS_le i.locals c
    have e2 := typesS_le i.stack d
    simp only [frS, ByteArray.size_append, lowS_size]; omega)
  have h1 := hdsS_le h m.handlers.length
  rw [List.take_length] at h1
  have h2 := h.fl
  have h3 : (m.frames.take k).length ≤ 60 := by rw [List.length_take]; omega
  have h4 : (m.frames.take k).length * 700 ≤ 60 * 700 := Nat.mul_le_mul_right _ h3
  rw [ByteArray.size_append, lowS_size] at this
  have h5 : (hdsS m).size ≤ 41000 := h1
  omega

end Go.Proofs.YtpofmnfkdkmieaaGreat
namespace Go.Proofs.YtpofmnfkdkmieaaGreat
open Go.RowKit At E

theorem must_any (b : Bool) (w : World) : PureP Tryz.prog 111 #[.bool b] w b := by
  refine opens (args := [.bool b]) Tryz.func111 rfl Tryz.ntmps111 ?_
  refine WC_seq ?_
  refine WC_region ?_
  refine WL_op rfl (Ex_move rfl) ?_
  refine WL_op rfl (Ex_not rfl) ?_
  refine WL_nil ?_
  refine WQ_next ?_
  refine WC_if rfl ?_ ?_  -- cond 1 shape.go:16
  · intro c1
    try (first | replace c1 := of_decide_eq_true c1 | replace c1 := of_nd_true c1)
    refine WC_region ?_
    refine WL_op rfl (Ex_iface (tint rfl) rfl) ?_
    refine WL_panic rfl ?_
    refine PP_dies ?_
    simp_all
  · intro c1
    try (first | replace c1 := of_decide_eq_false c1 | replace c1 := of_nd_false c1)
    refine WC_skip ?_
    refine PP_end rfl ?_
    simp_all
theorem isLetter_any (c : Int) (w : World) : Pure Tryz.prog 243 #[.int .u8 c] w (.bool (letB c)) := by
  refine opens (args := [.int .u8 c]) Tryz.func243 rfl Tryz.ntmps243 ?_
  refine WC_seq ?_
  refine WC_region ?_
  refine WL_op rfl (Ex_assign rfl) ?_
  refine WL_nil ?_
  refine WQ_next ?_
  refine WC_seq ?_
  refine WC_region ?_
  refine WL_op rfl (Ex_move rfl) ?_
  refine WL_op rfl (Ex_leq rfl rfl) ?_
  refine WL_op rfl (Ex_move rfl) ?_
  refine WL_part rfl rfl rfl ?_ ?_
  · intro h1
    try (first | replace h1 := of_decide_eq_true h1 | replace h1 := of_nd_true h1)
    refine WL_yes rfl rfl rfl (Ex_move rfl) ?_
    refine WL_yes rfl rfl rfl (Ex_leq rfl rfl) ?_
    refine WL_op rfl (Ex_pickT rfl rfl) ?_
    refine WL_op rfl (Ex_move rfl) ?_
    refine WL_part rfl rfl rfl ?_ ?_
    · intro h2
      try (first | replace h2 := of_decide_eq_true h2 | replace h2 := of_nd_true h2)
      refine WL_no rfl rfl rfl ?_
      refine WL_no rfl rfl rfl ?_
      refine WL_no rfl rfl rfl ?_
      refine WL_und rfl rfl rfl ?_
      refine WL_und rfl rfl rfl ?_
      refine WL_no rfl rfl rfl ?_
      refine WL_op rfl (Ex_pickT rfl rfl) ?_
      refine WL_op rfl (Ex_assign rfl) ?_
      refine WL_nil ?_
      refine WQ_next ?_
      refine WC_ret ?_
      refine P_end1 rfl rfl ?_
      congr 1; rw [Bool.eq_iff_iff]; simp [letB]; omega
    · intro h2
      try (first | replace h2 := of_decide_eq_false h2 | replace h2 := of_nd_false h2)
      refine WL_yes rfl rfl rfl (Ex_move rfl) ?_
      refine WL_yes rfl rfl rfl (Ex_leq rfl rfl) ?_
      refine WL_yes rfl rfl rfl (Ex_move rfl) ?_
      refine WL_part rfl rfl rfl ?_ ?_
      · intro h3
        try (first | replace h3 := of_decide_eq_true h3 | replace h3 := of_nd_true h3)
        refine WL_yes rfl rfl rfl (Ex_move rfl) ?_
        refine WL_yes rfl rfl rfl (Ex_leq rfl rfl) ?_
        refine WL_yes rfl rfl rfl (Ex_pickT rfl rfl) ?_
        refine WL_op rfl (Ex_pickF rfl rfl) ?_
        refine WL_op rfl (Ex_assign rfl) ?_
        refine WL_nil ?_
        refine WQ_next ?_
        refine WC_ret ?_
        refine P_end1 rfl rfl ?_
        congr 1; rw [Bool.eq_iff_iff]; simp [letB]; omega
      · intro h3
        try (first | replace h3 := of_decide_eq_false h3 | replace h3 := of_nd_false h3)
        refine WL_no rfl rfl rfl ?_
        refine WL_no rfl rfl rfl ?_
        refine WL_yes rfl rfl rfl (Ex_pickF rfl rfl) ?_
        refine WL_op rfl (Ex_pickF rfl rfl) ?_
        refine WL_op rfl (Ex_assign rfl) ?_
        refine WL_nil ?_
        refine WQ_next ?_
        refine WC_ret ?_
        refine P_end1 rfl rfl ?_
        congr 1; rw [Bool.eq_iff_iff]; simp [letB]; omega
  · intro h1
    try (first | replace h1 := of_decide_eq_false h1 | replace h1 := of_nd_false h1)
    refine WL_no rfl rfl rfl ?_
    refine WL_no rfl rfl rfl ?_
    refine WL_op rfl (Ex_pickF rfl rfl) ?_
    refine WL_op rfl (Ex_move rfl) ?_
    refine WL_yes rfl rfl rfl (Ex_move rfl) ?_
    refine WL_yes rfl rfl rfl (Ex_leq rfl rfl) ?_
    refine WL_yes rfl rfl rfl (Ex_move rfl) ?_
    refine WL_part rfl rfl rfl ?_ ?_
    · intro h4
      try (first | replace h4 := of_decide_eq_true h4 | replace h4 := of_nd_true h4)
      refine WL_yes rfl rfl rfl (Ex_move rfl) ?_
      refine WL_yes rfl rfl rfl (Ex_leq rfl rfl) ?_
      refine WL_yes rfl rfl rfl (Ex_pickT rfl rfl) ?_
      refine WL_op rfl (Ex_pickF rfl rfl) ?_
      refine WL_op rfl (Ex_assign rfl) ?_
      refine WL_nil ?_
      refine WQ_next ?_
      refine WC_ret ?_
      refine P_end1 rfl rfl ?_
      congr 1; rw [Bool.eq_iff_iff]; simp [letB]; omega
    · intro h4
      try (first | replace h4 := of_decide_eq_false h4 | replace h4 := of_nd_false h4)
      refine WL_no rfl rfl rfl ?_
      refine WL_no rfl rfl rfl ?_
      refine WL_yes rfl rfl rfl (Ex_pickF rfl rfl) ?_
      refine WL_op rfl (Ex_pickF rfl rfl) ?_
      refine WL_op rfl (Ex_assign rfl) ?_
      refine WL_nil ?_
      refine WQ_next ?_
      refine WC_ret ?_
      refine P_end1 rfl rfl ?_
      congr 1; rw [Bool.eq_iff_iff]; simp [letB]; omega
theorem isDigit_any (c : Int) (w : World) : Pure Tryz.prog 244 #[.int .u8 c] w (.bool (digB c)) := by
  refine opens (args := [.int .u8 c]) Tryz.func244 rfl Tryz.ntmps244 ?_
  refine WC_seq ?_
  refine WC_region ?_
  refine WL_op rfl (Ex_assign rfl) ?_
  refine WL_nil ?_
  refine WQ_next ?_
  refine WC_seq ?_
  refine WC_region ?_
  refine WL_op rfl (Ex_move rfl) ?_
  refine WL_op rfl (Ex_leq rfl rfl) ?_
  refine WL_op rfl (Ex_move rfl) ?_
  refine WL_part rfl rfl rfl ?_ ?_
  · intro h1
    try (first | replace h1 := of_decide_eq_true h1 | replace h1 := of_nd_true h1)
    refine WL_yes rfl rfl rfl (Ex_move rfl) ?_
    refine WL_yes rfl rfl rfl (Ex_leq rfl rfl) ?_
    refine WL_op rfl (Ex_pickT rfl rfl) ?_
    refine WL_op rfl (Ex_assign rfl) ?_
    refine WL_nil ?_
    refine WQ_next ?_
    refine WC_ret ?_
    refine P_end1 rfl rfl ?_
    congr 1; rw [Bool.eq_iff_iff]; simp [digB]; omega
  · intro h1
    try (first | replace h1 := of_decide_eq_false h1 | replace h1 := of_nd_false h1)
    refine WL_no rfl rfl rfl ?_
    refine WL_no rfl rfl rfl ?_
    refine WL_op rfl (Ex_pickF rfl rfl) ?_
    refine WL_op rfl (Ex_assign rfl) ?_
    refine WL_nil ?_
    refine WQ_next ?_
    refine WC_ret ?_
    refine P_end1 rfl rfl ?_
    congr 1; rw [Bool.eq_iff_iff]; simp [digB]; omega
theorem okAt_of {s : ByteArray} {k : Nat} (h : k < s.size) : okAt s k = (letB (s[k].toNat : Int) || (!(k == 0) && digB (s[k].toNat : Int))) := by unfold okAt; rw [byteAt_of h]
theorem name_no0 {s : ByteArray} (h0 : 0 < s.size) (h : letB (s[0].toNat : Int) = false) : isNameB s = false := isNameB_false h0 (by rw [okAt_of h0, h]; rfl)
theorem mustBeName_any (s : ByteArray) (w : World) (hs : strOk s) : PureP Tryz.prog 139 #[.string s] w (isNameB s) := by
  unfold strOk at hs
  refine opens (args := [.string s]) Tryz.func139 rfl Tryz.ntmps139 ?_
  refine WC_seq ?_
  refine WC_region ?_
  refine WL_op rfl (Ex_move rfl) ?_
  refine WL_op rfl (Ex_lenS (tstr rfl) rfl) ?_
  refine WL_op rfl (Ex_lss rfl rfl) ?_
  refine WL_op rfl (Ex_move rfl) ?_
  refine WL_part rfl rfl rfl ?_ ?_
  · intro h1
    try (first | replace h1 := of_decide_eq_true h1 | replace h1 := of_nd_true h1)
    refine WL_yes rfl rfl rfl (Ex_move rfl) ?_
    refine WL_yes rfl rfl rfl (Ex_lenS (tstr rfl) rfl) ?_
    refine WL_yes rfl rfl rfl (Ex_leq rfl rfl) ?_
    refine WL_op rfl (Ex_pickT rfl rfl) ?_
    refine WL_callP fn111 rfl rfl (fun w _ => must_any _ w) ?_ ?_
    rotate_left
    · intro o2
      try (first | replace o2 := of_decide_eq_false o2 | replace o2 := of_nd_false o2)
      have hF := isNameB_short (s := s) (by omega)
      refine WQ_pan ?_
      refine PP_dies ?_
      exact hF
    intro o2
    try (first | replace o2 := of_decide_eq_true o2 | replace o2 := of_nd_true o2)
    have hlen : 0 < s.size ∧ s.size ≤ 12 := by omega
    refine WL_nil ?_
    refine WQ_next ?_
    refine WC_seq ?_
    refine WC_region ?_
    refine WL_op rfl (Ex_move rfl) ?_
    refine WL_op rfl (Ex_indexS (tstr rfl) rfl rfl ?_) ?_
    · first | omega | (show 0 < s.size; omega)
    refine WL_call fn243 rfl rfl (fun w _ => isLetter_any _ w) ?_
    refine WL_callP fn111 rfl rfl (fun w _ => must_any _ w) ?_ ?_
    rotate_left
    · intro o3
      try (first | replace o3 := of_decide_eq_false o3 | replace o3 := of_nd_false o3)
      have hF := name_no0 (s := s) (by omega) (by assumption)
      refine WQ_pan ?_
      refine PP_dies ?_
      exact hF
    intro o3
    try (first | replace o3 := of_decide_eq_true o3 | replace o3 := of_nd_true o3)
    have hlet : letB (s[0].toNat : Int) = true := by assumption
    refine WL_nil ?_
    refine WQ_next ?_
    refine WC_seq ?_
    refine WC_region ?_
    refine WL_op rfl (Ex_move rfl) ?_
    refine WL_op rfl (Ex_lenS (tstr rfl) rfl) ?_
    refine WL_op rfl (Ex_move rfl) ?_
    refine WL_nil ?_
    refine WQ_next ?_
    refine WC_block ?_
    refine WC_sub (E' := (fun k : Nat => [(0, .string s), (17, .int .i64 (s.size : Nat)), (18, .int .i64 (k : Nat))]) (0)) ⟨rfl, rfl, rfl, trivial⟩ (WC_loop (X := Nat) (fun k : Nat => [(0, .string s), (17, .int .i64 (s.size : Nat)), (18, .int .i64 (k : Nat))]) _ _ (fun k : Nat => []) (fun k : Nat => Asr.none) (fun k : Nat => k ≤ s.size ∧ ∀ j, j < k → okAt s j = true) (fun k : Nat => s.size - k) (0) (⟨Nat.zero_le _, fun j hj => absurd hj (Nat.not_lt_zero j)⟩) ?_)
    intro k hI
    refine WC_seq ?_
    refine WC_region ?_
    refine WL_op rfl (Ex_lss rfl rfl) ?_
    refine WL_nil ?_
    refine WQ_next ?_
    refine WC_seq ?_
    refine WC_if rfl ?_ ?_  -- cond 1 types.go:8
    · intro c1
      try (first | replace c1 := of_decide_eq_true c1 | replace c1 := of_nd_true c1)
      have hk : k < s.size := by omega
      refine WC_skip ?_
      refine WQ_next ?_
      refine WC_seq ?_
      refine WC_block ?_
      refine WC_seq ?_
      refine WC_region ?_
      refine WL_op rfl (Ex_move rfl) ?_
      refine WL_op rfl (Ex_assign rfl) ?_
      refine WL_nil ?_
      refine WQ_next ?_
      refine WC_region ?_
      refine WL_op rfl (Ex_move rfl) ?_
      refine WL_op rfl (Ex_move rfl) ?_
      refine WL_op rfl (Ex_indexS (tstr rfl) rfl rfl ?_) ?_
      · first | omega | (show 0 < s.size; omega)
      refine WL_call fn243 rfl rfl (fun w _ => isLetter_any _ w) ?_
      refine WL_op rfl (Ex_move rfl) ?_
      refine WL_part rfl rfl rfl ?_ ?_
      · intro h4
        try (first | replace h4 := of_decide_eq_true h4 | replace h4 := of_nd_true h4)
        refine WL_no rfl rfl rfl ?_
        refine WL_no rfl rfl rfl ?_
        refine WL_no rfl rfl rfl ?_
        refine WL_no rfl rfl rfl ?_
        refine WL_op rfl (Ex_pickT rfl rfl) ?_
        refine WL_callP fn111 rfl rfl (fun w _ => must_any _ w) ?_ ?_
        rotate_left
        · intro o5; cases o5
        intro _
        refine WL_nil ?_
        refine WQ_bnext ?_
        refine WQ_next ?_
        refine WC_region ?_
        (first | (refine WL_op rfl (Ex_inc rfl rfl ?_) ?_; omega) | (refine WL_op rfl (Ex_addB rfl rfl ?_) ?_; omega) | refine WL_op rfl (Ex_add rfl rfl) ?_)
        refine WL_op rfl (Ex_move rfl) ?_
        refine WL_nil ?_
        refine WQ_again (k + 1) ?_ (⟨hk, okAt_next hI.2 (by rw [okAt_of hk]; by_cases h0 : k = 0 <;> simp_all [digB])⟩) 0 rfl (rfl) ⟨rfl, rfl, rfl, trivial⟩
        omega
      · intro h4
        try (first | replace h4 := of_decide_eq_false h4 | replace h4 := of_nd_false h4)
        refine WL_yes rfl rfl rfl (Ex_move rfl) ?_
        refine WL_yes rfl rfl rfl (Ex_move rfl) ?_
        refine WL_yes rfl rfl rfl (Ex_indexS (tstr rfl) rfl rfl ?_) ?_
        · first | omega | (show 0 < s.size; omega)
        refine WL_callYes fn244 rfl rfl rfl rfl (fun w _ => isDigit_any _ w) ?_
        refine WL_op rfl (Ex_pickF rfl rfl) ?_
        refine WL_callP fn111 rfl rfl (fun w _ => must_any _ w) ?_ ?_
        rotate_left
        · intro o6
          try (first | replace o6 := of_decide_eq_false o6 | replace o6 := of_nd_false o6)
          have hF := isNameB_false hk (by rw [okAt_of hk]; simp_all [digB])
          refine WQ_pan ?_
          refine WQ_pan ?_
          refine WQ_pan ?_
          refine WQ_pan ?_
          refine PP_dies ?_
          exact hF
        intro o6
        try (first | replace o6 := of_decide_eq_true o6 | replace o6 := of_nd_true o6)
        refine WL_nil ?_
        refine WQ_bnext ?_
        refine WQ_next ?_
        refine WC_region ?_
        (first | (refine WL_op rfl (Ex_inc rfl rfl ?_) ?_; omega) | (refine WL_op rfl (Ex_addB rfl rfl ?_) ?_; omega) | refine WL_op rfl (Ex_add rfl rfl) ?_)
        refine WL_op rfl (Ex_move rfl) ?_
        refine WL_nil ?_
        refine WQ_again (k + 1) ?_ (⟨hk, okAt_next hI.2 (by rw [okAt_of hk]; by_cases h0 : k = 0 <;> simp_all [digB])⟩) 0 rfl (rfl) ⟨rfl, rfl, rfl, trivial⟩
        omega
    · intro c1
      try (first | replace c1 := of_decide_eq_false c1 | replace c1 := of_nd_false c1)
      refine WC_exit ?_
      refine WQ_exit ?_
      refine WQ_lexit ?_
      refine WQ_here ?_
      refine PP_end rfl ?_
      exact isNameB_true (by omega) (by omega) (fun j hj => hI.2 j (by omega))
  · intro h1
    try (first | replace h1 := of_decide_eq_false h1 | replace h1 := of_nd_false h1)
    refine WL_no rfl rfl rfl ?_
    refine WL_no rfl rfl rfl ?_
    refine WL_no rfl rfl rfl ?_
    refine WL_op rfl (Ex_pickF rfl rfl) ?_
    refine WL_callP fn111 rfl rfl (fun w _ => must_any _ w) ?_ ?_
    · intro o7; cases o7
    intro _
    have hF := isNameB_short (s := s) (by omega)
    refine WQ_pan ?_
    refine PP_dies ?_
    exact hF
def valB (k : Int) : Bool := decide (k = 1 ∨ k = 2 ∨ k = 3)
theorem isOfValue_any (k : Int) (w : World) : Pure Tryz.prog 246 #[.int .i64 k] w (.bool (valB k)) := by
  refine opens (args := [.int .i64 k]) Tryz.func246 rfl Tryz.ntmps246 ?_
  refine WC_seq ?_
  refine WC_region ?_
  refine WL_op rfl (Ex_assign rfl) ?_
  refine WL_nil ?_
  refine WQ_next ?_
  refine WC_seq ?_
  refine WC_region ?_
  refine WL_op rfl (Ex_move rfl) ?_
  refine WL_op rfl (Ex_eql rfl rfl) ?_
  refine WL_op rfl (Ex_move rfl) ?_
  refine WL_part rfl rfl rfl ?_ ?_
  · intro h1
    try (first | replace h1 := of_decide_eq_true h1 | replace h1 := of_nd_true h1)
    refine WL_no rfl rfl rfl ?_
    refine WL_no rfl rfl rfl ?_
    refine WL_op rfl (Ex_pickT rfl rfl) ?_
    refine WL_op rfl (Ex_move rfl) ?_
    refine WL_no rfl rfl rfl ?_
    refine WL_no rfl rfl rfl ?_
    refine WL_op rfl (Ex_pickT rfl rfl) ?_
    refine WL_op rfl (Ex_assign rfl) ?_
    refine WL_nil ?_
    refine WQ_next ?_
    refine WC_ret ?_
    refine P_end1 rfl rfl ?_
    congr 1; rw [Bool.eq_iff_iff]; simp [valB]; omega
  · intro h1
    try (first | replace h1 := of_decide_eq_false h1 | replace h1 := of_nd_false h1)
    refine WL_yes rfl rfl rfl (Ex_move rfl) ?_
    refine WL_yes rfl rfl rfl (Ex_eql rfl rfl) ?_
    refine WL_op rfl (Ex_pickF rfl rfl) ?_
    refine WL_op rfl (Ex_move rfl) ?_
    refine WL_part rfl rfl rfl ?_ ?_
    · intro h2
      try (first | replace h2 := of_decide_eq_true h2 | replace h2 := of_nd_true h2)
      refine WL_no rfl rfl rfl ?_
      refine WL_no rfl rfl rfl ?_
      refine WL_op rfl (Ex_pickT rfl rfl) ?_
      refine WL_op rfl (Ex_assign rfl) ?_
      refine WL_nil ?_
      refine WQ_next ?_
      refine WC_ret ?_
      refine P_end1 rfl rfl ?_
      congr 1; rw [Bool.eq_iff_iff]; simp [valB]; omega
    · intro h2
      try (first | replace h2 := of_decide_eq_false h2 | replace h2 := of_nd_false h2)
      refine WL_yes rfl rfl rfl (Ex_move rfl) ?_
      refine WL_yes rfl rfl rfl (Ex_eql rfl rfl) ?_
      refine WL_op rfl (Ex_pickF rfl rfl) ?_
      refine WL_op rfl (Ex_assign rfl) ?_
      refine WL_nil ?_
      refine WQ_next ?_
      refine WC_ret ?_
      refine P_end1 rfl rfl ?_
      congr 1; rw [Bool.eq_iff_iff]; simp [valB]; omega
def resB (k : Int) : Bool := valB k || decide (k = 0)
theorem isOfResult_any (k : Int) (w : World) : Pure Tryz.prog 319 #[.int .i64 k] w (.bool (resB k)) := by
  refine opens (args := [.int .i64 k]) Tryz.func319 rfl Tryz.ntmps319 ?_
  refine WC_seq ?_
  refine WC_region ?_
  refine WL_op rfl (Ex_assign rfl) ?_
  refine WL_nil ?_
  refine WQ_next ?_
  refine WC_seq ?_
  refine WC_region ?_
  refine WL_op rfl (Ex_move rfl) ?_
  refine WL_call fn246 rfl rfl (fun w _ => isOfValue_any _ w) ?_
  refine WL_op rfl (Ex_move rfl) ?_
  refine WL_part rfl rfl rfl ?_ ?_
  · intro h1
    try (first | replace h1 := of_decide_eq_true h1 | replace h1 := of_nd_true h1)
    refine WL_no rfl rfl rfl ?_
    refine WL_no rfl rfl rfl ?_
    refine WL_op rfl (Ex_pickT rfl rfl) ?_
    refine WL_op rfl (Ex_assign rfl) ?_
    refine WL_nil ?_
    refine WQ_next ?_
    refine WC_ret ?_
    refine P_end1 rfl rfl ?_
    congr 1; rw [Bool.eq_iff_iff]; simp [resB, valB]; omega
  · intro h1
    try (first | replace h1 := of_decide_eq_false h1 | replace h1 := of_nd_false h1)
    refine WL_yes rfl rfl rfl (Ex_move rfl) ?_
    refine WL_yes rfl rfl rfl (Ex_eql rfl rfl) ?_
    refine WL_op rfl (Ex_pickF rfl rfl) ?_
    refine WL_op rfl (Ex_assign rfl) ?_
    refine WL_nil ?_
    refine WQ_next ?_
    refine WC_ret ?_
    refine P_end1 rfl rfl ?_
    congr 1; rw [Bool.eq_iff_iff]; simp [resB, valB]; omega
def fraB (k : Int) : Bool := valB k || decide (k = 4) || decide (k = 5)
theorem isOfFrame_any (k : Int) (w : World) : Pure Tryz.prog 358 #[.int .i64 k] w (.bool (fraB k)) := by
  refine opens (args := [.int .i64 k]) Tryz.func358 rfl Tryz.ntmps358 ?_
  refine WC_seq ?_
  refine WC_region ?_
  refine WL_op rfl (Ex_assign rfl) ?_
  refine WL_nil ?_
  refine WQ_next ?_
  refine WC_seq ?_
  refine WC_region ?_
  refine WL_op rfl (Ex_move rfl) ?_
  refine WL_call fn246 rfl rfl (fun w _ => isOfValue_any _ w) ?_
  refine WL_op rfl (Ex_move rfl) ?_
  refine WL_part rfl rfl rfl ?_ ?_
  · intro h1
    try (first | replace h1 := of_decide_eq_true h1 | replace h1 := of_nd_true h1)
    refine WL_no rfl rfl rfl ?_
    refine WL_no rfl rfl rfl ?_
    refine WL_op rfl (Ex_pickT rfl rfl) ?_
    refine WL_op rfl (Ex_move rfl) ?_
    refine WL_no rfl rfl rfl ?_
    refine WL_no rfl rfl rfl ?_
    refine WL_op rfl (Ex_pickT rfl rfl) ?_
    refine WL_op rfl (Ex_assign rfl) ?_
    refine WL_nil ?_
    refine WQ_next ?_
    refine WC_ret ?_
    refine P_end1 rfl rfl ?_
    congr 1; rw [Bool.eq_iff_iff]; simp [fraB, valB]; omega
  · intro h1
    try (first | replace h1 := of_decide_eq_false h1 | replace h1 := of_nd_false h1)
    refine WL_yes rfl rfl rfl (Ex_move rfl) ?_
    refine WL_yes rfl rfl rfl (Ex_eql rfl rfl) ?_
    refine WL_op rfl (Ex_pickF rfl rfl) ?_
    refine WL_op rfl (Ex_move rfl) ?_
    refine WL_part rfl rfl rfl ?_ ?_
    · intro h2
      try (first | replace h2 := of_decide_eq_true h2 | replace h2 := of_nd_true h2)
      refine WL_no rfl rfl rfl ?_
      refine WL_no rfl rfl rfl ?_
      refine WL_op rfl (Ex_pickT rfl rfl) ?_
      refine WL_op rfl (Ex_assign rfl) ?_
      refine WL_nil ?_
      refine WQ_next ?_
      refine WC_ret ?_
      refine P_end1 rfl rfl ?_
      congr 1; rw [Bool.eq_iff_iff]; simp [fraB, valB]; omega
    · intro h2
      try (first | replace h2 := of_decide_eq_false h2 | replace h2 := of_nd_false h2)
      refine WL_yes rfl rfl rfl (Ex_move rfl) ?_
      refine WL_yes rfl rfl rfl (Ex_eql rfl rfl) ?_
      refine WL_op rfl (Ex_pickF rfl rfl) ?_
      refine WL_op rfl (Ex_assign rfl) ?_
      refine WL_nil ?_
      refine WQ_next ?_
      refine WC_ret ?_
      refine P_end1 rfl rfl ?_
      congr 1; rw [Bool.eq_iff_iff]; simp [fraB, valB]; omega
def mayB (B : Int → Bool) (t : Ty) : Bool := B t.kind && (if t.kind = 3 then isNameB t.cls else decide (t.cls = ⟨#[]⟩))
theorem mayB_val (t : Ty) : mayB valB t = isTypeB t false false := by
  rw [Bool.eq_iff_iff]
  unfold mayB isTypeB valB
  by_cases h0 : t.kind = 0
  · simp [h0]
  by_cases h1 : t.kind = 1
  · simp [h1]
  by_cases h2 : t.kind = 2
  · simp [h2]
  by_cases h3 : t.kind = 3
  · simp [h3]
  · simp [h0, h1, h2, h3]
theorem mayB_res (t : Ty) : mayB resB t = isTypeB t true false := by
  rw [Bool.eq_iff_iff]
  unfold mayB isTypeB resB valB
  by_cases h0 : t.kind = 0
  · simp [h0]
  by_cases h1 : t.kind = 1
  · simp [h1]
  by_cases h2 : t.kind = 2
  · simp [h2]
  by_cases h3 : t.kind = 3
  · simp [h3]
  · simp [h0, h1, h2, h3]
theorem mayB_fra (t : Ty) : mayB fraB t = isTypeB t false true := by
  rw [Bool.eq_iff_iff]
  unfold mayB isTypeB fraB valB
  by_cases h0 : t.kind = 0
  · simp [h0]
  by_cases h1 : t.kind = 1
  · simp [h1]
  by_cases h2 : t.kind = 2
  · simp [h2]
  by_cases h3 : t.kind = 3
  · simp [h3]
  by_cases h4 : t.kind = 4
  · simp [h4]
  by_cases h5 : t.kind = 5
  · simp [h5]
  · simp [h0, h1, h2, h3, h4, h5]
theorem mustBeType_any (g : Nat) (B : Int → Bool) (hg : IsFn Tryz.prog g) (hB : ∀ k w, Pure Tryz.prog g #[.int .i64 k] w (.bool (B k))) (t : Ty) (w : World) (ht : tyOk t) :
    PureP Tryz.prog 245 #[.agg (tyV t).toArray, .func (.func g) #[] #[]] w (mayB B t) := by
  refine opens (args := [.agg (tyV t).toArray, .func (.func g) #[] #[]]) Tryz.func245 rfl Tryz.ntmps245 ?_
  refine WC_seq ?_
  refine WC_region ?_
  refine WL_box rfl rfl ?_
  intro b0 hb0
  refine WL_nil ?_
  refine WQ_next ?_
  refine WC_seq ?_
  refine WC_region ?_
  refine WL_op rfl (Ex_move rfl) ?_
  refine WL_op rfl (Ex_field (ff rfl) rfl) ?_
  refine WL_op rfl (Ex_load (t1 rfl) rfl (cell_mine 0 rfl rfl)) ?_
  refine WL_callV hg rfl rfl rfl (fun w _ => hB _ w) ?_
  refine WL_callP fn111 rfl rfl (fun w _ => must_any _ w) ?_ ?_
  rotate_left
  · intro o1
    try (first | replace o1 := of_decide_eq_false o1 | replace o1 := of_nd_false o1)
    refine WQ_pan ?_
    refine PP_dies ?_
    simp_all [mayB, eqS]
  intro o1
  try (first | replace o1 := of_decide_eq_true o1 | replace o1 := of_nd_true o1)
  refine WL_nil ?_
  refine WQ_next ?_
  refine WC_seq ?_
  refine WC_seq ?_
  refine WC_region ?_
  refine WL_op rfl (Ex_field (ff rfl) rfl) ?_
  refine WL_op rfl (Ex_load (t1 rfl) rfl (cell_mine 0 rfl rfl)) ?_
  refine WL_op rfl (Ex_eql rfl rfl) ?_
  refine WL_nil ?_
  refine WQ_next ?_
  refine WC_if rfl ?_ ?_  -- cond 1 types.go:36
  · intro c1
    try (first | replace c1 := of_decide_eq_true c1 | replace c1 := of_nd_true c1)
    refine WC_seq ?_
    refine WC_region ?_
    refine WL_op rfl (Ex_field (ff rfl) rfl) ?_
    refine WL_op rfl (Ex_load (t1 rfl) rfl (cell_mine 0 rfl rfl)) ?_
    refine WL_callP fn139 rfl rfl (fun w _ => mustBeName_any _ w ht.2) ?_ ?_
    rotate_left
    · intro o2
      try (first | replace o2 := of_decide_eq_false o2 | replace o2 := of_nd_false o2)
      refine WQ_pan ?_
      refine WQ_pan ?_
      refine PP_dies ?_
      simp_all [mayB, eqS]
    intro o2
    try (first | replace o2 := of_decide_eq_true o2 | replace o2 := of_nd_true o2)
    refine WL_nil ?_
    refine WQ_next ?_
    refine WC_ret ?_
    refine WQ_ret ?_
    refine PP_endr rfl ?_
    simp_all [mayB, eqS]
  · intro c1
    try (first | replace c1 := of_decide_eq_false c1 | replace c1 := of_nd_false c1)
    refine WC_skip ?_
    refine WQ_next ?_
    refine WC_region ?_
    refine WL_op rfl (Ex_field (ff rfl) rfl) ?_
    refine WL_op rfl (Ex_load (t1 rfl) rfl (cell_mine 0 rfl rfl)) ?_
    refine WL_op rfl (Ex_eqlS rfl rfl) ?_
    refine WL_callP fn111 rfl rfl (fun w _ => must_any _ w) ?_ ?_
    rotate_left
    · intro o3
      try (first | replace o3 := of_decide_eq_false o3 | replace o3 := of_nd_false o3)
      refine PP_dies ?_
      simp_all [mayB, eqS]
    intro o3
    try (first | replace o3 := of_decide_eq_true o3 | replace o3 := of_nd_true o3)
    refine WL_nil ?_
    refine PP_end rfl ?_
    simp_all [mayB, eqS]
theorem mustBeTypes_any (g : Nat) (B : Int → Bool) (hg : IsFn Tryz.prog g) (hB : ∀ k w, Pure Tryz.prog g #[.int .i64 k] w (.bool (B k))) (v : Value) (l : List Ty) (w : World) (hv : TysAt w v l) :
    PureP Tryz.prog 354 #[v, .func (.func g) #[] #[]] w (l.all (mayB B)) := by
  obtain ⟨p, c, rfl, hl, hr⟩ := hv.parts
  replace hr : Hid _ := hr
  refine opens (args := [.slice p l.length c, .func (.func g) #[] #[]]) Tryz.func354 rfl Tryz.ntmps354 ?_
  refine WC_seq ?_
  refine WC_region ?_
  refine WL_op rfl (Ex_move rfl) ?_
  refine WL_op rfl (Ex_lenL (ts rfl) rfl) ?_
  refine WL_op rfl (Ex_move rfl) ?_
  refine WL_nil ?_
  refine WQ_next ?_
  refine WC_block ?_
  refine WC_sub (E' := (fun k : Nat => [(1, .func (.func g) #[] #[]), (6, .slice p l.length c), (7, .int .i64 (l.length : Nat)), (8, .int .i64 (k : Nat))]) (0)) ⟨rfl, rfl, rfl, rfl, trivial⟩ (WC_loop (X := Nat) (fun k : Nat => [(1, .func (.func g) #[] #[]), (6, .slice p l.length c), (7, .int .i64 (l.length : Nat)), (8, .int .i64 (k : Nat))]) _ _ (fun k : Nat => []) (fun k : Nat => Asr.none) (fun k : Nat => k ≤ l.length ∧ (l.take k).all (mayB B) = true) (fun k : Nat => l.length - k) (0) (⟨Nat.zero_le _, rfl⟩) ?_)
  intro k hI
  refine WC_seq ?_
  refine WC_region ?_
  refine WL_op rfl (Ex_lss rfl rfl) ?_
  refine WL_nil ?_
  refine WQ_next ?_
  refine WC_seq ?_
  refine WC_if rfl ?_ ?_  -- cond 1 types.go:29
  · intro c1
    try (first | replace c1 := of_decide_eq_true c1 | replace c1 := of_nd_true c1)
    have hk : k < l.length := by omega
    obtain ⟨b, o, hp, hb, hc⟩ := hr.out k l[k] (List.getElem?_eq_getElem hk)
    subst hp
    refine WC_skip ?_
    refine WQ_next ?_
    refine WC_seq ?_
    refine WC_block ?_
    refine WC_seq ?_
    refine WC_region ?_
    refine WL_op rfl (Ex_at (ts rfl) rfl rfl ?_) ?_
    · omega
    refine WL_op rfl (Ex_loadN (tn rfl) rfl (row_old hc hb) rfl) ?_
    refine WL_alloc rfl (tz rfl) ?_
    intro b0 hb0
    refine WL_storeN (tn rfl) rfl rfl 0 rfl rfl rfl rfl ?_
    refine WL_nil ?_
    refine WQ_next ?_
    refine WC_region ?_
    refine WL_op rfl (Ex_loadM (tn rfl) rfl 0 rfl rfl) ?_
    refine WL_op rfl (Ex_move rfl) ?_
    refine WL_callP fn245 rfl rfl (fun w _ => mustBeType_any g B hg hB _ w (hv.ok _ (List.getElem_mem hk))) ?_ ?_
    rotate_left
    · intro o1
      try (first | replace o1 := of_decide_eq_false o1 | replace o1 := of_nd_false o1)
      have hF := all_no hk (f := mayB B) (by assumption)
      refine WQ_pan ?_
      refine WQ_pan ?_
      refine WQ_pan ?_
      refine WQ_pan ?_
      refine PP_dies ?_
      exact hF
    intro o1
    try (first | replace o1 := of_decide_eq_true o1 | replace o1 := of_nd_true o1)
    have hY : mayB B l[k] = true := by assumption
    refine WL_nil ?_
    refine WQ_bnext ?_
    refine WQ_next ?_
    refine WC_region ?_
    (first | (refine WL_op rfl (Ex_inc rfl rfl ?_) ?_; omega) | (refine WL_op rfl (Ex_addB rfl rfl ?_) ?_; omega) | refine WL_op rfl (Ex_add rfl rfl) ?_)
    refine WL_op rfl (Ex_move rfl) ?_
    refine WL_nil ?_
    refine WQ_again (k + 1) ?_ (⟨hk, all_snoc hk hI.2 hY⟩) 1 rfl (rfl) ⟨rfl, rfl, rfl, rfl, trivial⟩
    omega
  · intro c1
    try (first | replace c1 := of_decide_eq_false c1 | replace c1 := of_nd_false c1)
    refine WC_exit ?_
    refine WQ_exit ?_
    refine WQ_lexit ?_
    refine WQ_here ?_
    refine PP_end rfl ?_
    exact all_end (by omega) hI.2
theorem mustBeParams_any (v : Value) (l : List Ty) (w : World) (hv : TysAt w v l) : PureP Tryz.prog 318 #[v] w (decide ((l.length : Int) ≤ 6) && areTypesB l false) := by
  have hv0 := hv
  obtain ⟨p, c, rfl, hl, -⟩ := hv.parts
  refine opens (args := [.slice p l.length c]) Tryz.func318 rfl Tryz.ntmps318 ?_
  refine WC_seq ?_
  refine WC_region ?_
  refine WL_op rfl (Ex_move rfl) ?_
  refine WL_op rfl (Ex_lenL (ts rfl) rfl) ?_
  refine WL_op rfl (Ex_leq rfl rfl) ?_
  refine WL_callP fn111 rfl rfl (fun w _ => must_any _ w) ?_ ?_
  rotate_left
  · intro o1
    try (first | replace o1 := of_decide_eq_false o1 | replace o1 := of_nd_false o1)
    refine WQ_pan ?_
    refine PP_dies ?_
    first | (simp_all; done) | (simp_all; omega)
  intro o1
  try (first | replace o1 := of_decide_eq_true o1 | replace o1 := of_nd_true o1)
  refine WL_nil ?_
  refine WQ_next ?_
  refine WC_region ?_
  refine WL_op rfl (Ex_move rfl) ?_
  refine WL_callP fn354 rfl rfl (fun w hs => (mustBeTypes_any 246 valB fn246 isOfValue_any _ l w (hv0.mono (lowOf hs))).of_eq (b := areTypesB l false) (by unfold areTypesB; congr 1; funext t; exact mayB_val t)) ?_ ?_
  rotate_left
  · intro o2
    try (first | replace o2 := of_decide_eq_false o2 | replace o2 := of_nd_false o2)
    refine PP_dies ?_
    first | (simp_all; done) | (simp_all; omega)
  intro o2
  try (first | replace o2 := of_decide_eq_true o2 | replace o2 := of_nd_true o2)
  refine WL_nil ?_
  refine PP_end rfl ?_
  first | (simp_all; done) | (simp_all; omega)
end Go.Proofs.YtpofmnfkdkmieaaGreat
