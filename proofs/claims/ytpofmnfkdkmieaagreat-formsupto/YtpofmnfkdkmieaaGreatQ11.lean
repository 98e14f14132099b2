/- What is proved here: the document's own answers method and Bytes write what the plain functions write, of what is a method, a class. -/
import Derived.Test.YtpofmnfkdkmieaaGreatQ09
import Derived.Test.YtpofmnfkdkmieaaGreatQ10
set_option linter.unusedVariables false
set_option linter.unusedSimpArgs false
namespace Go.Proofs.YtpofmnfkdkmieaaGreat
open Go.RowKit At E
theorem isNameB_size {s : ByteArray} (h : isNameB s = true) : s.size ≤ 12 := by
 unfold isNameB at h
 simp only [Bool.and_eq_true, decide_eq_true_eq] at h
 exact h.1.2
theorem mt_size : (⟨#[]⟩ : ByteArray).size = 0 := rfl
theorem isTypeB_size {t : Ty} {v o : Bool} (h : isTypeB t v o = true) : t.cls.size ≤ 12 := by
 unfold isTypeB at h
 split at h
 ·simp only [Bool.and_eq_true, decide_eq_true_eq] at h; rw [h.2, mt_size]; omega
 split at h
 ·simp only [decide_eq_true_eq] at h; rw [h, mt_size]; omega
 split at h
 ·exact isNameB_size h
 split at h
 ·simp only [Bool.and_eq_true, decide_eq_true_eq] at h; rw [h.2, mt_size]; omega
 ·cases h
theorem areTypesB_size {l : List Ty} {o : Bool} (h : areTypesB l o = true) : ∀ t ∈ l, t.cls.size ≤ 12 := by
 intro t ht
 unfold areTypesB at h
 exact isTypeB_size (List.all_eq_true.1 h t ht)
theorem isInstrB_small {i : Ins} {a : Int} {n : Nat} (h : isInstrB i a n = true) : i.ref.params.length ≤ 6 ∧ (∀ t ∈ i.ref.params, t.cls.size ≤ 12) ∧ (instrS i).size ≤ 200 := by
 unfold isInstrB at h
 split at h
 ·cases h
 split at h
 ·split at h
  ·cases h
  ·rename_i h1 h2 h3
   have hp : i.ref.params.length = 0 := by
    rcases Nat.eq_zero_or_pos i.ref.params.length with h0 | h0
    ·exact h0
    ·exact absurd (.inr (.inr (.inl (by omega)))) h3
   refine ⟨by omega, ?_, ?_⟩
   ·intro t ht
    rw [List.length_eq_zero_iff.1 hp] at ht; cases ht
   ·have e4 : ¬ sortB i.op = 4 := by omega
    have e5 : ¬ sortB i.op = 5 := by omega
    have e6 : ¬ sortB i.op = 6 := by omega
    unfold instrS
    rw [if_neg e4, if_neg e5, if_neg e6]
    split
    ·simp only [ByteArray.size_append, Ya]; omega
    split
    ·simp only [ByteArray.size_append, Ya]; omega
    split
    ·simp only [ByteArray.size_append, Ya]; omega
    ·simp only [Ya]; omega
 ·rename_i h1 h2
  split at h
  ·cases h
  ·rename_i h3
   have hn : i.ref.cls.size ≤ 12 := by
    cases hb : isNameB i.ref.cls with
    | true => exact isNameB_size hb
    | false => exact absurd (.inr hb) h3
   have e1 : ¬ sortB i.op = 1 := by omega
   have e2 : ¬ sortB i.op = 2 := by omega
   have e3 : ¬ sortB i.op = 3 := by omega
   unfold instrS
   rw [if_neg e1, if_neg e2, if_neg e3]
   split at h
   ·rename_i e4
    simp only [Bool.and_eq_true, decide_eq_true_eq] at h
    have hp : i.ref.params.length = 0 := by omega
    rw [if_pos e4]
    refine ⟨by omega, ?_, by simp only [ByteArray.size_append, Ya, Yq]; omega⟩
    intro t ht
    rw [List.length_eq_zero_iff.1 hp] at ht; cases ht
   ·rename_i e4
    rw [if_neg e4]
    split at h
    ·rename_i e5
     simp only [Bool.and_eq_true, decide_eq_true_eq] at h
     have hp : i.ref.params.length = 0 := by omega
     rw [if_pos e5]
     have ho := oneTypeS_le i.ref.ty
     have ht' := isTypeB_size h.2
     have hm := isNameB_size h.1.1
     refine ⟨by omega, ?_, by simp only [ByteArray.size_append, Ya, Yq]; omega⟩
     intro t ht
     rw [List.length_eq_zero_iff.1 hp] at ht; cases ht
    ·rename_i e5
     rw [if_neg e5]
     simp only [Bool.and_eq_true, decide_eq_true_eq] at h
     have ho := oneTypeS_le i.ref.ty
     have ht' := isTypeB_size h.2
     have hm := isNameB_size h.1.1.1
     have h12 := areTypesB_size h.1.2
     have hT := Xx i.ref.params h12
     refine ⟨by omega, h12, ?_⟩
     split
     ·simp only [ByteArray.size_append, Ya, Yq]; omega
     ·simp only [Ya]; omega
def hdS (s : ByteArray) (h : Hd) : ByteArray := s ++ lowS h.lo 2 ++ lowS h.hi 2 ++ lowS h.pos 2 ++ nameS h.cls
def frS (s : ByteArray) (f : Fr) : ByteArray := s ++ lowS f.pos 2 ++ typesS f.locals ++ typesS f.stack
def headS (m : Me) : ByteArray := nameS m.name ++ flagS m.stat ++ typesS m.params ++ oneTypeS m.result ++ lowS m.locals 1 ++ lowS m.stack 1 ++ lowS (m.code.length : Nat) 2
def codeS (m : Me) : ByteArray := m.code.foldl (fun s i => s ++ instrS i) (headS m)
def hdsS (m : Me) : ByteArray := m.handlers.foldl hdS (codeS m ++ lowS (m.handlers.length : Nat) 1)
def methodS (m : Me) : ByteArray := m.frames.foldl frS (hdsS m ++ lowS (m.frames.length : Nat) 1)
theorem foldl_le {α : Type} (g : ByteArray → α → ByteArray) (c : Nat) : ∀ (l : List α) (s : ByteArray), (∀ s, ∀ x ∈ l, (g s x).size ≤ s.size + c) → (l.foldl g s).size ≤ s.size + l.length * c
 | [], s, _ => by simp
 | x :: r, s, h => by
  have ih := foldl_le g c r (g s x) (fun s y hy => h s y (List.mem_cons_of_mem _ hy))
  have hx := h s x List.mem_cons_self
  simp only [List.foldl_cons, List.length_cons, Nat.add_mul, Nat.one_mul]
  omega
structure MeSmall (m : Me) : Prop where
 nm : m.name.size ≤ 12
 ps : m.params.length ≤ 6
 pt : ∀ t ∈ m.params, t.cls.size ≤ 12
 rt : m.result.cls.size ≤ 12
 cl : m.code.length ≤ 200
 hl : m.handlers.length ≤ 10
 fl : m.frames.length ≤ 60
 ci : ∀ i ∈ m.code, i.ref.params.length ≤ 6 ∧ (∀ t ∈ i.ref.params, t.cls.size ≤ 12) ∧ (instrS i).size ≤ 200
 hi : ∀ h ∈ m.handlers, h.cls.size ≤ 12
 fi : ∀ f ∈ m.frames, f.locals.length ≤ 20 ∧ f.stack.length ≤ 20 ∧ (∀ t ∈ f.locals, t.cls.size ≤ 12) ∧ (∀ t ∈ f.stack, t.cls.size ≤ 12)
theorem isMethodB_small {m : Me} (h : isMethodB m = true) : MeSmall m := by
 unfold isMethodB isHeadB at h
 simp only [Bool.and_eq_true, decide_eq_true_eq] at h
 obtain ⟨⟨⟨⟨⟨⟨⟨⟨⟨⟨⟨⟨⟨⟨h1, h2⟩, h3⟩, h4⟩, h5⟩, h6⟩, h7⟩, h8⟩, h9⟩, h10⟩, h11⟩, h12⟩, h13⟩, h14⟩, h15⟩ := h
 refine ⟨isNameB_size h1, by omega, areTypesB_size h2, isTypeB_size h3, by omega, by omega, by omega, fun i hi => isInstrB_small (List.all_eq_true.1 h13 i hi), fun x hx => ?_, fun f hf => ?_⟩
 ·have := List.all_eq_true.1 h14 x hx
  unfold isHdB at this
  simp only [Bool.and_eq_true, Bool.or_eq_true, decide_eq_true_eq] at this
  rcases this.2 with h' | h'
  ·exact isNameB_size h'
  ·rw [h', mt_size]; omega
 ·obtain ⟨k, hk⟩ := List.mem_iff_getElem?.1 hf
  have hkl : k < m.frames.length := by
   rcases Nat.lt_or_ge k m.frames.length with h' | h'
   ·exact h'
   ·rw [List.getElem?_eq_none h'] at hk; cases hk
  have := List.all_eq_true.1 h15 k (List.mem_range.2 hkl)
  unfold frAt at this
  rw [hk] at this
  simp only [isFrB, Bool.and_eq_true, decide_eq_true_eq] at this
  obtain ⟨⟨⟨⟨⟨⟨_, _⟩, _⟩, hl⟩, hs⟩, ht1⟩, ht2⟩ := this
  exact ⟨by omega, by omega, areTypesB_size ht1, areTypesB_size ht2⟩
theorem headS_le {m : Me} (h : MeSmall m) : (headS m).size ≤ 200 := by
 have h1 := Xx m.params h.pt
 have h2 := oneTypeS_le m.result
 have := h.nm; have := h.ps; have := h.rt
 unfold headS
 simp only [ByteArray.size_append, Ya, Yq, Xw]; omega
theorem codeS_le {m : Me} (h : MeSmall m) (k : Nat) : ((m.code.take k).foldl (fun s i => s ++ instrS i) (headS m)).size ≤ 40200 := by
 have := foldl_le (fun s i => s ++ instrS i) 200 (m.code.take k) (headS m) (fun s i hi => by have := (h.ci i (List.mem_of_mem_take hi)).2.2; simp only [ByteArray.size_append]; omega)
 have h1 := headS_le h
 have h2 := h.cl
 have h3 : (m.code.take k).length ≤ 200 := by rw [List.length_take]; omega
 have h4 : (m.code.take k).length * 200 ≤ 200 * 200 := Nat.mul_le_mul_right _ h3
 omega
theorem hdsS_le {m : Me} (h : MeSmall m) (k : Nat) : ((m.handlers.take k).foldl hdS (codeS m ++ lowS (m.handlers.length : Nat) 1)).size ≤ 41000 := by
 have := foldl_le hdS 30 (m.handlers.take k) (codeS m ++ lowS (m.handlers.length : Nat) 1) (fun s i hi => by have := h.hi i (List.mem_of_mem_take hi); simp only [hdS, ByteArray.size_append, Ya, Yq]; omega)
 have h1 := codeS_le h m.code.length
 rw [List.take_length] at h1
 have h2 := h.hl
 have h3 : (m.handlers.take k).length ≤ 10 := by rw [List.length_take]; omega
 have h4 : (m.handlers.take k).length * 30 ≤ 10 * 30 := Nat.mul_le_mul_right _ h3
 rw [ByteArray.size_append, Ya] at this
 have h5 : (codeS m).size ≤ 40200 := h1
 omega
theorem methodTo_le {m : Me} (h : MeSmall m) (k : Nat) : ((m.frames.take k).foldl frS (hdsS m ++ lowS (m.frames.length : Nat) 1)).size ≤ 90000 := by
 have := foldl_le frS 700 (m.frames.take k) (hdsS m ++ lowS (m.frames.length : Nat) 1) (fun s i hi => by
  obtain ⟨a, b, c, d⟩ := h.fi i (List.mem_of_mem_take hi)
  have e1 := Xx i.locals c
  have e2 := Xx i.stack d
  simp only [frS, ByteArray.size_append, Ya]; omega)
 have h1 := hdsS_le h m.handlers.length
 rw [List.take_length] at h1
 have h2 := h.fl
 have h3 : (m.frames.take k).length ≤ 60 := by rw [List.length_take]; omega
 have h4 : (m.frames.take k).length * 700 ≤ 60 * 700 := Nat.mul_le_mul_right _ h3
 rw [ByteArray.size_append, Ya] at this
 have h5 : (hdsS m).size ≤ 41000 := h1
 omega
set_option maxHeartbeats 1000000 in
theorem method_any (m : Me) (pv cv hv fv : Value) (w : World) (hm : MeParts w m pv cv hv fv) (hS : MeSmall m) :
  Pure Tryz.prog 101 #[.agg (meV m pv cv hv fv).toArray] w (.string (methodS m)) := by
 obtain ⟨p2, e2, rfl, hl2, hr2⟩ := hm.cs.is
 obtain ⟨p3, e3, rfl, hl3, hr3⟩ := hm.hs.is
 obtain ⟨p4, e4, rfl, hl4, hr4⟩ := hm.fs.is
 replace hr2 : Hid _ := hr2
 replace hr3 : Hid _ := hr3
 replace hr4 : Hid _ := hr4
 have hT := Xx m.params hS.pt
 have hO := oneTypeS_le m.result
 have hnm := hS.nm; have hps := hS.ps; have hrt := hS.rt
 refine opens (args := [.agg (meV m pv (.slice p2 m.code.length e2) (.slice p3 m.handlers.length e3) (.slice p4 m.frames.length e4)).toArray]) Tryz.func101 rfl Tryz.ntmps101 ?_
 refine Zf (Zb (WL_box rfl rfl ?_))
 intro b0 hb0
 refine Za rfl (Zg rfl) (Ze (Zc (Zf (WC_draw mixed (by kernel_rfl) ?_))))
 refine Zm rfl (Zh (ff rfl) rfl) (Zm rfl (Zj (t1 rfl) rfl (Zl 0 rfl rfl)) (WO_call fn97 rfl rfl (fun w _ => name_any _ w hm.ok.1) ?_))
 refine Zm rfl (Zh (ff rfl) rfl) (Zm rfl (Zj (t1 rfl) rfl (Zl 0 rfl rfl)) (WO_call fn99 rfl rfl (fun w _ => flag_any _ w) ?_))
 refine Zm rfl (Ex_addS rfl rfl ?_) ?_
 ·first | (simp only [ByteArray.size_append, Ya, Yq, Xw]; omega) | (have h1 := codeS_le hS k; have h2 := (hS.ci _ (List.getElem_mem hk)).2.2; omega) | (have h1 := codeS_le hS m.code.length; rw [List.take_length] at h1; have h1' : (codeS m).size ≤ 40200 := h1; simp only [Ya]; omega) | (have h1 := hdsS_le hS k; have h2 := hS.hi _ (List.getElem_mem hk); simp only [ByteArray.size_append, Ya, Yq]; omega) | (have h1 := hdsS_le hS m.handlers.length; rw [List.take_length] at h1; have h1' : (hdsS m).size ≤ 41000 := h1; simp only [Ya]; omega) | (have h1 := methodTo_le hS k; obtain ⟨a, b, c, d⟩ := hS.fi _ (List.getElem_mem hk); have e1 := Xx _ c; have e2 := Xx _ d; simp only [ByteArray.size_append, Ya]; omega)
 refine Zm rfl (Zh (ff rfl) rfl) (Zm rfl (Zj (t1 rfl) rfl (Zl 0 rfl rfl)) (WO_call fn137 rfl rfl (fun w hs => types_any _ m.params w (hm.ps.mono (lowOf hs)) (by omega) hS.pt) ?_))
 refine Zm rfl (Ex_addS rfl rfl ?_) ?_
 ·first | (simp only [ByteArray.size_append, Ya, Yq, Xw]; omega) | (have h1 := codeS_le hS k; have h2 := (hS.ci _ (List.getElem_mem hk)).2.2; omega) | (have h1 := codeS_le hS m.code.length; rw [List.take_length] at h1; have h1' : (codeS m).size ≤ 40200 := h1; simp only [Ya]; omega) | (have h1 := hdsS_le hS k; have h2 := hS.hi _ (List.getElem_mem hk); simp only [ByteArray.size_append, Ya, Yq]; omega) | (have h1 := hdsS_le hS m.handlers.length; rw [List.take_length] at h1; have h1' : (hdsS m).size ≤ 41000 := h1; simp only [Ya]; omega) | (have h1 := methodTo_le hS k; obtain ⟨a, b, c, d⟩ := hS.fi _ (List.getElem_mem hk); have e1 := Xx _ c; have e2 := Xx _ d; simp only [ByteArray.size_append, Ya]; omega)
 refine Zm rfl (Zh (ff rfl) rfl) (Zm rfl (Yb (tn rfl) rfl 0 rfl rfl) (WO_call fn100 rfl rfl (fun w _ => oneType_any m.result w hm.ok.2.1) ?_))
 refine Zm rfl (Ex_addS rfl rfl ?_) ?_
 ·first | (simp only [ByteArray.size_append, Ya, Yq, Xw]; omega) | (have h1 := codeS_le hS k; have h2 := (hS.ci _ (List.getElem_mem hk)).2.2; omega) | (have h1 := codeS_le hS m.code.length; rw [List.take_length] at h1; have h1' : (codeS m).size ≤ 40200 := h1; simp only [Ya]; omega) | (have h1 := hdsS_le hS k; have h2 := hS.hi _ (List.getElem_mem hk); simp only [ByteArray.size_append, Ya, Yq]; omega) | (have h1 := hdsS_le hS m.handlers.length; rw [List.take_length] at h1; have h1' : (hdsS m).size ≤ 41000 := h1; simp only [Ya]; omega) | (have h1 := methodTo_le hS k; obtain ⟨a, b, c, d⟩ := hS.fi _ (List.getElem_mem hk); have e1 := Xx _ c; have e2 := Xx _ d; simp only [ByteArray.size_append, Ya]; omega)
 refine Zm rfl (Zh (ff rfl) rfl) (Zm rfl (Zj (t1 rfl) rfl (Zl 0 rfl rfl)) (WO_call fn98 rfl rfl (fun w _ => low1_any _ w) ?_))
 refine Zm rfl (Ex_addS rfl rfl ?_) ?_
 ·first | (simp only [ByteArray.size_append, Ya, Yq, Xw]; omega) | (have h1 := codeS_le hS k; have h2 := (hS.ci _ (List.getElem_mem hk)).2.2; omega) | (have h1 := codeS_le hS m.code.length; rw [List.take_length] at h1; have h1' : (codeS m).size ≤ 40200 := h1; simp only [Ya]; omega) | (have h1 := hdsS_le hS k; have h2 := hS.hi _ (List.getElem_mem hk); simp only [ByteArray.size_append, Ya, Yq]; omega) | (have h1 := hdsS_le hS m.handlers.length; rw [List.take_length] at h1; have h1' : (hdsS m).size ≤ 41000 := h1; simp only [Ya]; omega) | (have h1 := methodTo_le hS k; obtain ⟨a, b, c, d⟩ := hS.fi _ (List.getElem_mem hk); have e1 := Xx _ c; have e2 := Xx _ d; simp only [ByteArray.size_append, Ya]; omega)
 refine Zm rfl (Zh (ff rfl) rfl) (Zm rfl (Zj (t1 rfl) rfl (Zl 0 rfl rfl)) (WO_call fn98 rfl rfl (fun w _ => low1_any _ w) ?_))
 refine Zm rfl (Ex_addS rfl rfl ?_) ?_
 ·first | (simp only [ByteArray.size_append, Ya, Yq, Xw]; omega) | (have h1 := codeS_le hS k; have h2 := (hS.ci _ (List.getElem_mem hk)).2.2; omega) | (have h1 := codeS_le hS m.code.length; rw [List.take_length] at h1; have h1' : (codeS m).size ≤ 40200 := h1; simp only [Ya]; omega) | (have h1 := hdsS_le hS k; have h2 := hS.hi _ (List.getElem_mem hk); simp only [ByteArray.size_append, Ya, Yq]; omega) | (have h1 := hdsS_le hS m.handlers.length; rw [List.take_length] at h1; have h1' : (hdsS m).size ≤ 41000 := h1; simp only [Ya]; omega) | (have h1 := methodTo_le hS k; obtain ⟨a, b, c, d⟩ := hS.fi _ (List.getElem_mem hk); have e1 := Xx _ c; have e2 := Xx _ d; simp only [ByteArray.size_append, Ya]; omega)
 refine Zm rfl (Zh (ff rfl) rfl) (Zm rfl (Zj (t1 rfl) rfl (Zl 0 rfl rfl)) (Zm rfl (Yg (ts rfl) rfl) (WO_call fn98 rfl rfl (fun w _ => low2_any _ w) ?_)))
 refine Zm rfl (Ex_addS rfl rfl ?_) ?_
 ·first | (simp only [ByteArray.size_append, Ya, Yq, Xw]; omega) | (have h1 := codeS_le hS k; have h2 := (hS.ci _ (List.getElem_mem hk)).2.2; omega) | (have h1 := codeS_le hS m.code.length; rw [List.take_length] at h1; have h1' : (codeS m).size ≤ 40200 := h1; simp only [Ya]; omega) | (have h1 := hdsS_le hS k; have h2 := hS.hi _ (List.getElem_mem hk); simp only [ByteArray.size_append, Ya, Yq]; omega) | (have h1 := hdsS_le hS m.handlers.length; rw [List.take_length] at h1; have h1' : (hdsS m).size ≤ 41000 := h1; simp only [Ya]; omega) | (have h1 := methodTo_le hS k; obtain ⟨a, b, c, d⟩ := hS.fi _ (List.getElem_mem hk); have e1 := Xx _ c; have e2 := Xx _ d; simp only [ByteArray.size_append, Ya]; omega)
 refine Zm rfl (Zg rfl) (WO_nil (Zc (Zf (Zf (Zb ?_)))))
 refine Za rfl (Zg rfl) (Ze (Zc (Zs (Xh (E' := (fun k : Nat => [(1, .pointer (some ⟨b0, 0, none⟩)), (3, .string ((m.code.take k).foldl (fun s i => s ++ instrS i) (headS m))), (4, .int .i64 (k : Nat))]) (0)) ⟨rfl, rfl, rfl, trivial⟩ (Yy (X := Nat) (fun k : Nat => [(1, .pointer (some ⟨b0, 0, none⟩)), (3, .string ((m.code.take k).foldl (fun s i => s ++ instrS i) (headS m))), (4, .int .i64 (k : Nat))]) _ _ (fun k : Nat => [(b0, meV m pv (.slice p2 m.code.length e2) (.slice p3 m.handlers.length e3) (.slice p4 m.frames.length e4))]) (fun k : Nat => Asr.none) (fun k : Nat => k ≤ m.code.length) (fun k : Nat => m.code.length - k) (0) (Nat.zero_le _) ?_)))))
 intro k hI
 refine Zf (Zf (Zb (Za rfl (Zd rfl) (Za rfl (Zh (ff rfl) rfl) (Za rfl (Zj (t1 rfl) rfl (Zl 0 rfl rfl)) ?_)))))
 refine Za rfl (Yg (ts rfl) rfl) (Za rfl (Xb rfl rfl) (Ze (Zc (Yi rfl ?_ ?_))))
 ·intro c1
  try (first | replace c1 := dTr c1 | replace c1 := Zk c1)
  have hk : k < m.code.length := by omega
  obtain ⟨b, o, r, hp, hb, ⟨pv', hr, hpt, hio⟩, hc⟩ := hr2.out k m.code[k] (List.getElem?_eq_getElem hk)
  subst hp; subst hr
  refine Zw (Zc (Zf (Zs (Zb (Za rfl (Zd rfl) ?_)))))
  refine Za rfl (Zh (ff rfl) rfl) (Za rfl (Zj (t1 rfl) rfl (Zl 0 rfl rfl)) (Za rfl (Zd rfl) (Za rfl (Xk (ts rfl) rfl rfl ?_) ?_)))
  ·omega
  refine Za rfl (Ym (tn rfl) rfl (Yt hc hb) rfl) ?_
  refine Xi fn138 rfl rfl (fun w hs => instr_any _ _ w (hpt.mono (lowOf hs)) hio (by have := (hS.ci _ (List.getElem_mem hk)).1; omega) (hS.ci _ (List.getElem_mem hk)).2.1) ?_
  refine Za rfl (Ex_addS rfl rfl ?_) ?_
  ·first | (simp only [ByteArray.size_append, Ya, Yq, Xw]; omega) | (have h1 := codeS_le hS k; have h2 := (hS.ci _ (List.getElem_mem hk)).2.2; omega) | (have h1 := codeS_le hS m.code.length; rw [List.take_length] at h1; have h1' : (codeS m).size ≤ 40200 := h1; simp only [Ya]; omega) | (have h1 := hdsS_le hS k; have h2 := hS.hi _ (List.getElem_mem hk); simp only [ByteArray.size_append, Ya, Yq]; omega) | (have h1 := hdsS_le hS m.handlers.length; rw [List.take_length] at h1; have h1' : (hdsS m).size ≤ 41000 := h1; simp only [Ya]; omega) | (have h1 := methodTo_le hS k; obtain ⟨a, b, c, d⟩ := hS.fi _ (List.getElem_mem hk); have e1 := Xx _ c; have e2 := Xx _ d; simp only [ByteArray.size_append, Ya]; omega)
  refine Za rfl (Zg rfl) (Ze (Zx (Zc (Zb (Za rfl (Zd rfl) ?_)))))
  (first | (refine Za rfl (Xa rfl rfl ?_) ?_; omega) | (refine Za rfl (Yp rfl rfl ?_) ?_; omega) | refine Za rfl (Yz rfl rfl) ?_)
  refine Za rfl (Zg rfl) (Ze ?_)
  refine WQ_same (s := 3) (v' := .string ((m.code.take (k + 1)).foldl (fun s i => s ++ instrS i) (headS m))) rfl (by rw [List.take_succ_eq_append_getElem hk, List.foldl_append]; rfl) ?_
  refine Yn (k + 1) ?_ (hk) 0 rfl (rfl) ⟨rfl, rfl, rfl, trivial⟩
  omega
 ·intro c1
  try (first | replace c1 := dFa c1 | replace c1 := Zi c1)
  refine Yx (Yw (Yo (Yv (Zc (Zf ?_)))))
  refine WC_same (s := 3) (v' := .string (codeS m)) rfl (by rw [List.take_of_length_le (by omega)]; rfl) ?_
  refine Zb (Za rfl (Zd rfl) (Za rfl (Zh (ff rfl) rfl) (Za rfl (Zj (t1 rfl) rfl (Zl 0 rfl rfl)) (Za rfl (Yg (ts rfl) rfl) (Xi fn98 rfl rfl (fun w _ => low1_any _ w) ?_)))))
  refine Za rfl (Ex_addS rfl rfl ?_) ?_
  ·first | (simp only [ByteArray.size_append, Ya, Yq, Xw]; omega) | (have h1 := codeS_le hS k; have h2 := (hS.ci _ (List.getElem_mem hk)).2.2; omega) | (have h1 := codeS_le hS m.code.length; rw [List.take_length] at h1; have h1' : (codeS m).size ≤ 40200 := h1; simp only [Ya]; omega) | (have h1 := hdsS_le hS k; have h2 := hS.hi _ (List.getElem_mem hk); simp only [ByteArray.size_append, Ya, Yq]; omega) | (have h1 := hdsS_le hS m.handlers.length; rw [List.take_length] at h1; have h1' : (hdsS m).size ≤ 41000 := h1; simp only [Ya]; omega) | (have h1 := methodTo_le hS k; obtain ⟨a, b, c, d⟩ := hS.fi _ (List.getElem_mem hk); have e1 := Xx _ c; have e2 := Xx _ d; simp only [ByteArray.size_append, Ya]; omega)
  refine Za rfl (Zg rfl) (Ze (Zc (Zf (Zf (Zb ?_)))))
  refine Za rfl (Zg rfl) (Ze (Zc (Zs (Xh (E' := (fun k : Nat => [(1, .pointer (some ⟨b0, 0, none⟩)), (3, .string ((m.handlers.take k).foldl hdS (codeS m ++ lowS (m.handlers.length : Nat) 1))), (5, .int .i64 (k : Nat))]) (0)) ⟨rfl, rfl, rfl, trivial⟩ (Yy (X := Nat) (fun k : Nat => [(1, .pointer (some ⟨b0, 0, none⟩)), (3, .string ((m.handlers.take k).foldl hdS (codeS m ++ lowS (m.handlers.length : Nat) 1))), (5, .int .i64 (k : Nat))]) _ _ (fun k : Nat => [(b0, meV m pv (.slice p2 m.code.length e2) (.slice p3 m.handlers.length e3) (.slice p4 m.frames.length e4))]) (fun k : Nat => Asr.none) (fun k : Nat => k ≤ m.handlers.length) (fun k : Nat => m.handlers.length - k) (0) (Nat.zero_le _) ?_)))))
  intro k hI
  refine Zf (Zf (Zb (Za rfl (Zd rfl) (Za rfl (Zh (ff rfl) rfl) (Za rfl (Zj (t1 rfl) rfl (Zl 0 rfl rfl)) ?_)))))
  refine Za rfl (Yg (ts rfl) rfl) (Za rfl (Xb rfl rfl) (Ze (Zc (Yi rfl ?_ ?_))))
  ·intro c2
   try (first | replace c2 := dTr c2 | replace c2 := Zk c2)
   have hk : k < m.handlers.length := by omega
   obtain ⟨b, o, r, hp, hb, ⟨hr, hho⟩, hc⟩ := hr3.out k m.handlers[k] (List.getElem?_eq_getElem hk)
   subst hp; subst hr
   refine Zw (Zc (Zf (Zs (Zf (Zb ?_)))))
   refine Za rfl (Zh (ff rfl) rfl) (Za rfl (Zj (t1 rfl) rfl (Zl 0 rfl rfl)) (Za rfl (Zd rfl) (Za rfl (Xk (ts rfl) rfl rfl ?_) ?_)))
   ·omega
   refine Za rfl (Ym (tn rfl) rfl (Yt hc hb) rfl) (Xg rfl (tz rfl) ?_)
   intro b1 hb1
   refine Yd (tn rfl) rfl rfl 0 rfl rfl rfl rfl (Ze (Zc (WC_draw mixed (by kernel_rfl) ?_)))
   refine Zm rfl (Zd rfl) (Zm rfl (Zh (ff rfl) rfl) (Zm rfl (Zj (t1 rfl) rfl (Zl 0 rfl rfl)) (WO_call fn98 rfl rfl (fun w _ => low2_any _ w) ?_)))
   refine Zm rfl (Ex_addS rfl rfl ?_) ?_
   ·first | (simp only [ByteArray.size_append, Ya, Yq, Xw]; omega) | (have h1 := codeS_le hS k; have h2 := (hS.ci _ (List.getElem_mem hk)).2.2; omega) | (have h1 := codeS_le hS m.code.length; rw [List.take_length] at h1; have h1' : (codeS m).size ≤ 40200 := h1; simp only [Ya]; omega) | (have h1 := hdsS_le hS k; have h2 := hS.hi _ (List.getElem_mem hk); simp only [ByteArray.size_append, Ya, Yq]; omega) | (have h1 := hdsS_le hS m.handlers.length; rw [List.take_length] at h1; have h1' : (hdsS m).size ≤ 41000 := h1; simp only [Ya]; omega) | (have h1 := methodTo_le hS k; obtain ⟨a, b, c, d⟩ := hS.fi _ (List.getElem_mem hk); have e1 := Xx _ c; have e2 := Xx _ d; simp only [ByteArray.size_append, Ya]; omega)
   refine Zm rfl (Zh (ff rfl) rfl) (Zm rfl (Zj (t1 rfl) rfl (Zl 0 rfl rfl)) (WO_call fn98 rfl rfl (fun w _ => low2_any _ w) ?_))
   refine Zm rfl (Ex_addS rfl rfl ?_) ?_
   ·first | (simp only [ByteArray.size_append, Ya, Yq, Xw]; omega) | (have h1 := codeS_le hS k; have h2 := (hS.ci _ (List.getElem_mem hk)).2.2; omega) | (have h1 := codeS_le hS m.code.length; rw [List.take_length] at h1; have h1' : (codeS m).size ≤ 40200 := h1; simp only [Ya]; omega) | (have h1 := hdsS_le hS k; have h2 := hS.hi _ (List.getElem_mem hk); simp only [ByteArray.size_append, Ya, Yq]; omega) | (have h1 := hdsS_le hS m.handlers.length; rw [List.take_length] at h1; have h1' : (hdsS m).size ≤ 41000 := h1; simp only [Ya]; omega) | (have h1 := methodTo_le hS k; obtain ⟨a, b, c, d⟩ := hS.fi _ (List.getElem_mem hk); have e1 := Xx _ c; have e2 := Xx _ d; simp only [ByteArray.size_append, Ya]; omega)
   refine Zm rfl (Zh (ff rfl) rfl) (Zm rfl (Zj (t1 rfl) rfl (Zl 0 rfl rfl)) (WO_call fn98 rfl rfl (fun w _ => low2_any _ w) ?_))
   refine Zm rfl (Ex_addS rfl rfl ?_) ?_
   ·first | (simp only [ByteArray.size_append, Ya, Yq, Xw]; omega) | (have h1 := codeS_le hS k; have h2 := (hS.ci _ (List.getElem_mem hk)).2.2; omega) | (have h1 := codeS_le hS m.code.length; rw [List.take_length] at h1; have h1' : (codeS m).size ≤ 40200 := h1; simp only [Ya]; omega) | (have h1 := hdsS_le hS k; have h2 := hS.hi _ (List.getElem_mem hk); simp only [ByteArray.size_append, Ya, Yq]; omega) | (have h1 := hdsS_le hS m.handlers.length; rw [List.take_length] at h1; have h1' : (hdsS m).size ≤ 41000 := h1; simp only [Ya]; omega) | (have h1 := methodTo_le hS k; obtain ⟨a, b, c, d⟩ := hS.fi _ (List.getElem_mem hk); have e1 := Xx _ c; have e2 := Xx _ d; simp only [ByteArray.size_append, Ya]; omega)
   refine Zm rfl (Zh (ff rfl) rfl) (Zm rfl (Zj (t1 rfl) rfl (Zl 0 rfl rfl)) (WO_call fn97 rfl rfl (fun w _ => name_any _ w hho.2.2.2) ?_))
   refine Zm rfl (Ex_addS rfl rfl ?_) ?_
   ·first | (simp only [ByteArray.size_append, Ya, Yq, Xw]; omega) | (have h1 := codeS_le hS k; have h2 := (hS.ci _ (List.getElem_mem hk)).2.2; omega) | (have h1 := codeS_le hS m.code.length; rw [List.take_length] at h1; have h1' : (codeS m).size ≤ 40200 := h1; simp only [Ya]; omega) | (have h1 := hdsS_le hS k; have h2 := hS.hi _ (List.getElem_mem hk); simp only [ByteArray.size_append, Ya, Yq]; omega) | (have h1 := hdsS_le hS m.handlers.length; rw [List.take_length] at h1; have h1' : (hdsS m).size ≤ 41000 := h1; simp only [Ya]; omega) | (have h1 := methodTo_le hS k; obtain ⟨a, b, c, d⟩ := hS.fi _ (List.getElem_mem hk); have e1 := Xx _ c; have e2 := Xx _ d; simp only [ByteArray.size_append, Ya]; omega)
   refine Zm rfl (Zg rfl) (WO_nil (Zx (Zc (Zb (Za rfl (Zd rfl) ?_)))))
   (first | (refine Za rfl (Xa rfl rfl ?_) ?_; omega) | (refine Za rfl (Yp rfl rfl ?_) ?_; omega) | refine Za rfl (Yz rfl rfl) ?_)
   refine Za rfl (Zg rfl) (Ze ?_)
   refine WQ_same (s := 3) (v' := .string ((m.handlers.take (k + 1)).foldl hdS (codeS m ++ lowS (m.handlers.length : Nat) 1))) rfl (by rw [List.take_succ_eq_append_getElem hk, List.foldl_append]; rfl) ?_
   refine Yn (k + 1) ?_ (hk) 1 rfl (rfl) ⟨rfl, rfl, rfl, trivial⟩
   omega
  ·intro c2
   try (first | replace c2 := dFa c2 | replace c2 := Zi c2)
   refine Yx (Yw (Yo (Yv (Zc (Zf ?_)))))
   refine WC_same (s := 3) (v' := .string (hdsS m)) rfl (by rw [List.take_of_length_le (by omega)]; rfl) ?_
   refine Zb (Za rfl (Zd rfl) (Za rfl (Zh (ff rfl) rfl) (Za rfl (Zj (t1 rfl) rfl (Zl 0 rfl rfl)) (Za rfl (Yg (ts rfl) rfl) (Xi fn98 rfl rfl (fun w _ => low1_any _ w) ?_)))))
   refine Za rfl (Ex_addS rfl rfl ?_) ?_
   ·first | (simp only [ByteArray.size_append, Ya, Yq, Xw]; omega) | (have h1 := codeS_le hS k; have h2 := (hS.ci _ (List.getElem_mem hk)).2.2; omega) | (have h1 := codeS_le hS m.code.length; rw [List.take_length] at h1; have h1' : (codeS m).size ≤ 40200 := h1; simp only [Ya]; omega) | (have h1 := hdsS_le hS k; have h2 := hS.hi _ (List.getElem_mem hk); simp only [ByteArray.size_append, Ya, Yq]; omega) | (have h1 := hdsS_le hS m.handlers.length; rw [List.take_length] at h1; have h1' : (hdsS m).size ≤ 41000 := h1; simp only [Ya]; omega) | (have h1 := methodTo_le hS k; obtain ⟨a, b, c, d⟩ := hS.fi _ (List.getElem_mem hk); have e1 := Xx _ c; have e2 := Xx _ d; simp only [ByteArray.size_append, Ya]; omega)
   refine Za rfl (Zg rfl) (Ze (Zc (Zf (Zf (Zb ?_)))))
   refine Za rfl (Zg rfl) (Ze (Zc (Zs (Xh (E' := (fun k : Nat => [(1, .pointer (some ⟨b0, 0, none⟩)), (3, .string ((m.frames.take k).foldl frS (hdsS m ++ lowS (m.frames.length : Nat) 1))), (7, .int .i64 (k : Nat))]) (0)) ⟨rfl, rfl, rfl, trivial⟩ (Yy (X := Nat) (fun k : Nat => [(1, .pointer (some ⟨b0, 0, none⟩)), (3, .string ((m.frames.take k).foldl frS (hdsS m ++ lowS (m.frames.length : Nat) 1))), (7, .int .i64 (k : Nat))]) _ _ (fun k : Nat => [(b0, meV m pv (.slice p2 m.code.length e2) (.slice p3 m.handlers.length e3) (.slice p4 m.frames.length e4))]) (fun k : Nat => Asr.none) (fun k : Nat => k ≤ m.frames.length) (fun k : Nat => m.frames.length - k) (0) (Nat.zero_le _) ?_)))))
   intro k hI
   refine Zf (Zf (Zb (Za rfl (Zd rfl) (Za rfl (Zh (ff rfl) rfl) (Za rfl (Zj (t1 rfl) rfl (Zl 0 rfl rfl)) ?_)))))
   refine Za rfl (Yg (ts rfl) rfl) (Za rfl (Xb rfl rfl) (Ze (Zc (Yi rfl ?_ ?_))))
   ·intro c3
    try (first | replace c3 := dTr c3 | replace c3 := Zk c3)
    have hk : k < m.frames.length := by omega
    obtain ⟨b, o, r, hp, hb, ⟨lv, sv, hr, hfl, hfs, hfo⟩, hc⟩ := hr4.out k m.frames[k] (List.getElem?_eq_getElem hk)
    subst hp; subst hr
    refine Zw (Zc (Zf (Zs (WC_draw mixed (by kernel_rfl) ?_))))
    refine Zm rfl (Zd rfl) (Zm rfl (Zh (ff rfl) rfl) (Zm rfl (Zj (t1 rfl) rfl (Zl 0 rfl rfl)) (Zm rfl (Zd rfl) (Zm rfl (Xk (ts rfl) rfl rfl ?_) ?_))))
    ·omega
    refine Zm rfl (Zh (ff rfl) rfl) ?_
    (first | refine Zm rfl (Zj (t1 rfl) rfl (Zn (hc 0 _ rfl) hb)) ?_ | refine Zm rfl (Zj (t1 rfl) rfl (Zn (hc 1 _ rfl) hb)) ?_ | refine Zm rfl (Zj (t1 rfl) rfl (Zn (hc 2 _ rfl) hb)) ?_)
    refine WO_call fn98 rfl rfl (fun w _ => low2_any _ w) ?_
    refine Zm rfl (Ex_addS rfl rfl ?_) ?_
    ·first | (simp only [ByteArray.size_append, Ya, Yq, Xw]; omega) | (have h1 := codeS_le hS k; have h2 := (hS.ci _ (List.getElem_mem hk)).2.2; omega) | (have h1 := codeS_le hS m.code.length; rw [List.take_length] at h1; have h1' : (codeS m).size ≤ 40200 := h1; simp only [Ya]; omega) | (have h1 := hdsS_le hS k; have h2 := hS.hi _ (List.getElem_mem hk); simp only [ByteArray.size_append, Ya, Yq]; omega) | (have h1 := hdsS_le hS m.handlers.length; rw [List.take_length] at h1; have h1' : (hdsS m).size ≤ 41000 := h1; simp only [Ya]; omega) | (have h1 := methodTo_le hS k; obtain ⟨a, b, c, d⟩ := hS.fi _ (List.getElem_mem hk); have e1 := Xx _ c; have e2 := Xx _ d; simp only [ByteArray.size_append, Ya]; omega)
    refine Zm rfl (Zh (ff rfl) rfl) (Zm rfl (Zj (t1 rfl) rfl (Zl 0 rfl rfl)) (Zm rfl (Zd rfl) (Zm rfl (Xk (ts rfl) rfl rfl ?_) ?_)))
    ·omega
    refine Zm rfl (Zh (ff rfl) rfl) ?_
    (first | refine Zm rfl (Zj (t1 rfl) rfl (Zn (hc 0 _ rfl) hb)) ?_ | refine Zm rfl (Zj (t1 rfl) rfl (Zn (hc 1 _ rfl) hb)) ?_ | refine Zm rfl (Zj (t1 rfl) rfl (Zn (hc 2 _ rfl) hb)) ?_)
    refine WO_call fn137 rfl rfl (fun w hs => types_any _ m.frames[k].locals w (hfl.mono (lowOf hs)) (hS.fi _ (List.getElem_mem hk)).1 (hS.fi _ (List.getElem_mem hk)).2.2.1) ?_
    refine Zm rfl (Ex_addS rfl rfl ?_) ?_
    ·first | (simp only [ByteArray.size_append, Ya, Yq, Xw]; omega) | (have h1 := codeS_le hS k; have h2 := (hS.ci _ (List.getElem_mem hk)).2.2; omega) | (have h1 := codeS_le hS m.code.length; rw [List.take_length] at h1; have h1' : (codeS m).size ≤ 40200 := h1; simp only [Ya]; omega) | (have h1 := hdsS_le hS k; have h2 := hS.hi _ (List.getElem_mem hk); simp only [ByteArray.size_append, Ya, Yq]; omega) | (have h1 := hdsS_le hS m.handlers.length; rw [List.take_length] at h1; have h1' : (hdsS m).size ≤ 41000 := h1; simp only [Ya]; omega) | (have h1 := methodTo_le hS k; obtain ⟨a, b, c, d⟩ := hS.fi _ (List.getElem_mem hk); have e1 := Xx _ c; have e2 := Xx _ d; simp only [ByteArray.size_append, Ya]; omega)
    refine Zm rfl (Zh (ff rfl) rfl) (Zm rfl (Zj (t1 rfl) rfl (Zl 0 rfl rfl)) (Zm rfl (Zd rfl) (Zm rfl (Xk (ts rfl) rfl rfl ?_) ?_)))
    ·omega
    refine Zm rfl (Zh (ff rfl) rfl) ?_
    (first | refine Zm rfl (Zj (t1 rfl) rfl (Zn (hc 0 _ rfl) hb)) ?_ | refine Zm rfl (Zj (t1 rfl) rfl (Zn (hc 1 _ rfl) hb)) ?_ | refine Zm rfl (Zj (t1 rfl) rfl (Zn (hc 2 _ rfl) hb)) ?_)
    refine WO_call fn137 rfl rfl (fun w hs => types_any _ m.frames[k].stack w (hfs.mono (lowOf hs)) (hS.fi _ (List.getElem_mem hk)).2.1 (hS.fi _ (List.getElem_mem hk)).2.2.2) ?_
    refine Zm rfl (Ex_addS rfl rfl ?_) ?_
    ·first | (simp only [ByteArray.size_append, Ya, Yq, Xw]; omega) | (have h1 := codeS_le hS k; have h2 := (hS.ci _ (List.getElem_mem hk)).2.2; omega) | (have h1 := codeS_le hS m.code.length; rw [List.take_length] at h1; have h1' : (codeS m).size ≤ 40200 := h1; simp only [Ya]; omega) | (have h1 := hdsS_le hS k; have h2 := hS.hi _ (List.getElem_mem hk); simp only [ByteArray.size_append, Ya, Yq]; omega) | (have h1 := hdsS_le hS m.handlers.length; rw [List.take_length] at h1; have h1' : (hdsS m).size ≤ 41000 := h1; simp only [Ya]; omega) | (have h1 := methodTo_le hS k; obtain ⟨a, b, c, d⟩ := hS.fi _ (List.getElem_mem hk); have e1 := Xx _ c; have e2 := Xx _ d; simp only [ByteArray.size_append, Ya]; omega)
    refine Zm rfl (Zg rfl) (WO_nil (Zx (Zc (Zb (Za rfl (Zd rfl) ?_)))))
    (first | (refine Za rfl (Xa rfl rfl ?_) ?_; omega) | (refine Za rfl (Yp rfl rfl ?_) ?_; omega) | refine Za rfl (Yz rfl rfl) ?_)
    refine Za rfl (Zg rfl) (Ze ?_)
    refine WQ_same (s := 3) (v' := .string ((m.frames.take (k + 1)).foldl frS (hdsS m ++ lowS (m.frames.length : Nat) 1))) rfl (by rw [List.take_succ_eq_append_getElem hk, List.foldl_append]; rfl) ?_
    refine Yn (k + 1) ?_ (hk) 0 rfl (rfl) ⟨rfl, rfl, rfl, trivial⟩
    omega
   ·intro c3
    try (first | replace c3 := dFa c3 | replace c3 := Zi c3)
    refine Yx (Yw (Yo (Yv (Zc (Zf ?_)))))
    refine Zb (Za rfl (Zd rfl) (Za rfl (Zg rfl) (Ze (Zc (Zv ?_)))))
    refine Yh rfl rfl ?_
    rw [List.take_of_length_le (by omega)]; rfl
end Go.Proofs.YtpofmnfkdkmieaaGreat
