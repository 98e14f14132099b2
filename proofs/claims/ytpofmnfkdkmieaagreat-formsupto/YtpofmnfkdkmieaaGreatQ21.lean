/- What is proved here: the document's own answers Bytes and Encode. -/
import Derived.Test.YtpofmnfkdkmieaaGreatQ20
set_option linter.unusedVariables false
set_option linter.unusedSimpArgs false
namespace Go.Proofs.YtpofmnfkdkmieaaGreat
open Go.RowKit At E
def fdS (s : ByteArray) (f : Fld) : ByteArray := s ++ nameS f.name ++ flagS f.stat ++ oneTypeS f.ty
def topS (c : Cl) : ByteArray := ⟨#[67, 76, 65, 83]⟩ ++ nameS c.name ++ nameS c.super ++ lowS (c.fields.length : Nat) 1
def fdsS (c : Cl) : ByteArray := c.fields.foldl fdS (topS c)
def bytesS (c : Cl) : ByteArray := c.methods.foldl (fun s m => s ++ methodS m) (fdsS c ++ lowS (c.methods.length : Nat) 1)
structure ClSmall (c : Cl) : Prop where
 nm : c.name.size ≤ 12 ∧ c.super.size ≤ 12
 fl : c.fields.length ≤ 20
 ml : c.methods.length ≤ 20
 fi : ∀ f ∈ c.fields, f.name.size ≤ 12 ∧ f.ty.cls.size ≤ 12
 mi : ∀ m ∈ c.methods, MeSmall m
theorem isClassB_small {c : Cl} (h : isClassB c = true) : ClSmall c := by
 unfold isClassB at h
 simp only [Bool.and_eq_true, decide_eq_true_eq] at h
 obtain ⟨⟨⟨⟨⟨h1, h2⟩, h3⟩, h4⟩, h5⟩, h6⟩ := h
 refine ⟨⟨isNameB_size h1, isNameB_size h2⟩, by omega, by omega, fun f hf => ?_, fun m hm => ?_⟩
 ·obtain ⟨k, hk⟩ := List.mem_iff_getElem?.1 hf
  have hkl : k < c.fields.length := by
   rcases Nat.lt_or_ge k c.fields.length with h' | h'
   ·exact h'
   ·rw [List.getElem?_eq_none h'] at hk; cases hk
  have := List.all_eq_true.1 h5 k (List.mem_range.2 hkl)
  unfold fdAt at this
  rw [hk] at this
  simp only [Bool.and_eq_true] at this
  exact ⟨isNameB_size this.1.1, isTypeB_size this.1.2⟩
 ·obtain ⟨k, hk⟩ := List.mem_iff_getElem?.1 hm
  have hkl : k < c.methods.length := by
   rcases Nat.lt_or_ge k c.methods.length with h' | h'
   ·exact h'
   ·rw [List.getElem?_eq_none h'] at hk; cases hk
  have := List.all_eq_true.1 h6 k (List.mem_range.2 hkl)
  unfold meAt at this
  rw [hk] at this
  simp only [Bool.and_eq_true] at this
  exact isMethodB_small this.1
theorem topS_le {c : Cl} (h : ClSmall c) : (topS c).size ≤ 40 := by
 have := h.nm
 unfold topS
 have e : (⟨#[67, 76, 65, 83]⟩ : ByteArray).size = 4 := rfl
 simp only [ByteArray.size_append, Ya, Yq, e]; omega
theorem fdsS_le {c : Cl} (h : ClSmall c) (k : Nat) : ((c.fields.take k).foldl fdS (topS c)).size ≤ 1000 := by
 have := foldl_le fdS 30 (c.fields.take k) (topS c) (fun s f hf => by have h1 := h.fi f (List.mem_of_mem_take hf); have h2 := oneTypeS_le f.ty; simp only [fdS, ByteArray.size_append, Yq, Xw]; omega)
 have h1 := topS_le h
 have h2 := h.fl
 have h3 : (c.fields.take k).length ≤ 20 := by rw [List.length_take]; omega
 have h4 : (c.fields.take k).length * 30 ≤ 20 * 30 := Nat.mul_le_mul_right _ h3
 omega
theorem methodS_le {m : Me} (h : MeSmall m) : (methodS m).size ≤ 90000 := by
 have := methodTo_le h m.frames.length
 rw [List.take_length] at this; exact this
theorem bytesTo_le {c : Cl} (h : ClSmall c) (k : Nat) : ((c.methods.take k).foldl (fun s m => s ++ methodS m) (fdsS c ++ lowS (c.methods.length : Nat) 1)).size ≤ 2000000 := by
 have := foldl_le (fun s m => s ++ methodS m) 90000 (c.methods.take k) (fdsS c ++ lowS (c.methods.length : Nat) 1) (fun s m hm => by have h1 := methodS_le (h.mi m (List.mem_of_mem_take hm)); simp only [ByteArray.size_append]; omega)
 have h1 := fdsS_le h c.fields.length
 rw [List.take_length] at h1
 have h5 : (fdsS c).size ≤ 1000 := h1
 have h2 := h.ml
 have h3 : (c.methods.take k).length ≤ 20 := by rw [List.length_take]; omega
 have h4 : (c.methods.take k).length * 90000 ≤ 20 * 90000 := Nat.mul_le_mul_right _ h3
 rw [ByteArray.size_append, Ya] at this
 omega
set_option maxHeartbeats 1000000 in
theorem bytes_any (c : Cl) (fv mv : Value) (w : World) (hc0 : ClAt w c fv mv) (hS : ClSmall c) : Pure Tryz.prog 55 #[.agg (clV c fv mv).toArray] w (.string (bytesS c)) := by
 obtain ⟨p1, e1, rfl, hl1, hr1⟩ := hc0.fs.is
 obtain ⟨p2, e2, rfl, hl2, hr2⟩ := hc0.ms.is
 replace hr1 : Hid _ := hr1
 replace hr2 : Hid _ := hr2
 have hnm := hS.nm
 have e4 : (⟨#[67, 76, 65, 83]⟩ : ByteArray).size = 4 := rfl
 refine opens (args := [.agg (clV c (.slice p1 c.fields.length e1) (.slice p2 c.methods.length e2)).toArray]) Tryz.func55 rfl Tryz.ntmps55 ?_
 refine Zf (Zb (WL_box rfl rfl ?_))
 intro b0 hb0
 refine Za rfl (Zg rfl) (Ze (Zc (Zf (WC_draw mixed (by kernel_rfl) ?_))))
 refine Zm rfl (Zh (ff rfl) rfl) (Zm rfl (Zj (t1 rfl) rfl (Zl 0 rfl rfl)) (WO_call fn97 rfl rfl (fun w _ => name_any _ w hc0.ok.1) ?_))
 refine Zm rfl (Ex_addS rfl rfl ?_) ?_
 ·first | (simp only [ByteArray.size_append, Ya, Yq, Xw, e4]; omega) | (have h1 := fdsS_le hS k; have h2 := hS.fi _ (List.getElem_mem hk); have h3 := oneTypeS_le c.fields[k].ty; simp only [ByteArray.size_append, Yq, Xw]; omega) | (have h1 := fdsS_le hS c.fields.length; rw [List.take_length] at h1; have h1' : (fdsS c).size ≤ 1000 := h1; simp only [Ya]; omega) | (have h1 := bytesTo_le hS k; have h2 := methodS_le (hS.mi _ (List.getElem_mem hk)); omega)
 refine Zm rfl (Zh (ff rfl) rfl) (Zm rfl (Zj (t1 rfl) rfl (Zl 0 rfl rfl)) (WO_call fn97 rfl rfl (fun w _ => name_any _ w hc0.ok.2) ?_))
 refine Zm rfl (Ex_addS rfl rfl ?_) ?_
 ·first | (simp only [ByteArray.size_append, Ya, Yq, Xw, e4]; omega) | (have h1 := fdsS_le hS k; have h2 := hS.fi _ (List.getElem_mem hk); have h3 := oneTypeS_le c.fields[k].ty; simp only [ByteArray.size_append, Yq, Xw]; omega) | (have h1 := fdsS_le hS c.fields.length; rw [List.take_length] at h1; have h1' : (fdsS c).size ≤ 1000 := h1; simp only [Ya]; omega) | (have h1 := bytesTo_le hS k; have h2 := methodS_le (hS.mi _ (List.getElem_mem hk)); omega)
 refine Zm rfl (Zh (ff rfl) rfl) (Zm rfl (Zj (t1 rfl) rfl (Zl 0 rfl rfl)) (Zm rfl (Yg (ts rfl) rfl) (WO_call fn98 rfl rfl (fun w _ => low1_any _ w) ?_)))
 refine Zm rfl (Ex_addS rfl rfl ?_) ?_
 ·first | (simp only [ByteArray.size_append, Ya, Yq, Xw, e4]; omega) | (have h1 := fdsS_le hS k; have h2 := hS.fi _ (List.getElem_mem hk); have h3 := oneTypeS_le c.fields[k].ty; simp only [ByteArray.size_append, Yq, Xw]; omega) | (have h1 := fdsS_le hS c.fields.length; rw [List.take_length] at h1; have h1' : (fdsS c).size ≤ 1000 := h1; simp only [Ya]; omega) | (have h1 := bytesTo_le hS k; have h2 := methodS_le (hS.mi _ (List.getElem_mem hk)); omega)
 refine Zm rfl (Zg rfl) (WO_nil (Zc (Zf (Zf (Zb ?_)))))
 refine Za rfl (Zg rfl) (Ze (Zc (Zs (Xh (E' := (fun k : Nat => [(1, .pointer (some ⟨b0, 0, none⟩)), (3, .string ((c.fields.take k).foldl fdS (topS c))), (4, .int .i64 (k : Nat))]) (0)) ⟨rfl, rfl, rfl, trivial⟩ (Yy (X := Nat) (fun k : Nat => [(1, .pointer (some ⟨b0, 0, none⟩)), (3, .string ((c.fields.take k).foldl fdS (topS c))), (4, .int .i64 (k : Nat))]) _ _ (fun k : Nat => [(b0, clV c (.slice p1 c.fields.length e1) (.slice p2 c.methods.length e2))]) (fun k : Nat => Asr.none) (fun k : Nat => k ≤ c.fields.length) (fun k : Nat => c.fields.length - k) (0) (Nat.zero_le _) ?_)))))
 intro k hI
 refine Zf (Zf (Zb (Za rfl (Zd rfl) (Za rfl (Zh (ff rfl) rfl) (Za rfl (Zj (t1 rfl) rfl (Zl 0 rfl rfl)) ?_)))))
 refine Za rfl (Yg (ts rfl) rfl) (Za rfl (Xb rfl rfl) (Ze (Zc (Yi rfl ?_ ?_))))
 ·intro c1
  try (first | replace c1 := dTr c1 | replace c1 := Zk c1)
  have hk : k < c.fields.length := by omega
  obtain ⟨b, o, r, hp, hb, ⟨hr, hfo⟩, hc⟩ := hr1.out k c.fields[k] (List.getElem?_eq_getElem hk)
  subst hp; subst hr
  refine Zw (Zc (Zf (Zs (WC_draw mixed (by kernel_rfl) ?_))))
  refine Zm rfl (Zd rfl) (Zm rfl (Zh (ff rfl) rfl) (Zm rfl (Zj (t1 rfl) rfl (Zl 0 rfl rfl)) (Zm rfl (Zd rfl) (Zm rfl (Xk (ts rfl) rfl rfl ?_) ?_))))
  ·omega
  refine Zm rfl (Zh (ff rfl) rfl) ?_
  (first | refine Zm rfl (Zj (t1 rfl) rfl (Zn (hc 0 _ rfl) hb)) ?_ | refine Zm rfl (Zj (t1 rfl) rfl (Zn (hc 1 _ rfl) hb)) ?_ | refine Zm rfl (Zj (t1 rfl) rfl (Yt (sub_row hc 2 2) hb)) ?_)
  refine WO_call fn97 rfl rfl (fun w _ => name_any _ w hfo.1) ?_
  refine Zm rfl (Ex_addS rfl rfl ?_) ?_
  ·first | (simp only [ByteArray.size_append, Ya, Yq, Xw, e4]; omega) | (have h1 := fdsS_le hS k; have h2 := hS.fi _ (List.getElem_mem hk); have h3 := oneTypeS_le c.fields[k].ty; simp only [ByteArray.size_append, Yq, Xw]; omega) | (have h1 := fdsS_le hS c.fields.length; rw [List.take_length] at h1; have h1' : (fdsS c).size ≤ 1000 := h1; simp only [Ya]; omega) | (have h1 := bytesTo_le hS k; have h2 := methodS_le (hS.mi _ (List.getElem_mem hk)); omega)
  refine Zm rfl (Zh (ff rfl) rfl) (Zm rfl (Zj (t1 rfl) rfl (Zl 0 rfl rfl)) (Zm rfl (Zd rfl) (Zm rfl (Xk (ts rfl) rfl rfl ?_) ?_)))
  ·omega
  refine Zm rfl (Zh (ff rfl) rfl) ?_
  (first | refine Zm rfl (Zj (t1 rfl) rfl (Zn (hc 0 _ rfl) hb)) ?_ | refine Zm rfl (Zj (t1 rfl) rfl (Zn (hc 1 _ rfl) hb)) ?_ | refine Zm rfl (Zj (t1 rfl) rfl (Yt (sub_row hc 2 2) hb)) ?_)
  refine WO_call fn99 rfl rfl (fun w _ => flag_any _ w) ?_
  refine Zm rfl (Ex_addS rfl rfl ?_) ?_
  ·first | (simp only [ByteArray.size_append, Ya, Yq, Xw, e4]; omega) | (have h1 := fdsS_le hS k; have h2 := hS.fi _ (List.getElem_mem hk); have h3 := oneTypeS_le c.fields[k].ty; simp only [ByteArray.size_append, Yq, Xw]; omega) | (have h1 := fdsS_le hS c.fields.length; rw [List.take_length] at h1; have h1' : (fdsS c).size ≤ 1000 := h1; simp only [Ya]; omega) | (have h1 := bytesTo_le hS k; have h2 := methodS_le (hS.mi _ (List.getElem_mem hk)); omega)
  refine Zm rfl (Zh (ff rfl) rfl) (Zm rfl (Zj (t1 rfl) rfl (Zl 0 rfl rfl)) (Zm rfl (Zd rfl) (Zm rfl (Xk (ts rfl) rfl rfl ?_) ?_)))
  ·omega
  refine Zm rfl (Zh (ff rfl) rfl) ?_
  (first | refine Zm rfl (Ym (tn rfl) rfl (Zn (hc 0 _ rfl) hb) rfl) ?_ | refine Zm rfl (Ym (tn rfl) rfl (Zn (hc 1 _ rfl) hb) rfl) ?_ | refine Zm rfl (Ym (tn rfl) rfl (Yt (sub_row hc 2 2) hb) rfl) ?_)
  refine WO_call fn100 rfl rfl (fun w _ => oneType_any _ w hfo.2) ?_
  refine Zm rfl (Ex_addS rfl rfl ?_) ?_
  ·first | (simp only [ByteArray.size_append, Ya, Yq, Xw, e4]; omega) | (have h1 := fdsS_le hS k; have h2 := hS.fi _ (List.getElem_mem hk); have h3 := oneTypeS_le c.fields[k].ty; simp only [ByteArray.size_append, Yq, Xw]; omega) | (have h1 := fdsS_le hS c.fields.length; rw [List.take_length] at h1; have h1' : (fdsS c).size ≤ 1000 := h1; simp only [Ya]; omega) | (have h1 := bytesTo_le hS k; have h2 := methodS_le (hS.mi _ (List.getElem_mem hk)); omega)
  refine Zm rfl (Zg rfl) (WO_nil (Zx (Zc (Zb (Za rfl (Zd rfl) ?_)))))
  (first | (refine Za rfl (Xa rfl rfl ?_) ?_; omega) | (refine Za rfl (Yp rfl rfl ?_) ?_; omega) | refine Za rfl (Yz rfl rfl) ?_)
  refine Za rfl (Zg rfl) (Ze ?_)
  refine WQ_same (s := 3) (v' := .string ((c.fields.take (k + 1)).foldl fdS (topS c))) rfl (by rw [List.take_succ_eq_append_getElem hk, List.foldl_append]; rfl) ?_
  refine Yn (k + 1) ?_ (hk) 0 rfl (rfl) ⟨rfl, rfl, rfl, trivial⟩
  omega
 ·intro c1
  try (first | replace c1 := dFa c1 | replace c1 := Zi c1)
  refine Yx (Yw (Yo (Yv (Zc (Zf ?_)))))
  refine WC_same (s := 3) (v' := .string (fdsS c)) rfl (by rw [List.take_of_length_le (by omega)]; rfl) ?_
  refine Zb (Za rfl (Zd rfl) (Za rfl (Zh (ff rfl) rfl) (Za rfl (Zj (t1 rfl) rfl (Zl 0 rfl rfl)) (Za rfl (Yg (ts rfl) rfl) (Xi fn98 rfl rfl (fun w _ => low1_any _ w) ?_)))))
  refine Za rfl (Ex_addS rfl rfl ?_) ?_
  ·first | (simp only [ByteArray.size_append, Ya, Yq, Xw, e4]; omega) | (have h1 := fdsS_le hS k; have h2 := hS.fi _ (List.getElem_mem hk); have h3 := oneTypeS_le c.fields[k].ty; simp only [ByteArray.size_append, Yq, Xw]; omega) | (have h1 := fdsS_le hS c.fields.length; rw [List.take_length] at h1; have h1' : (fdsS c).size ≤ 1000 := h1; simp only [Ya]; omega) | (have h1 := bytesTo_le hS k; have h2 := methodS_le (hS.mi _ (List.getElem_mem hk)); omega)
  refine Za rfl (Zg rfl) (Ze (Zc (Zf (Zf (Zb ?_)))))
  refine Za rfl (Zg rfl) (Ze (Zc (Zs (Xh (E' := (fun k : Nat => [(1, .pointer (some ⟨b0, 0, none⟩)), (3, .string ((c.methods.take k).foldl (fun s m => s ++ methodS m) (fdsS c ++ lowS (c.methods.length : Nat) 1))), (5, .int .i64 (k : Nat))]) (0)) ⟨rfl, rfl, rfl, trivial⟩ (Yy (X := Nat) (fun k : Nat => [(1, .pointer (some ⟨b0, 0, none⟩)), (3, .string ((c.methods.take k).foldl (fun s m => s ++ methodS m) (fdsS c ++ lowS (c.methods.length : Nat) 1))), (5, .int .i64 (k : Nat))]) _ _ (fun k : Nat => [(b0, clV c (.slice p1 c.fields.length e1) (.slice p2 c.methods.length e2))]) (fun k : Nat => Asr.none) (fun k : Nat => k ≤ c.methods.length) (fun k : Nat => c.methods.length - k) (0) (Nat.zero_le _) ?_)))))
  intro k hI
  refine Zf (Zf (Zb (Za rfl (Zd rfl) (Za rfl (Zh (ff rfl) rfl) (Za rfl (Zj (t1 rfl) rfl (Zl 0 rfl rfl)) ?_)))))
  refine Za rfl (Yg (ts rfl) rfl) (Za rfl (Xb rfl rfl) (Ze (Zc (Yi rfl ?_ ?_))))
  ·intro c2
   try (first | replace c2 := dTr c2 | replace c2 := Zk c2)
   have hk : k < c.methods.length := by omega
   obtain ⟨b, o, r, hp, hb, ⟨pv, cv, hv, fv, hr, hmp⟩, hc⟩ := hr2.out k c.methods[k] (List.getElem?_eq_getElem hk)
   subst hp; subst hr
   refine Zw (Zc (Zf (Zs (Zb (Za rfl (Zd rfl) ?_)))))
   refine Za rfl (Zh (ff rfl) rfl) (Za rfl (Zj (t1 rfl) rfl (Zl 0 rfl rfl)) (Za rfl (Zd rfl) (Za rfl (Xk (ts rfl) rfl rfl ?_) ?_)))
   ·omega
   refine Za rfl (Ym (tn rfl) rfl (Yt hc hb) rfl) (Xi fn101 rfl rfl (fun w hs => method_any _ _ _ _ _ w (hmp.mono (lowOf hs)) (hS.mi _ (List.getElem_mem hk))) ?_)
   refine Za rfl (Ex_addS rfl rfl ?_) ?_
   ·first | (simp only [ByteArray.size_append, Ya, Yq, Xw, e4]; omega) | (have h1 := fdsS_le hS k; have h2 := hS.fi _ (List.getElem_mem hk); have h3 := oneTypeS_le c.fields[k].ty; simp only [ByteArray.size_append, Yq, Xw]; omega) | (have h1 := fdsS_le hS c.fields.length; rw [List.take_length] at h1; have h1' : (fdsS c).size ≤ 1000 := h1; simp only [Ya]; omega) | (have h1 := bytesTo_le hS k; have h2 := methodS_le (hS.mi _ (List.getElem_mem hk)); omega)
   refine Za rfl (Zg rfl) (Ze (Zx (Zc (Zb (Za rfl (Zd rfl) ?_)))))
   (first | (refine Za rfl (Xa rfl rfl ?_) ?_; omega) | (refine Za rfl (Yp rfl rfl ?_) ?_; omega) | refine Za rfl (Yz rfl rfl) ?_)
   refine Za rfl (Zg rfl) (Ze ?_)
   refine WQ_same (s := 3) (v' := .string ((c.methods.take (k + 1)).foldl (fun s m => s ++ methodS m) (fdsS c ++ lowS (c.methods.length : Nat) 1))) rfl (by rw [List.take_succ_eq_append_getElem hk, List.foldl_append]; rfl) ?_
   refine Yn (k + 1) ?_ (hk) 0 rfl (rfl) ⟨rfl, rfl, rfl, trivial⟩
   omega
  ·intro c2
   try (first | replace c2 := dFa c2 | replace c2 := Zi c2)
   refine Yx (Yw (Yo (Yv (Zc (Zf ?_)))))
   refine Zb (Za rfl (Zd rfl) (Za rfl (Zg rfl) (Ze (Zc (Zv ?_)))))
   refine Yh rfl rfl ?_
   rw [List.take_of_length_le (by omega)]; rfl
theorem refEncode_any (c : Cl) (fv mv : Value) (w : World) (hc0 : ClAt w c fv mv) :
  Pure Tryz.prog 17 #[.agg (clV c fv mv).toArray] w (.tuple #[.string (if isClassB c then bytesS c else ⟨#[]⟩), .int .i64 (if isClassB c then 0 else 1)]) := by
 refine opens (args := [.agg (clV c fv mv).toArray]) Tryz.func17 rfl Tryz.ntmps17 ?_
 refine Zf (Zb (WL_box rfl rfl ?_))
 intro b0 hb0
 refine Za rfl (Zg rfl) (Za rfl (Zg rfl) (Ze (Zc (Zf (Zb ?_)))))
 refine Za rfl (Yb (tn rfl) rfl 0 rfl rfl) (Xi fn54 rfl rfl (fun w hs => isClass_any c _ _ w (hc0.mono (lowOf hs))) ?_)
 refine Za rfl (Zg rfl) (Ze (Zc (Zf (Zf (Zb ?_)))))
 refine Za rfl (Zd rfl) (Za rfl (Ex_not rfl) (Ze (Zc (Yi rfl ?_ ?_))))
 ·intro c1
  try (first | replace c1 := dTr c1 | replace c1 := Zk c1)
  refine Zf (Zb (Za rfl (Zg rfl) (Za rfl (Zg rfl) (Ze (Zc ?_)))))
  refine Zv (Zq (P_end2 rfl rfl rfl ?_))
  simp_all
 ·intro c1
  try (first | replace c1 := dFa c1 | replace c1 := Zi c1)
  refine Zw (Zc (Zf (Zb (Za rfl (Yb (tn rfl) rfl 0 rfl rfl) (Xi fn55 rfl rfl (fun w hs => bytes_any c _ _ w (hc0.mono (lowOf hs)) (isClassB_small (by simpa using c1))) ?_)))))
  refine Za rfl (Zg rfl) (Za rfl (Zg rfl) (Ze (Zc (Zv (P_end2 rfl rfl rfl ?_)))))
  simp_all
end Go.Proofs.YtpofmnfkdkmieaaGreat
