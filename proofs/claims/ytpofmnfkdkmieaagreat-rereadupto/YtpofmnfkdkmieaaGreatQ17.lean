/- What is proved here: package shape's MustBeClass goes through just where the plain function isClassB says yes. -/
import Derived.Test.YtpofmnfkdkmieaaGreatQ16
import Derived.Test.YtpofmnfkdkmieaaGreatQ11
import Derived.Test.YtpofmnfkdkmieaaGreatQ04
import Derived.Tactics2
import Derived.Test.YtpofmnfkdkmieaaGreatQ09
import Derived.Test.YtpofmnfkdkmieaaGreatQ10
set_option linter.unusedVariables false
set_option linter.unusedSimpArgs false
namespace Go.Proofs.YtpofmnfkdkmieaaGreat
open Go.RowKit At E

def mesB (l : List Me) : Bool := decide ((l.length : Int) ≤ 20) && (List.range l.length).all (meAt l)
theorem mustBeMethods_any (v : Value) (l : List Me) (w : World) (hv : MesAt w v l) : PureP Tryz.prog 141 #[v] w (mesB l) := by
  obtain ⟨p, e, rfl, hl, hr1⟩ := hv.is
  replace hr1 : Hid _ := hr1
  clear hv
  refine opens (args := [.slice p l.length e]) Tryz.func141 rfl Tryz.ntmps141 ?_
  refine WC_seq ?_
  refine WC_region ?_
  refine WL_op rfl (Ex_move rfl) ?_
  refine WL_op rfl (Ex_lenL (ts rfl) rfl) ?_
  refine WL_op rfl (Ex_leq rfl rfl) ?_
  refine WL_callP fn111 rfl rfl (fun w _ => must_any _ w) ?_ ?_
  rotate_left
  · intro o1
    try (first | replace o1 := of_decide_eq_false o1 | replace o1 := of_nd_false o1)
    have hF : mesB l = false := by first | (simp_all [mesB]; done) | (simp_all [mesB]; omega)
    refine WQ_pan ?_
    refine PP_dies ?_
    exact hF
  intro o1
  try (first | replace o1 := of_decide_eq_true o1 | replace o1 := of_nd_true o1)
  have hZ : decide ((l.length : Int) ≤ 20) = true := by simp_all
  refine WL_nil ?_
  refine WQ_next ?_
  refine WC_seq ?_
  refine WC_region ?_
  refine WL_op rfl (Ex_move rfl) ?_
  refine WL_op rfl (Ex_lenL (ts rfl) rfl) ?_
  refine WL_op rfl (Ex_move rfl) ?_
  refine WL_nil ?_
  refine WQ_next ?_
  refine WC_block ?_
  refine WC_sub (E' := (fun i : Nat => [(0, .slice p l.length e), (10, .slice p l.length e), (11, .int .i64 (l.length : Nat)), (12, .int .i64 (i : Nat))]) (0)) ⟨rfl, rfl, rfl, rfl, trivial⟩ (WC_loop (X := Nat) (fun i : Nat => [(0, .slice p l.length e), (10, .slice p l.length e), (11, .int .i64 (l.length : Nat)), (12, .int .i64 (i : Nat))]) _ _ (fun i : Nat => []) (fun i : Nat => Asr.none) (fun i : Nat => i ≤ l.length ∧ (List.range i).all (meAt l) = true) (fun i : Nat => l.length - i) (0) (⟨Nat.zero_le _, rfl⟩) ?_)
  intro i hI
  refine WC_seq ?_
  refine WC_region ?_
  refine WL_op rfl (Ex_lss rfl rfl) ?_
  refine WL_nil ?_
  refine WQ_next ?_
  refine WC_seq ?_
  refine WC_if rfl ?_ ?_  -- cond 1 shape.go:42
  · intro c1
    try (first | replace c1 := of_decide_eq_true c1 | replace c1 := of_nd_true c1)
    have hi : i < l.length := by omega
    obtain ⟨b, o, r, hp, hb, ⟨pv, cv, hv, fv, hr, hmp⟩, hc⟩ := hr1.out i l[i] (List.getElem?_eq_getElem hi)
    obtain ⟨q1, g1, hq1, -, -⟩ := hmp.ps.is
    obtain ⟨q2, g2, hq2, -, -⟩ := hmp.cs.is
    obtain ⟨q3, g3, hq3, -, -⟩ := hmp.hs.is
    obtain ⟨q4, g4, hq4, -, -⟩ := hmp.fs.is
    subst hp; subst hr; subst hq1; subst hq2; subst hq3; subst hq4
    refine WC_skip ?_
    refine WQ_next ?_
    refine WC_seq ?_
    refine WC_block ?_
    refine WC_seq ?_
    refine WC_region ?_
    refine WL_op rfl (Ex_move rfl) ?_
    refine WL_op rfl (Ex_at (ts rfl) rfl rfl ?_) ?_
    · omega
    refine WL_op rfl (Ex_loadN (tn rfl) rfl (row_old hc hb) rfl) ?_
    refine WL_alloc rfl (tz rfl) ?_
    intro b0 hb0
    refine WL_op rfl (Ex_assign rfl) ?_
    refine WL_storeN (tn rfl) rfl rfl 0 rfl rfl rfl rfl ?_
    refine WL_nil ?_
    refine WQ_next ?_
    refine WC_seq ?_
    refine WC_region ?_
    refine WL_op rfl (Ex_loadM (tn rfl) rfl 0 rfl rfl) ?_
    refine WL_callP fn247 rfl rfl (fun w hs => mustBeMethod_any _ _ _ _ _ w (hmp.mono (lowOf hs))) ?_ ?_
    rotate_left
    · intro o2
      try (first | replace o2 := of_decide_eq_false o2 | replace o2 := of_nd_false o2)
      have hF : mesB l = false := by unfold mesB; rw [range_no hi (by rw [meAt_some hi]; simp_all)]; simp
      refine WQ_pan ?_
      refine WQ_pan ?_
      refine WQ_pan ?_
      refine WQ_pan ?_
      refine WQ_pan ?_
      refine PP_dies ?_
      exact hF
    intro o2
    try (first | replace o2 := of_decide_eq_true o2 | replace o2 := of_nd_true o2)
    have hmb : isMethodB l[i] = true := by assumption
    refine WL_nil ?_
    refine WQ_next ?_
    refine WC_seq ?_
    refine WC_region ?_
    refine WL_op rfl (Ex_move rfl) ?_
    refine WL_op rfl (Ex_move rfl) ?_
    refine WL_op rfl (Ex_sliceL (ts rfl) rfl rfl ?_) ?_
    · omega
    refine WL_op rfl (Ex_lenL (ts rfl) rfl) ?_
    refine WL_op rfl (Ex_move rfl) ?_
    refine WL_nil ?_
    refine WQ_next ?_
    refine WC_block ?_
    have hO := hI
    refine WC_sub (E' := (fun k : Nat => [(0, .slice (some ⟨b, o, none⟩) l.length e), (3, .pointer (some ⟨b0, 0, none⟩)), (10, .slice (some ⟨b, o, none⟩) l.length e), (11, .int .i64 (l.length : Nat)), (12, .int .i64 (i : Nat)), (21, .slice (some ⟨b, o, none⟩) i e), (22, .int .i64 (i : Nat)), (23, .int .i64 (k : Nat))]) (0)) ⟨rfl, rfl, rfl, rfl, rfl, rfl, rfl, rfl, trivial⟩ (WC_loop (X := Nat) (fun k : Nat => [(0, .slice (some ⟨b, o, none⟩) l.length e), (3, .pointer (some ⟨b0, 0, none⟩)), (10, .slice (some ⟨b, o, none⟩) l.length e), (11, .int .i64 (l.length : Nat)), (12, .int .i64 (i : Nat)), (21, .slice (some ⟨b, o, none⟩) i e), (22, .int .i64 (i : Nat)), (23, .int .i64 (k : Nat))]) _ _ (fun k : Nat => [(b0, meV l[i] (.slice q1 l[i].params.length g1) (.slice q2 l[i].code.length g2) (.slice q3 l[i].handlers.length g3) (.slice q4 l[i].frames.length g4))]) (fun k : Nat => Asr.none) (fun k : Nat => k ≤ i ∧ (List.range k).all (meNe l i) = true) (fun k : Nat => i - k) (0) (⟨Nat.zero_le _, rfl⟩) ?_)
    intro k hI
    refine WC_seq ?_
    refine WC_region ?_
    refine WL_op rfl (Ex_lss rfl rfl) ?_
    refine WL_nil ?_
    refine WQ_next ?_
    refine WC_seq ?_
    refine WC_if rfl ?_ ?_  -- cond 2 shape.go:44
    · intro c2
      try (first | replace c2 := of_decide_eq_true c2 | replace c2 := of_nd_true c2)
      have hki : k < i := by omega
      have hk : k < l.length := by omega
      obtain ⟨b', o', r', hp', hb', ⟨pv', cv', hv', fv', hr', hmp'⟩, hc'⟩ := hr1.out k l[k] (List.getElem?_eq_getElem hk)
      obtain ⟨u1, d1, hu1, -, -⟩ := hmp'.ps.is
      obtain ⟨u2, d2, hu2, -, -⟩ := hmp'.cs.is
      obtain ⟨u3, d3, hu3, -, -⟩ := hmp'.hs.is
      obtain ⟨u4, d4, hu4, -, -⟩ := hmp'.fs.is
      cases hp'; subst hr'; subst hu1; subst hu2; subst hu3; subst hu4
      refine WC_skip ?_
      refine WQ_next ?_
      refine WC_seq ?_
      refine WC_block ?_
      refine WC_seq ?_
      refine WC_region ?_
      refine WL_op rfl (Ex_at (ts rfl) rfl rfl ?_) ?_
      · omega
      refine WL_op rfl (Ex_loadN (tn rfl) rfl (row_old hc' hb') rfl) ?_
      refine WL_alloc rfl (tz rfl) ?_
      intro b1 hb1
      refine WL_storeN (tn rfl) rfl rfl 0 rfl rfl rfl rfl ?_
      refine WL_nil ?_
      refine WQ_next ?_
      refine WC_region ?_
      refine WL_op rfl (Ex_loadM (tn rfl) rfl 0 rfl rfl) ?_
      refine WL_op rfl (Ex_loadM (tn rfl) rfl 1 rfl rfl) ?_
      refine WL_call fn248 rfl rfl (fun w hs => haveOne_any _ _ _ _ _ _ _ _ _ _ w (TysAt.mono hmp'.ps (lowOf hs)) (TysAt.mono hmp.ps (lowOf hs))) ?_
      refine WL_op rfl (Ex_not rfl) ?_
      refine WL_callP fn111 rfl rfl (fun w _ => must_any _ w) ?_ ?_
      rotate_left
      · intro o3
        try (first | replace o3 := of_decide_eq_false o3 | replace o3 := of_nd_false o3)
        have hF : mesB l = false := by unfold mesB; rw [range_no hi (by rw [meAt_some hi, show meNew l i = false from range_no hki (by rw [meNe_some hi hk]; assumption)]; simp)]; simp
        refine WQ_pan ?_
        refine WQ_pan ?_
        refine WQ_pan ?_
        refine WQ_pan ?_
        refine WQ_pan ?_
        refine WQ_pan ?_
        refine WQ_pan ?_
        refine WQ_pan ?_
        refine PP_dies ?_
        exact hF
      intro o3
      try (first | replace o3 := of_decide_eq_true o3 | replace o3 := of_nd_true o3)
      have hY : (!sameSig l[k] l[i]) = true := by assumption
      refine WL_nil ?_
      refine WQ_bnext ?_
      refine WQ_next ?_
      refine WC_region ?_
      (first | (refine WL_op rfl (Ex_inc rfl rfl ?_) ?_; omega) | (refine WL_op rfl (Ex_addB rfl rfl ?_) ?_; omega) | refine WL_op rfl (Ex_add rfl rfl) ?_)
      refine WL_op rfl (Ex_move rfl) ?_
      refine WL_nil ?_
      refine WQ_again (k + 1) ?_ (⟨hki, range_snoc hI.2 (by rw [meNe_some hi hk]; exact hY)⟩) 1 rfl (rfl) ⟨rfl, rfl, rfl, rfl, rfl, rfl, rfl, rfl, trivial⟩
      omega
    · intro c2
      try (first | replace c2 := of_decide_eq_false c2 | replace c2 := of_nd_false c2)
      have hN : meNew l i = true := range_end hI.1 (by omega) hI.2
      have hA : meAt l i = true := by rw [meAt_some hi, hN, hmb]; rfl
      refine WC_exit ?_
      refine WQ_exit ?_
      refine WQ_lexit ?_
      refine WQ_here ?_
      refine WQ_bnext ?_
      refine WQ_next ?_
      refine WC_region ?_
      (first | (refine WL_op rfl (Ex_inc rfl rfl ?_) ?_; omega) | (refine WL_op rfl (Ex_addB rfl rfl ?_) ?_; omega) | refine WL_op rfl (Ex_add rfl rfl) ?_)
      refine WL_op rfl (Ex_move rfl) ?_
      refine WL_nil ?_
      refine WQ_again (i + 1) ?_ (⟨hi, range_snoc hO.2 hA⟩) 1 rfl (rfl) ⟨rfl, rfl, rfl, rfl, trivial⟩
      omega
  · intro c1
    try (first | replace c1 := of_decide_eq_false c1 | replace c1 := of_nd_false c1)
    have hFd := range_end hI.1 (by omega) hI.2
    refine WC_exit ?_
    refine WQ_exit ?_
    refine WQ_lexit ?_
    refine WQ_here ?_
    refine PP_end rfl ?_
    unfold mesB; rw [hZ, hFd]; rfl
theorem isClassB_parts (c : Cl) : isClassB c = (isNameB c.name && isNameB c.super && fdsB c.fields && mesB c.methods) := by
  unfold isClassB fdsB mesB
  generalize isNameB c.name = b1
  generalize isNameB c.super = b2
  generalize decide ((c.fields.length : Int) ≤ 20) = b3
  generalize decide ((c.methods.length : Int) ≤ 20) = b4
  generalize (List.range c.fields.length).all (fdAt c.fields) = b5
  generalize (List.range c.methods.length).all (meAt c.methods) = b6
  cases b1 <;> cases b2 <;> cases b3 <;> cases b4 <;> cases b5 <;> cases b6 <;> rfl
theorem mustBeClass_any (c : Cl) (fv mv : Value) (w : World) (hc0 : ClAt w c fv mv) : PureP Tryz.prog 103 #[.agg (clV c fv mv).toArray] w (isClassB c) := by
  rw [isClassB_parts]
  have hok := hc0.ok
  replace hc0 : Hid _ := hc0
  refine opens (args := [.agg (clV c fv mv).toArray]) Tryz.func103 rfl Tryz.ntmps103 ?_
  refine WC_seq ?_
  refine WC_region ?_
  refine WL_box rfl rfl ?_
  intro b0 hb0
  refine WL_nil ?_
  refine WQ_next ?_
  refine WC_seq ?_
  refine WC_region ?_
  refine WL_op rfl (Ex_field (ff rfl) rfl) ?_
  refine WL_op rfl (Ex_load (t1 rfl) rfl (cell_mine 0 rfl rfl)) ?_
  refine WL_callP fn139 rfl rfl (fun w _ => mustBeName_any _ w hok.1) ?_ ?_
  rotate_left
  · intro o1
    try (first | replace o1 := of_decide_eq_false o1 | replace o1 := of_nd_false o1)
    refine WQ_pan ?_
    refine PP_dies ?_
    simp_all
  intro o1
  try (first | replace o1 := of_decide_eq_true o1 | replace o1 := of_nd_true o1)
  refine WL_nil ?_
  refine WQ_next ?_
  refine WC_seq ?_
  refine WC_region ?_
  refine WL_op rfl (Ex_field (ff rfl) rfl) ?_
  refine WL_op rfl (Ex_load (t1 rfl) rfl (cell_mine 0 rfl rfl)) ?_
  refine WL_callP fn139 rfl rfl (fun w _ => mustBeName_any _ w hok.2) ?_ ?_
  rotate_left
  · intro o2
    try (first | replace o2 := of_decide_eq_false o2 | replace o2 := of_nd_false o2)
    refine WQ_pan ?_
    refine PP_dies ?_
    simp_all
  intro o2
  try (first | replace o2 := of_decide_eq_true o2 | replace o2 := of_nd_true o2)
  refine WL_nil ?_
  refine WQ_next ?_
  refine WC_seq ?_
  refine WC_region ?_
  refine WL_op rfl (Ex_field (ff rfl) rfl) ?_
  refine WL_op rfl (Ex_load (t1 rfl) rfl (cell_mine 0 rfl rfl)) ?_
  refine WL_callP fn140 rfl rfl (fun w hs => mustBeFields_any _ c.fields w (FdsAt.mono hc0.out.fs (lowOf hs))) ?_ ?_
  rotate_left
  · intro o3
    try (first | replace o3 := of_decide_eq_false o3 | replace o3 := of_nd_false o3)
    refine WQ_pan ?_
    refine PP_dies ?_
    simp_all
  intro o3
  try (first | replace o3 := of_decide_eq_true o3 | replace o3 := of_nd_true o3)
  refine WL_nil ?_
  refine WQ_next ?_
  refine WC_region ?_
  refine WL_op rfl (Ex_field (ff rfl) rfl) ?_
  refine WL_op rfl (Ex_load (t1 rfl) rfl (cell_mine 0 rfl rfl)) ?_
  refine WL_callP fn141 rfl rfl (fun w hs => mustBeMethods_any _ c.methods w (MesAt.mono hc0.out.ms (lowOf hs))) ?_ ?_
  rotate_left
  · intro o4
    try (first | replace o4 := of_decide_eq_false o4 | replace o4 := of_nd_false o4)
    refine PP_dies ?_
    simp_all
  intro o4
  try (first | replace o4 := of_decide_eq_true o4 | replace o4 := of_nd_true o4)
  refine WL_nil ?_
  refine PP_end rfl ?_
  simp_all
end Go.Proofs.YtpofmnfkdkmieaaGreat
namespace Go.Proofs.YtpofmnfkdkmieaaGreat
open Go.RowKit At E

def fdL (f : Fld) : List UInt8 := dl (nameS f.name) ++ dl (flagS f.stat) ++ dl (oneTypeS f.ty)
def meL (m : Me) : List UInt8 := dl (methodS m)
def clas4 : ByteArray := ⟨#[67, 76, 65, 83]⟩
def topL (c : Cl) : List UInt8 := dl clas4 ++ dl (nameS c.name) ++ dl (nameS c.super) ++ dl (lowS (c.fields.length : Nat) 1)
theorem dl_bytesS (c : Cl) : dl (bytesS c) = topL c ++ c.fields.flatMap fdL ++ dl (lowS (c.methods.length : Nat) 1) ++ c.methods.flatMap meL := by
  unfold bytesS fdsS
  rw [dl_fold _ meL (fun s m => dl_append s _), dl_append, dl_fold fdS fdL (fun s f => by unfold fdS fdL; simp only [dl_append, List.append_assoc])]
  unfold topS topL clas4
  simp only [dl_append, List.append_assoc]
theorem of_dl {s : ByteArray} {l : List UInt8} (h : l = dl s) : (⟨l.toArray⟩ : ByteArray) = s := by subst h; cases s; simp [dl]
theorem none_in {α : Type} {p : α → Prop} : ∀ x ∈ ([] : List α), p x := fun _ h => by cases h

set_option maxHeartbeats 1000000 in
theorem write_any (c : Cl) (fv mv : Value) (w : World) (hc0 : ClAt w c fv mv) : PureQ Tryz.prog 71 #[.agg (clV c fv mv).toArray] w (if isClassB c = true then some (.string (bytesS c)) else none) := by
  obtain ⟨p1, e1, rfl, hk1, hr1⟩ := hc0.fs.is
  obtain ⟨p2, e2, rfl, hk2, hr2⟩ := hc0.ms.is
  replace hr1 : Hid _ := hr1
  replace hr2 : Hid _ := hr2
  replace hc0 : Hid _ := hc0
  have hu : Below w.heap.size w w := Below.refl _ w
  refine opens (args := [.agg (clV c (.slice p1 c.fields.length e1) (.slice p2 c.methods.length e2)).toArray]) Tryz.func71 rfl Tryz.ntmps71 ?_
  refine WC_seq ?_
  refine WC_region ?_
  refine WL_box rfl rfl ?_
  intro b0 hb0
  refine WL_op rfl (Ex_assign rfl) ?_
  refine WL_nil ?_
  refine WQ_next ?_
  refine WC_seq ?_
  refine WC_region ?_
  refine WL_op rfl (Ex_loadM (tn rfl) rfl 0 rfl rfl) ?_
  refine WL_callP fn103 rfl rfl (fun w hs => mustBeClass_any c _ _ w (hc0.out.mono (lowOf hs))) ?_ ?_
  rotate_left
  · intro o1
    try (first | replace o1 := of_decide_eq_false o1 | replace o1 := of_nd_false o1)
    refine WQ_pan ?_
    refine PQ_dies ?_
    rw [o1]; rfl
  intro o1
  try (first | replace o1 := of_decide_eq_true o1 | replace o1 := of_nd_true o1)
  have hS := isClassB_small o1
  have hl : (dl (bytesS c)).length ≤ 2000000 := by rw [dl_length]; have h9 := bytesTo_le hS c.methods.length; rw [List.take_length] at h9; exact h9
  rw [dl_bytesS] at hl
  have hl' := hl
  unfold topL at hl
  simp only [List.length_append] at hl hl'
  refine WL_nil ?_
  refine WQ_next ?_
  refine WC_seq ?_
  refine WC_region ?_
  refine WL_op rfl (Ex_build (tb rfl) rfl rfl) ?_
  refine WL_box rfl rfl ?_
  intro b1 hb1
  refine WL_op rfl (Ex_assign rfl) ?_
  refine WL_nil ?_
  refine WQ_next ?_
  refine WC_seq ?_
  refine WC_own 5 1 ?_
  refine WC_res (R' := wrA (.slice none 0 0) []) rfl ?_
  refine WC_region ?_
  refine WL_op rfl (Ex_move rfl) ?_
  refine WL_callW fn120 rfl rfl 0 rfl hu none_in (wrText_any w _ clas4) (by (try simp only [List.length_append, List.length_nil]); omega) ?_
  intro v1
  refine WL_nil ?_
  refine WQ_next ?_
  refine WC_seq ?_
  refine WC_region ?_
  refine WL_op rfl (Ex_move rfl) ?_
  refine WL_op rfl (Ex_field (ff rfl) rfl) ?_
  refine WL_op rfl (Ex_load (t1 rfl) rfl (cell_mine 1 rfl rfl)) ?_
  refine WL_callW fn121 rfl rfl 0 rfl hu none_in (wrName_any w _ c.name) (by (try simp only [List.length_append, List.length_nil]); omega) ?_
  intro v2
  refine WL_nil ?_
  refine WQ_next ?_
  refine WC_seq ?_
  refine WC_region ?_
  refine WL_op rfl (Ex_move rfl) ?_
  refine WL_op rfl (Ex_field (ff rfl) rfl) ?_
  refine WL_op rfl (Ex_load (t1 rfl) rfl (cell_mine 1 rfl rfl)) ?_
  refine WL_callW fn121 rfl rfl 0 rfl hu none_in (wrName_any w _ c.super) (by (try simp only [List.length_append, List.length_nil]); omega) ?_
  intro v3
  refine WL_nil ?_
  refine WQ_next ?_
  refine WC_seq ?_
  refine WC_region ?_
  refine WL_op rfl (Ex_move rfl) ?_
  refine WL_op rfl (Ex_field (ff rfl) rfl) ?_
  refine WL_op rfl (Ex_load (t1 rfl) rfl (cell_mine 1 rfl rfl)) ?_
  refine WL_op rfl (Ex_lenL (ts rfl) rfl) ?_
  refine WL_callW fn122 rfl rfl 0 rfl hu none_in (wrByte_any w _ (c.fields.length : Nat)) (by (try simp only [List.length_append, List.length_nil]); omega) ?_
  intro v4
  refine WL_nil ?_
  refine WQ_next ?_
  refine WC_seq ?_
  refine WC_seq ?_
  refine WC_region ?_
  refine WL_op rfl (Ex_field (ff rfl) rfl) ?_
  refine WL_op rfl (Ex_load (t1 rfl) rfl (cell_mine 1 rfl rfl)) ?_
  refine WL_op rfl (Ex_lenL (ts rfl) rfl) ?_
  refine WL_op rfl (Ex_move rfl) ?_
  refine WL_nil ?_
  refine WQ_next ?_
  refine WC_block ?_
  refine WC_res (congrArg (wrA _) (show _ = topL c ++ (c.fields.take 0).flatMap fdL from by unfold topL; simp only [List.nil_append, List.append_assoc, List.take_zero, List.flatMap_nil, List.append_nil])) ?_
  refine WC_sub (E' := (fun x : Nat × Value => [(1, .pointer (some ⟨b0, 0, none⟩)), (3, .pointer (some ⟨b1, 0, none⟩)), (28, .slice p1 c.fields.length e1), (29, .int .i64 (c.fields.length : Nat)), (30, .int .i64 (x.1 : Nat))]) ((0, v4))) ⟨rfl, rfl, rfl, rfl, rfl, trivial⟩ (WC_loop (X := Nat × Value) (fun x : Nat × Value => [(1, .pointer (some ⟨b0, 0, none⟩)), (3, .pointer (some ⟨b1, 0, none⟩)), (28, .slice p1 c.fields.length e1), (29, .int .i64 (c.fields.length : Nat)), (30, .int .i64 (x.1 : Nat))]) _ _ (fun x : Nat × Value => [(b1, [x.2]), (b0, clV c (.slice p1 c.fields.length e1) (.slice p2 c.methods.length e2))]) (fun x : Nat × Value => wrA x.2 (topL c ++ (c.fields.take x.1).flatMap fdL)) (fun x : Nat × Value => x.1 ≤ c.fields.length) (fun x : Nat × Value => c.fields.length - x.1) ((0, v4)) (Nat.zero_le _) ?_)
  intro x hI
  refine WC_seq ?_
  refine WC_region ?_
  refine WL_op rfl (Ex_lss rfl rfl) ?_
  refine WL_nil ?_
  refine WQ_next ?_
  refine WC_seq ?_
  refine WC_if rfl ?_ ?_  -- cond 1 write.go:21
  · intro c1
    try (first | replace c1 := of_decide_eq_true c1 | replace c1 := of_nd_true c1)
    have hx : x.1 < c.fields.length := by omega
    obtain ⟨b', o', r, hp, hb, ⟨hr, -⟩, hc⟩ := hr1.out x.1 c.fields[x.1] (List.getElem?_eq_getElem hx)
    subst hp; subst hr
    have hr := flat_room fdL c.fields x.1 hx
    unfold fdL at hr
    simp only [List.length_append] at hr
    refine WC_skip ?_
    refine WQ_next ?_
    refine WC_seq ?_
    refine WC_block ?_
    refine WC_seq ?_
    refine WC_region ?_
    refine WL_op rfl (Ex_at (ts rfl) rfl rfl ?_) ?_
    · omega
    refine WL_op rfl (Ex_loadN (tn rfl) rfl (row_oldU hu none_in hb hc) rfl) ?_
    refine WL_alloc rfl (tz rfl) ?_
    intro b2 hb2
    refine WL_storeN (tn rfl) rfl rfl 0 rfl rfl rfl rfl ?_
    refine WL_nil ?_
    refine WQ_next ?_
    refine WC_seq ?_
    refine WC_region ?_
    refine WL_op rfl (Ex_move rfl) ?_
    refine WL_op rfl (Ex_field (ff rfl) rfl) ?_
    refine WL_op rfl (Ex_load (t1 rfl) rfl (cell_mine 0 rfl rfl)) ?_
    refine WL_callW fn121 rfl rfl 1 rfl hu none_in (wrName_any w _ c.fields[x.1].name) (by unfold fdL at *; simp only [List.length_append]; omega) ?_
    intro v5
    refine WL_nil ?_
    refine WQ_next ?_
    refine WC_seq ?_
    refine WC_region ?_
    refine WL_op rfl (Ex_move rfl) ?_
    refine WL_op rfl (Ex_field (ff rfl) rfl) ?_
    refine WL_op rfl (Ex_load (t1 rfl) rfl (cell_mine 0 rfl rfl)) ?_
    refine WL_callW fn123 rfl rfl 1 rfl hu none_in (wrFlag_any w _ c.fields[x.1].stat) (by unfold fdL at *; simp only [List.length_append]; omega) ?_
    intro v6
    refine WL_nil ?_
    refine WQ_next ?_
    refine WC_region ?_
    refine WL_op rfl (Ex_move rfl) ?_
    refine WL_op rfl (Ex_field (ff rfl) rfl) ?_
    refine WL_op rfl (Ex_loadM (tn rfl) rfl 0 rfl rfl) ?_
    refine WL_callW fn124 rfl rfl 1 rfl hu none_in (wrTyp_any w _ c.fields[x.1].ty) (by unfold fdL at *; simp only [List.length_append]; omega) ?_
    intro v7
    refine WL_nil ?_
    refine WQ_bnext ?_
    refine WQ_next ?_
    refine WC_region ?_
    (first | (refine WL_op rfl (Ex_inc rfl rfl ?_) ?_; omega) | (refine WL_op rfl (Ex_addB rfl rfl ?_) ?_; omega) | refine WL_op rfl (Ex_add rfl rfl) ?_)
    refine WL_op rfl (Ex_move rfl) ?_
    refine WL_nil ?_
    refine WQ_again ((x.1 + 1, v7)) ?_ (hx) 1 rfl (congrArg (wrA v7) (by rw [flat_next fdL c.fields x.1 hx]; unfold fdL; simp only [List.append_assoc])) ⟨rfl, rfl, rfl, rfl, rfl, trivial⟩
    omega
  · intro c1
    try (first | replace c1 := of_decide_eq_false c1 | replace c1 := of_nd_false c1)
    refine WC_exit ?_
    refine WQ_exit ?_
    refine WQ_lexit ?_
    refine WQ_here ?_
    refine WQ_next ?_
    refine WC_seq ?_
    refine WC_res (congrArg (wrA _) (show _ = topL c ++ c.fields.flatMap fdL from by rw [flat_all fdL c.fields x.1 (by omega)])) ?_
    refine WC_region ?_
    refine WL_op rfl (Ex_move rfl) ?_
    refine WL_op rfl (Ex_field (ff rfl) rfl) ?_
    refine WL_op rfl (Ex_load (t1 rfl) rfl (cell_mine 1 rfl rfl)) ?_
    refine WL_op rfl (Ex_lenL (ts rfl) rfl) ?_
    refine WL_callW fn122 rfl rfl 0 rfl hu none_in (wrByte_any w _ (c.methods.length : Nat)) (by (try simp only [List.length_append, List.length_nil]); omega) ?_
    intro v8
    refine WL_nil ?_
    refine WQ_next ?_
    refine WC_seq ?_
    refine WC_seq ?_
    refine WC_region ?_
    refine WL_op rfl (Ex_field (ff rfl) rfl) ?_
    refine WL_op rfl (Ex_load (t1 rfl) rfl (cell_mine 1 rfl rfl)) ?_
    refine WL_op rfl (Ex_lenL (ts rfl) rfl) ?_
    refine WL_op rfl (Ex_move rfl) ?_
    refine WL_nil ?_
    refine WQ_next ?_
    refine WC_block ?_
    refine WC_res (congrArg (wrA _) (show _ = topL c ++ c.fields.flatMap fdL ++ dl (lowS (c.methods.length : Nat) 1) ++ (c.methods.take 0).flatMap meL from by simp only [List.take_zero, List.flatMap_nil, List.append_nil])) ?_
    refine WC_sub (E' := (fun y : Nat × Value => [(1, .pointer (some ⟨b0, 0, none⟩)), (3, .pointer (some ⟨b1, 0, none⟩)), (53, .slice p2 c.methods.length e2), (54, .int .i64 (c.methods.length : Nat)), (55, .int .i64 (y.1 : Nat))]) ((0, v8))) ⟨rfl, rfl, rfl, rfl, rfl, trivial⟩ (WC_loop (X := Nat × Value) (fun y : Nat × Value => [(1, .pointer (some ⟨b0, 0, none⟩)), (3, .pointer (some ⟨b1, 0, none⟩)), (53, .slice p2 c.methods.length e2), (54, .int .i64 (c.methods.length : Nat)), (55, .int .i64 (y.1 : Nat))]) _ _ (fun y : Nat × Value => [(b1, [y.2]), (b0, clV c (.slice p1 c.fields.length e1) (.slice p2 c.methods.length e2))]) (fun y : Nat × Value => wrA y.2 (topL c ++ c.fields.flatMap fdL ++ dl (lowS (c.methods.length : Nat) 1) ++ (c.methods.take y.1).flatMap meL)) (fun y : Nat × Value => y.1 ≤ c.methods.length) (fun y : Nat × Value => c.methods.length - y.1) ((0, v8)) (Nat.zero_le _) ?_)
    intro y hI
    refine WC_seq ?_
    refine WC_region ?_
    refine WL_op rfl (Ex_lss rfl rfl) ?_
    refine WL_nil ?_
    refine WQ_next ?_
    refine WC_seq ?_
    refine WC_if rfl ?_ ?_  -- cond 2 write.go:27
    · intro c2
      try (first | replace c2 := of_decide_eq_true c2 | replace c2 := of_nd_true c2)
      have hy : y.1 < c.methods.length := by omega
      obtain ⟨b', o', r, hp, hb, ⟨pv, cv, hv, gv, hr, hmp⟩, hc⟩ := hr2.out y.1 c.methods[y.1] (List.getElem?_eq_getElem hy)
      obtain ⟨q1, g1, hq1, -, -⟩ := hmp.ps.is
      obtain ⟨q2, g2, hq2, -, -⟩ := hmp.cs.is
      obtain ⟨q3, g3, hq3, -, -⟩ := hmp.hs.is
      obtain ⟨q4, g4, hq4, -, -⟩ := hmp.fs.is
      subst hp; subst hr; subst hq1; subst hq2; subst hq3; subst hq4
      refine WC_skip ?_
      refine WQ_next ?_
      refine WC_seq ?_
      refine WC_block ?_
      refine WC_seq ?_
      refine WC_region ?_
      refine WL_op rfl (Ex_at (ts rfl) rfl rfl ?_) ?_
      · omega
      refine WL_op rfl (Ex_loadN (tn rfl) rfl (row_oldU hu none_in hb hc) rfl) ?_
      refine WL_alloc rfl (tz rfl) ?_
      intro b2 hb2
      refine WL_storeN (tn rfl) rfl rfl 0 rfl rfl rfl rfl ?_
      refine WL_nil ?_
      refine WQ_next ?_
      refine WC_region ?_
      refine WL_op rfl (Ex_move rfl) ?_
      refine WL_op rfl (Ex_loadM (tn rfl) rfl 0 rfl rfl) ?_
      refine WL_callW fn125 rfl rfl 1 rfl hu none_in (wrMethod_any w _ c.methods[y.1] _ _ _ _ hmp) (by have hr := flat_room meL c.methods y.1 hy; unfold meL at *; simp only [List.length_append]; omega) ?_
      intro v9
      refine WL_nil ?_
      refine WQ_bnext ?_
      refine WQ_next ?_
      refine WC_region ?_
      (first | (refine WL_op rfl (Ex_inc rfl rfl ?_) ?_; omega) | (refine WL_op rfl (Ex_addB rfl rfl ?_) ?_; omega) | refine WL_op rfl (Ex_add rfl rfl) ?_)
      refine WL_op rfl (Ex_move rfl) ?_
      refine WL_nil ?_
      refine WQ_again ((y.1 + 1, v9)) ?_ (hy) 1 rfl (congrArg (wrA v9) (by rw [flat_next meL c.methods y.1 hy, ← List.append_assoc]; rfl)) ⟨rfl, rfl, rfl, rfl, rfl, trivial⟩
      omega
    · intro c2
      try (first | replace c2 := of_decide_eq_false c2 | replace c2 := of_nd_false c2)
      refine WC_exit ?_
      refine WQ_exit ?_
      refine WQ_lexit ?_
      refine WQ_here ?_
      refine WQ_next ?_
      refine WC_seq ?_
      refine WC_region ?_
      refine WL_op rfl (Ex_move rfl) ?_
      refine WL_op rfl (Ex_nil rfl) ?_
      refine WL_op rfl (Ex_field (ff rfl) rfl) ?_
      refine WL_op rfl (Ex_load (t1 rfl) rfl (cell_mine 0 rfl rfl)) ?_
      refine WL_op rfl (Ex_bytes (ta rfl).sl (tint rfl) (tstr rfl) rfl rfl) ?_
      refine WL_op rfl (Ex_assign rfl) ?_
      refine WL_nil ?_
      refine WQ_next ?_
      refine WC_ret ?_
      refine PQ_end1 rfl rfl ?_
      rw [if_pos o1]; refine congrArg (fun s => some (Value.string s)) (of_dl ?_).symm; rw [dl_bytesS, flat_all meL c.methods y.1 (by omega)]
end Go.Proofs.YtpofmnfkdkmieaaGreat
namespace Go.Proofs.YtpofmnfkdkmieaaGreat
open Go Go.RowKit At E

set_option maxRecDepth 4000
theorem catchstring_panicking (p : Addr) (x : Value) (u : TypeId) (pv : Value) (w : World) (hc : w.cell? p = some x) (hz : w.frozen? p = false) :
    CallsD Tryz.prog 119 #[.pointer (some p)] (.panicking ({ v := .iface u pv, recovered := false } :: [])) w fun e u' w' =>
      e = .returned (.tuple #[]) ∧ u' = .panicking ({ v := .iface u pv, recovered := true } :: []) ∧ w' = w.setCell p (.iface u pv) := by
  refine callsD_of_wpS Tryz.func119 rfl fun c₀ cs hu => ?_
  apply wpS_region
  simp [wpOpsS, go_sem, recoverD, hu, Tryz.ntmps119, hc, hz, bodyPostS, results, Tryz.results119]
theorem catchstring_idle (p : Addr) (x : Value) (w : World) (hc : w.cell? p = some x) (hz : w.frozen? p = false) :
    CallsD Tryz.prog 119 #[.pointer (some p)] .returning w fun e u' w' => e = .returned (.tuple #[]) ∧ u' = .returning ∧ w' = w.setCell p .nilIface := by
  refine callsD_of_wpS Tryz.func119 rfl fun c₀ cs hu => ?_
  apply wpS_region
  simp [wpOpsS, go_sem, recoverD, hu, Tryz.ntmps119, hc, hz, bodyPostS, results, Tryz.results119]
  cases c₀
  simp_all
theorem catchClass_panicking (p : Addr) (x : Value) (u : TypeId) (pv : Value) (w : World) (hc : w.cell? p = some x) (hz : w.frozen? p = false) :
    CallsD Tryz.prog 110 #[.pointer (some p)] (.panicking ({ v := .iface u pv, recovered := false } :: [])) w fun e u' w' =>
      e = .returned (.tuple #[]) ∧ u' = .panicking ({ v := .iface u pv, recovered := true } :: []) ∧ w' = w.setCell p (.iface u pv) := by
  refine callsD_of_wpS Tryz.func110 rfl fun c₀ cs hu => ?_
  apply wpS_region
  simp [wpOpsS, go_sem, recoverD, hu, Tryz.ntmps110, hc, hz, bodyPostS, results, Tryz.results110]
theorem catchClass_idle (p : Addr) (x : Value) (w : World) (hc : w.cell? p = some x) (hz : w.frozen? p = false) :
    CallsD Tryz.prog 110 #[.pointer (some p)] .returning w fun e u' w' => e = .returned (.tuple #[]) ∧ u' = .returning ∧ w' = w.setCell p .nilIface := by
  refine callsD_of_wpS Tryz.func110 rfl fun c₀ cs hu => ?_
  apply wpS_region
  simp [wpOpsS, go_sem, recoverD, hu, Tryz.ntmps110, hc, hz, bodyPostS, results, Tryz.results110]
  cases c₀
  simp_all
def errI : Value := .iface 48 (.int .i64 1)
def caughtOk (zero : Value) (ok : Value → Asr → Prop) (may : Prop) : Value → Asr → Prop := fun v R' => (∃ x, ok x R' ∧ v = .tuple #[x, .nilIface]) ∨ (may ∧ R' = Asr.none ∧ v = .tuple #[zero, errI])
theorem t1any : T1 Tryz.prog 20 := fun w => ⟨by kernel_rfl, by kernel_rfl⟩
theorem tzany : TZ Tryz.prog 20 [.nilIface] := fun w => by kernel_rfl
theorem caughtString_any (g : Nat) (cap : Value) (w : World) (ok : Value → Asr → Prop) (may : Prop) (hgf : IsFn Tryz.prog g) (hg : ∀ w', Below w.heap.size w w' → FnP Tryz.prog g #[cap] w' ok may) :
    FnP Tryz.prog 69 #[.func (.func g) #[] #[cap]] w (caughtOk (.string ⟨#[]⟩) ok may) False := by
  refine calls_of_wp_defers Tryz.func69 rfl ?_
  rw [Tryz.ntmps69]
  have ha0 : AgD [] 7 { tmps := #[.func (.func g) #[] #[cap]] ++ Array.replicate (7 - 1) undef, defers := [] } [(0, .func (.func g) #[] #[cap])] := by
    refine ⟨⟨by simp, rfl, fun i v hv => ?_⟩, rfl⟩
    have h1 := look_mem hv
    simp only [List.mem_singleton, Prod.mk.injEq] at h1
    obtain ⟨rfl, rfl⟩ := h1
    simp
  refine wp_seq (wp_region_lit ?_)
  refine WLD.go (F := []) (H := []) (R := Asr.none) ?_ w (Sat.first w []) _ ha0
  refine WLD_op rfl (Ex_assign rfl) ?_
  refine WLD_alloc rfl tzany fun b hb => ?_
  refine WLD_nil fun w1 hs1 a1 ha1 => ?_
  refine wp_seq (wp_region_lit ?_)
  refine WLD.go ?_ w1 hs1 _ ha1
  refine WLD_op (v := .func (.func 119) #[] #[.pointer (some ⟨b, 0, none⟩)]) rfl ?_ ?_
  · exact ⟨fun w _ a ha _ _ _ _ _ => by simp only [execOp]; simp [ha.eval (x := .tmp 3) rfl, Instr.makeFunc]⟩
  refine WLD_defer rfl ?_
  refine WLD_nil fun w2 hs2 a2 ha2 => ?_
  refine wp_seq (wp_region_lit ?_)
  refine WLD.go ?_ w2 hs2 _ ha2
  refine WLD_op rfl (Ex_move rfl) ?_
  refine WLD_call hgf rfl rfl (fun w' hs => hg w' (lowOf hs)) ?_ ?_
  · intro hm w3 hs3 a3 ha3
    show Leaves _ _ a3.tmps _ a3.defers (.panicking errC) w3
    rw [ha3.no]
    have hc := hs3.cell1 (i := 0) rfl
    refine leaves_cons (f := 119) (args := #[.pointer (some ⟨b, 0, none⟩)]) (by simp) (by simp [invoke, callFunc, Tryz.func119]; rfl) ?_
    refine (catchstring_panicking ⟨b, 0, none⟩ _ _ _ w3 hc.1 hc.2).mono ?_
    rintro e u' w4 ⟨rfl, rfl, rfl⟩
    have hs4 := hs3.set1 (i := 0) (v := errI) rfl
    refine ⟨.tuple #[.string ⟨#[]⟩, errI], results_2 rfl (ha3.ag.eval (x := .tmp 2) rfl) ⟨⟨b, 0, none⟩, ha3.ag.eval (x := .tmp 3) rfl, ?_⟩, .inl ⟨_, Asr.none, rfl, .inr ⟨hm, rfl, rfl⟩, hs4.bare⟩⟩
    have h1 := (t1any (w3.setCell ⟨b, 0, none⟩ errI)).1
    have h2 := (hs4.cell1 (i := 0) rfl).1
    simp only [errI] at h1 h2 ⊢
    simp [loadVar, h1, h2]
  · intro v R' hok
    refine WLD_op rfl (Ex_assign rfl) ?_
    refine WLD_store (vs := [.nilIface]) (fun w => (t1any w).2) rfl rfl rfl rfl rfl 0 rfl rfl ?_
    refine WLD_nil fun w3 hs3 a3 ha3 => ?_
    refine wp_ret ?_
    show Leaves _ _ a3.tmps _ a3.defers .returning w3
    rw [ha3.no]
    have hc := hs3.cell1 (i := 0) (old := .nilIface) rfl
    refine leaves_cons (f := 119) (args := #[.pointer (some ⟨b, 0, none⟩)]) (by simp) (by simp [invoke, callFunc, Tryz.func119]; rfl) ?_
    refine (catchstring_idle ⟨b, 0, none⟩ _ w3 hc.1 hc.2).mono ?_
    rintro e u' w4 ⟨rfl, rfl, rfl⟩
    have hs4 := hs3.set1 (i := 0) (old := .nilIface) (v := .nilIface) rfl
    refine ⟨.tuple #[v, .nilIface], results_2 rfl (ha3.ag.eval (x := .tmp 2) rfl) ⟨⟨b, 0, none⟩, ha3.ag.eval (x := .tmp 3) rfl, ?_⟩, .inl ⟨_, R', rfl, .inl ⟨v, hok, rfl⟩, (hs4.leads (Asr.fst R' Asr.none)).bare⟩⟩
    have h1 := (t1any (w3.setCell ⟨b, 0, none⟩ .nilIface)).1
    have h2 := (hs4.cell1 (i := 0) (old := .nilIface) rfl).1
    simp [loadVar, h1, h2]
def zeroC : List Value := [.string ⟨#[]⟩, .string ⟨#[]⟩, .slice none 0 0, .slice none 0 0]
theorem caughtClass_any (g : Nat) (cap : Value) (w : World) (ok : Value → Asr → Prop) (may : Prop) (hgf : IsFn Tryz.prog g) (hg : ∀ w', Below w.heap.size w w' → FnP Tryz.prog g #[cap] w' ok may)
    (hok4 : ∀ v R', ok v R' → ∃ vs : List Value, v = .agg vs.toArray ∧ vs.length = 4 ∧ vs.all (·.oneCell') = true) :
    FnP Tryz.prog 66 #[.func (.func g) #[] #[cap]] w (caughtOk (.agg zeroC.toArray) ok may) False := by
  refine calls_of_wp_defers Tryz.func66 rfl ?_
  rw [Tryz.ntmps66]
  have ha0 : AgD [] 7 { tmps := #[.func (.func g) #[] #[cap]] ++ Array.replicate (7 - 1) undef, defers := [] } [(0, .func (.func g) #[] #[cap])] := by
    refine ⟨⟨by simp, rfl, fun i v hv => ?_⟩, rfl⟩
    have h1 := look_mem hv
    simp only [List.mem_singleton, Prod.mk.injEq] at h1
    obtain ⟨rfl, rfl⟩ := h1
    simp
  have htn : TN Tryz.prog 25 4 := tn rfl
  refine wp_seq (wp_region_lit ?_)
  refine WLD.go (F := []) (H := []) (R := Asr.none) ?_ w (Sat.first w []) _ ha0
  refine WLD_alloc (cs := zeroC) rfl (tz rfl) fun b0 hb0 => ?_
  refine WLD_alloc rfl tzany fun b hb => ?_
  refine WLD_nil fun w1 hs1 a1 ha1 => ?_
  refine wp_seq (wp_region_lit ?_)
  refine WLD.go ?_ w1 hs1 _ ha1
  refine WLD_op (v := .func (.func 110) #[] #[.pointer (some ⟨b, 0, none⟩)]) rfl ?_ ?_
  · exact ⟨fun w _ a ha _ _ _ _ _ => by simp only [execOp]; simp [ha.eval (x := .tmp 3) rfl, Instr.makeFunc]⟩
  refine WLD_defer rfl ?_
  refine WLD_nil fun w2 hs2 a2 ha2 => ?_
  refine wp_seq (wp_region_lit ?_)
  refine WLD.go ?_ w2 hs2 _ ha2
  refine WLD_op rfl (Ex_move rfl) ?_
  refine WLD_call hgf rfl rfl (fun w' hs => hg w' (lowOf hs)) ?_ ?_
  · intro hm w3 hs3 a3 ha3
    show Leaves _ _ a3.tmps _ a3.defers (.panicking errC) w3
    rw [ha3.no]
    have hc := hs3.cell1 (i := 0) rfl
    refine leaves_cons (f := 110) (args := #[.pointer (some ⟨b, 0, none⟩)]) (by simp) (by simp [invoke, callFunc, Tryz.func110]; rfl) ?_
    refine (catchClass_panicking ⟨b, 0, none⟩ _ _ _ w3 hc.1 hc.2).mono ?_
    rintro e u' w4 ⟨rfl, rfl, rfl⟩
    have hs4 := hs3.set1 (i := 0) (v := errI) rfl
    have hrow : RV Tryz.prog 7 [(2, .pointer (some ⟨b0, 0, none⟩))] w [] [(b, [errI]), (b0, zeroC)] Asr.none (.cell 2 25) (.agg zeroC.toArray) := RV_cellN htn (b := b0) (o := 0) (vs := zeroC) rfl (row_whole 1 rfl) rfl
    refine ⟨.tuple #[.agg zeroC.toArray, errI], results_2 rfl (hrow.go _ hs4 { a3 with defers := [] } (ha3.ag.sub (E' := [(2, .pointer (some ⟨b0, 0, none⟩))]) ⟨rfl, trivial⟩)) ⟨⟨b, 0, none⟩, ha3.ag.eval (x := .tmp 3) rfl, ?_⟩, .inl ⟨_, Asr.none, rfl, .inr ⟨hm, rfl, rfl⟩, hs4.bare⟩⟩
    have h1 := (t1any (w3.setCell ⟨b, 0, none⟩ errI)).1
    have h2 := (hs4.cell1 (i := 0) rfl).1
    simp only [errI] at h1 h2 ⊢
    simp [loadVar, h1, h2]
  · intro v R' hok
    obtain ⟨vs, rfl, hvl, hv1⟩ := hok4 v R' hok
    refine WLD_store (vs := vs) (fun w => (htn w).2) rfl rfl rfl hvl hv1 1 rfl (by rw [hvl]; rfl) ?_
    have hput : put zeroC 0 vs = vs := by unfold put; rw [hvl]; show [] ++ vs ++ [] = vs; simp
    rw [show (List.set [(b, [Value.nilIface]), (b0, zeroC)] 1 (b0, put zeroC 0 vs)) = [(b, [Value.nilIface]), (b0, vs)] by rw [hput]; rfl]
    refine WLD_store (vs := [.nilIface]) (fun w => (t1any w).2) rfl rfl rfl rfl rfl 0 rfl rfl ?_
    refine WLD_nil fun w3 hs3 a3 ha3 => ?_
    refine wp_ret ?_
    show Leaves _ _ a3.tmps _ a3.defers .returning w3
    rw [ha3.no]
    have hc := hs3.cell1 (i := 0) (old := .nilIface) rfl
    refine leaves_cons (f := 110) (args := #[.pointer (some ⟨b, 0, none⟩)]) (by simp) (by simp [invoke, callFunc, Tryz.func110]; rfl) ?_
    refine (catchClass_idle ⟨b, 0, none⟩ _ w3 hc.1 hc.2).mono ?_
    rintro e u' w4 ⟨rfl, rfl, rfl⟩
    have hs4 := hs3.set1 (i := 0) (old := .nilIface) (v := .nilIface) rfl
    have hrow : RV Tryz.prog 7 [(2, .pointer (some ⟨b0, 0, none⟩))] w [] [(b, [Value.nilIface]), (b0, vs)] (R'.and Asr.none) (.cell 2 25) (.agg vs.toArray) := RV_cellN htn (b := b0) (o := 0) (vs := vs) rfl (row_whole 1 rfl) hvl
    refine ⟨.tuple #[.agg vs.toArray, .nilIface], results_2 rfl (hrow.go _ hs4 { a3 with defers := [] } (ha3.ag.sub (E' := [(2, .pointer (some ⟨b0, 0, none⟩))]) ⟨rfl, trivial⟩)) ⟨⟨b, 0, none⟩, ha3.ag.eval (x := .tmp 3) rfl, ?_⟩, .inl ⟨_, R', rfl, .inl ⟨_, hok, rfl⟩, (hs4.leads (Asr.fst R' Asr.none)).bare⟩⟩
    have h1 := (t1any (w3.setCell ⟨b, 0, none⟩ .nilIface)).1
    have h2 := (hs4.cell1 (i := 0) (old := .nilIface) rfl).1
    simp [loadVar, h1, h2]
end Go.Proofs.YtpofmnfkdkmieaaGreat
namespace Go.Proofs.YtpofmnfkdkmieaaGreat
open Go.RowKit At E

def decOk (o : Option Cl) : Value → Asr → Prop := fun v R' =>
  (∃ c k, o = some c ∧ v = .tuple #[.agg (clV c k.fv k.mv).toArray, .int .i64 0] ∧ R'.Imp (clA c k) ∧ ClFit c k) ∨ (o = none ∧ v = .tuple #[.agg zeroC.toArray, .int .i64 1])
def clH (nm sp : ByteArray) (fv mv : Value) : List Value := [.string nm, .string sp, fv, mv]
end Go.Proofs.YtpofmnfkdkmieaaGreat
