/- What is proved here: package shape's MustBeClass goes through just where the plain function isClassB says yes. the program's Write (package wire) writes a class's bytes, and gives up where it is none. whatever is done under the program's caught (package atrium), its panic is caught, and told. -/
import Derived.Test.YtpofmnfkdkmieaaGreatQ29
import Derived.Test.YtpofmnfkdkmieaaGreatQ22
import Derived.Test.YtpofmnfkdkmieaaGreatQ04
import Derived.Tactics2
set_option linter.unusedVariables false
set_option linter.unusedSimpArgs false
namespace Go.Proofs.YtpofmnfkdkmieaaGreat
open Go.RowKit At E
def mesB (l : List Me) : Bool := decide ((l.length : Int) ≤ 20) && (List.range l.length).all (meAt l)
theorem mustBeMethods_any (v : Value) (l : List Me) (w : World) (hv : MesAt w v l) : PureP Tryz.prog 141 #[v] w (mesB l) := by
 obtain ⟨p, e, rfl, hl, hr1⟩ := hv.is
 replace hr1 : Hid _ := hr1
 clear hv
 refine opens (args := [.slice p l.length e]) Tryz.func141 rfl Tryz.ntmps141 ?_
 refine Zf (Zb (Za rfl (Zd rfl) (Za rfl (Yg (ts rfl) rfl) (Za rfl (Ex_leq rfl rfl) (Yl fn111 rfl rfl (fun w _ => Xe _ w) ?_ ?_)))))
 rotate_left
 ·intro o1
  try (first | replace o1 := dFa o1 | replace o1 := Zi o1)
  have hF : mesB l = false := by first | (simp_all [mesB]; done) | (simp_all [mesB]; omega)
  refine Ye (Yu ?_)
  exact hF
 intro o1
 try (first | replace o1 := dTr o1 | replace o1 := Zk o1)
 have hZ : decide ((l.length : Int) ≤ 20) = true := by simp_all
 refine Ze (Zc (Zf (Zb (Za rfl (Zd rfl) (Za rfl (Yg (ts rfl) rfl) ?_)))))
 refine Za rfl (Zd rfl) (Ze (Zc (Zs (Xh (E' := (fun i : Nat => [(0, .slice p l.length e), (10, .slice p l.length e), (11, .int .i64 (l.length : Nat)), (12, .int .i64 (i : Nat))]) (0)) ⟨rfl, rfl, rfl, rfl, trivial⟩ (Yy (X := Nat) (fun i : Nat => [(0, .slice p l.length e), (10, .slice p l.length e), (11, .int .i64 (l.length : Nat)), (12, .int .i64 (i : Nat))]) _ _ (fun i : Nat => []) (fun i : Nat => Asr.none) (fun i : Nat => i ≤ l.length ∧ (List.range i).all (meAt l) = true) (fun i : Nat => l.length - i) (0) (⟨Nat.zero_le _, rfl⟩) ?_)))))
 intro i hI
 refine Zf (Zb (Za rfl (Xb rfl rfl) (Ze (Zc (Zf ?_)))))
 refine Yi rfl ?_ ?_
 ·intro c1
  try (first | replace c1 := dTr c1 | replace c1 := Zk c1)
  have hi : i < l.length := by omega
  obtain ⟨b, o, r, hp, hb, ⟨pv, cv, hv, fv, hr, hmp⟩, hc⟩ := hr1.out i l[i] (List.getElem?_eq_getElem hi)
  obtain ⟨q1, g1, hq1, -, -⟩ := hmp.ps.is
  obtain ⟨q2, g2, hq2, -, -⟩ := hmp.cs.is
  obtain ⟨q3, g3, hq3, -, -⟩ := hmp.hs.is
  obtain ⟨q4, g4, hq4, -, -⟩ := hmp.fs.is
  subst hp; subst hr; subst hq1; subst hq2; subst hq3; subst hq4
  refine Zw (Zc (Zf (Zs (Zf (Zb ?_)))))
  refine Za rfl (Zd rfl) (Za rfl (Xk (ts rfl) rfl rfl ?_) ?_)
  ·omega
  refine Za rfl (Ym (tn rfl) rfl (Yt hc hb) rfl) (Xg rfl (tz rfl) ?_)
  intro b0 hb0
  refine Za rfl (Zg rfl) (Yd (tn rfl) rfl rfl 0 rfl rfl rfl rfl (Ze (Zc (Zf (Zb ?_)))))
  refine Za rfl (Yb (tn rfl) rfl 0 rfl rfl) (Yl fn247 rfl rfl (fun w hs => mustBeMethod_any _ _ _ _ _ w (hmp.mono (lowOf hs))) ?_ ?_)
  rotate_left
  ·intro o2
   try (first | replace o2 := dFa o2 | replace o2 := Zi o2)
   have hF : mesB l = false := by unfold mesB; rw [range_no hi (by rw [meAt_some hi]; simp_all)]; simp
   refine Ye (Ye (Ye (Ye (Ye (Yu ?_)))))
   exact hF
  intro o2
  try (first | replace o2 := dTr o2 | replace o2 := Zk o2)
  have hmb : isMethodB l[i] = true := by assumption
  refine Ze (Zc (Zf (Zb (Za rfl (Zd rfl) (Za rfl (Zd rfl) ?_)))))
  refine Za rfl (Ex_sliceL (ts rfl) rfl rfl ?_) ?_
  ·omega
  refine Za rfl (Yg (ts rfl) rfl) (Za rfl (Zd rfl) (Ze (Zc (Zs ?_))))
  have hO := hI
  refine Xh (E' := (fun k : Nat => [(0, .slice (some ⟨b, o, none⟩) l.length e), (3, .pointer (some ⟨b0, 0, none⟩)), (10, .slice (some ⟨b, o, none⟩) l.length e), (11, .int .i64 (l.length : Nat)), (12, .int .i64 (i : Nat)), (21, .slice (some ⟨b, o, none⟩) i e), (22, .int .i64 (i : Nat)), (23, .int .i64 (k : Nat))]) (0)) ⟨rfl, rfl, rfl, rfl, rfl, rfl, rfl, rfl, trivial⟩ (Yy (X := Nat) (fun k : Nat => [(0, .slice (some ⟨b, o, none⟩) l.length e), (3, .pointer (some ⟨b0, 0, none⟩)), (10, .slice (some ⟨b, o, none⟩) l.length e), (11, .int .i64 (l.length : Nat)), (12, .int .i64 (i : Nat)), (21, .slice (some ⟨b, o, none⟩) i e), (22, .int .i64 (i : Nat)), (23, .int .i64 (k : Nat))]) _ _ (fun k : Nat => [(b0, meV l[i] (.slice q1 l[i].params.length g1) (.slice q2 l[i].code.length g2) (.slice q3 l[i].handlers.length g3) (.slice q4 l[i].frames.length g4))]) (fun k : Nat => Asr.none) (fun k : Nat => k ≤ i ∧ (List.range k).all (meNe l i) = true) (fun k : Nat => i - k) (0) (⟨Nat.zero_le _, rfl⟩) ?_)
  intro k hI
  refine Zf (Zb (Za rfl (Xb rfl rfl) (Ze (Zc (Zf ?_)))))
  refine Yi rfl ?_ ?_
  ·intro c2
   try (first | replace c2 := dTr c2 | replace c2 := Zk c2)
   have hki : k < i := by omega
   have hk : k < l.length := by omega
   obtain ⟨b', o', r', hp', hb', ⟨pv', cv', hv', fv', hr', hmp'⟩, hc'⟩ := hr1.out k l[k] (List.getElem?_eq_getElem hk)
   obtain ⟨u1, d1, hu1, -, -⟩ := hmp'.ps.is
   obtain ⟨u2, d2, hu2, -, -⟩ := hmp'.cs.is
   obtain ⟨u3, d3, hu3, -, -⟩ := hmp'.hs.is
   obtain ⟨u4, d4, hu4, -, -⟩ := hmp'.fs.is
   cases hp'; subst hr'; subst hu1; subst hu2; subst hu3; subst hu4
   refine Zw (Zc (Zf (Zs (Zf (Zb ?_)))))
   refine Za rfl (Xk (ts rfl) rfl rfl ?_) ?_
   ·omega
   refine Za rfl (Ym (tn rfl) rfl (Yt hc' hb') rfl) (Xg rfl (tz rfl) ?_)
   intro b1 hb1
   refine Yd (tn rfl) rfl rfl 0 rfl rfl rfl rfl (Ze (Zc (Zb (Za rfl (Yb (tn rfl) rfl 0 rfl rfl) (Za rfl (Yb (tn rfl) rfl 1 rfl rfl) ?_)))))
   refine Xi fn248 rfl rfl (fun w hs => haveOne_any _ _ _ _ _ _ _ _ _ _ w (TysAt.mono hmp'.ps (lowOf hs)) (TysAt.mono hmp.ps (lowOf hs))) ?_
   refine Za rfl (Ex_not rfl) (Yl fn111 rfl rfl (fun w _ => Xe _ w) ?_ ?_)
   rotate_left
   ·intro o3
    try (first | replace o3 := dFa o3 | replace o3 := Zi o3)
    have hF : mesB l = false := by unfold mesB; rw [range_no hi (by rw [meAt_some hi, show meNew l i = false from range_no hki (by rw [meNe_some hi hk]; assumption)]; simp)]; simp
    refine Ye (Ye (Ye (Ye (Ye (Ye ?_)))))
    refine Ye (Ye (Yu ?_))
    exact hF
   intro o3
   try (first | replace o3 := dTr o3 | replace o3 := Zk o3)
   have hY : (!sameSig l[k] l[i]) = true := by assumption
   refine Ze (Zx (Zc (Zb ?_)))
   (first | (refine Za rfl (Xa rfl rfl ?_) ?_; omega) | (refine Za rfl (Yp rfl rfl ?_) ?_; omega) | refine Za rfl (Yz rfl rfl) ?_)
   refine Za rfl (Zd rfl) (Ze ?_)
   refine Yn (k + 1) ?_ (⟨hki, range_snoc hI.2 (by rw [meNe_some hi hk]; exact hY)⟩) 1 rfl (rfl) ⟨rfl, rfl, rfl, rfl, rfl, rfl, rfl, rfl, trivial⟩
   omega
  ·intro c2
   try (first | replace c2 := dFa c2 | replace c2 := Zi c2)
   have hN : meNew l i = true := range_end hI.1 (by omega) hI.2
   have hA : meAt l i = true := by rw [meAt_some hi, hN, hmb]; rfl
   refine Yx (Yw (Yo (Yv (Zx (Zc ?_)))))
   refine Zb ?_
   (first | (refine Za rfl (Xa rfl rfl ?_) ?_; omega) | (refine Za rfl (Yp rfl rfl ?_) ?_; omega) | refine Za rfl (Yz rfl rfl) ?_)
   refine Za rfl (Zd rfl) (Ze ?_)
   refine Yn (i + 1) ?_ (⟨hi, range_snoc hO.2 hA⟩) 1 rfl (rfl) ⟨rfl, rfl, rfl, rfl, trivial⟩
   omega
 ·intro c1
  try (first | replace c1 := dFa c1 | replace c1 := Zi c1)
  have hFd := range_end hI.1 (by omega) hI.2
  refine Yx (Yw (Yo (Yv (PP_end rfl ?_))))
  unfold mesB; rw [hZ, hFd]; rfl
theorem isClassB_parts (c : Cl) : isClassB c = (isNameB c.name && isNameB c.super && fdsB c.fields && mesB c.methods) := by
 unfold isClassB fdsB mesB
 generalize isNameB c.name = b1
 generalize isNameB c.super = b2
 generalize decide ((c.fields.length : Int) ≤ 20) = b3
 generalize decide ((c.methods.length : Int) ≤ 20) = b4
 generalize (List.range c.fields.length).all (fdAt c.fields) = b5
 generalize (List.range c.methods.length).all (meAt c.methods) = b6
 cases b1 <;> cases b2 <;> cases b3 <;> cases b4 <;> cases b5 <;> cases b6 <;> rfl
theorem mustBeClass_any (c : Cl) (fv mv : Value) (w : World) (hc0 : ClAt w c fv mv) : PureP Tryz.prog 103 #[.agg (clV c fv mv).toArray] w (isClassB c) := by
 rw [isClassB_parts]
 have hok := hc0.ok
 replace hc0 : Hid _ := hc0
 refine opens (args := [.agg (clV c fv mv).toArray]) Tryz.func103 rfl Tryz.ntmps103 ?_
 refine Zf (Zb (WL_box rfl rfl ?_))
 intro b0 hb0
 refine Ze (Zc (Zf (Zb (Za rfl (Zh (ff rfl) rfl) (Za rfl (Zj (t1 rfl) rfl (Zl 0 rfl rfl)) ?_)))))
 refine Yl fn139 rfl rfl (fun w _ => mustBeName_any _ w hok.1) ?_ ?_
 rotate_left
 ·intro o1
  try (first | replace o1 := dFa o1 | replace o1 := Zi o1)
  refine Ye (Yu ?_)
  simp_all
 intro o1
 try (first | replace o1 := dTr o1 | replace o1 := Zk o1)
 refine Ze (Zc (Zf (Zb (Za rfl (Zh (ff rfl) rfl) (Za rfl (Zj (t1 rfl) rfl (Zl 0 rfl rfl)) ?_)))))
 refine Yl fn139 rfl rfl (fun w _ => mustBeName_any _ w hok.2) ?_ ?_
 rotate_left
 ·intro o2
  try (first | replace o2 := dFa o2 | replace o2 := Zi o2)
  refine Ye (Yu ?_)
  simp_all
 intro o2
 try (first | replace o2 := dTr o2 | replace o2 := Zk o2)
 refine Ze (Zc (Zf (Zb (Za rfl (Zh (ff rfl) rfl) (Za rfl (Zj (t1 rfl) rfl (Zl 0 rfl rfl)) ?_)))))
 refine Yl fn140 rfl rfl (fun w hs => mustBeFields_any _ c.fields w (FdsAt.mono hc0.out.fs (lowOf hs))) ?_ ?_
 rotate_left
 ·intro o3
  try (first | replace o3 := dFa o3 | replace o3 := Zi o3)
  refine Ye (Yu ?_)
  simp_all
 intro o3
 try (first | replace o3 := dTr o3 | replace o3 := Zk o3)
 refine Ze (Zc (Zb (Za rfl (Zh (ff rfl) rfl) (Za rfl (Zj (t1 rfl) rfl (Zl 0 rfl rfl)) (Yl fn141 rfl rfl (fun w hs => mustBeMethods_any _ c.methods w (MesAt.mono hc0.out.ms (lowOf hs))) ?_ ?_)))))
 rotate_left
 ·intro o4
  try (first | replace o4 := dFa o4 | replace o4 := Zi o4)
  refine Yu ?_
  simp_all
 intro o4
 try (first | replace o4 := dTr o4 | replace o4 := Zk o4)
 refine Ze (PP_end rfl ?_)
 simp_all
end Go.Proofs.YtpofmnfkdkmieaaGreat
namespace Go.Proofs.YtpofmnfkdkmieaaGreat
open Go.RowKit At E
def fdL (f : Fld) : List UInt8 := dl (nameS f.name) ++ dl (flagS f.stat) ++ dl (oneTypeS f.ty)
def meL (m : Me) : List UInt8 := dl (methodS m)
def clas4 : ByteArray := ⟨#[67, 76, 65, 83]⟩
def topL (c : Cl) : List UInt8 := dl clas4 ++ dl (nameS c.name) ++ dl (nameS c.super) ++ dl (lowS (c.fields.length : Nat) 1)
theorem dl_bytesS (c : Cl) : dl (bytesS c) = topL c ++ c.fields.flatMap fdL ++ dl (lowS (c.methods.length : Nat) 1) ++ c.methods.flatMap meL := by
 unfold bytesS fdsS
 rw [dl_fold _ meL (fun s m => dl_append s _), dl_append, dl_fold fdS fdL (fun s f => by unfold fdS fdL; simp only [dl_append, List.append_assoc])]
 unfold topS topL clas4
 simp only [dl_append, List.append_assoc]
theorem of_dl {s : ByteArray} {l : List UInt8} (h : l = dl s) : (⟨l.toArray⟩ : ByteArray) = s := by subst h; cases s; simp [dl]
theorem none_in {α : Type} {p : α → Prop} : ∀ x ∈ ([] : List α), p x := fun _ h => by cases h
set_option maxHeartbeats 1000000 in
theorem write_any (c : Cl) (fv mv : Value) (w : World) (hc0 : ClAt w c fv mv) : PureQ Tryz.prog 71 #[.agg (clV c fv mv).toArray] w (if isClassB c = true then some (.string (bytesS c)) else none) := by
 obtain ⟨p1, e1, rfl, hk1, hr1⟩ := hc0.fs.is
 obtain ⟨p2, e2, rfl, hk2, hr2⟩ := hc0.ms.is
 replace hr1 : Hid _ := hr1
 replace hr2 : Hid _ := hr2
 replace hc0 : Hid _ := hc0
 have hu : Below w.heap.size w w := Below.refl _ w
 refine opens (args := [.agg (clV c (.slice p1 c.fields.length e1) (.slice p2 c.methods.length e2)).toArray]) Tryz.func71 rfl Tryz.ntmps71 ?_
 refine Zf (Zb (WL_box rfl rfl ?_))
 intro b0 hb0
 refine Za rfl (Zg rfl) (Ze (Zc (Zf (Zb (Za rfl (Yb (tn rfl) rfl 0 rfl rfl) ?_)))))
 refine Yl fn103 rfl rfl (fun w hs => mustBeClass_any c _ _ w (hc0.out.mono (lowOf hs))) ?_ ?_
 rotate_left
 ·intro o1
  try (first | replace o1 := dFa o1 | replace o1 := Zi o1)
  refine Ye (PQ_dies ?_)
  rw [o1]; rfl
 intro o1
 try (first | replace o1 := dTr o1 | replace o1 := Zk o1)
 have hS := isClassB_small o1
 have hl : (dl (bytesS c)).length ≤ 2000000 := by rw [dl_length]; have h9 := bytesTo_le hS c.methods.length; rw [List.take_length] at h9; exact h9
 rw [dl_bytesS] at hl
 have hl' := hl
 unfold topL at hl
 simp only [List.length_append] at hl hl'
 refine Ze (Zc (Zf (Zb (Za rfl (Xs (tb rfl) rfl rfl) (WL_box rfl rfl ?_)))))
 intro b1 hb1
 refine Za rfl (Zg rfl) (Ze (Zc (Zf (WC_own 5 1 (WC_res (R' := wrA (.slice none 0 0) []) rfl ?_)))))
 refine Zb (Za rfl (Zd rfl) ?_)
 refine Xu fn120 rfl rfl 0 rfl hu none_in (wrText_any w _ clas4) (by (try simp only [List.length_append, List.length_nil]); omega) ?_
 intro v1
 refine Ze (Zc (Zf (Zb (Za rfl (Zd rfl) (Za rfl (Zh (ff rfl) rfl) ?_)))))
 refine Za rfl (Zj (t1 rfl) rfl (Zl 1 rfl rfl)) ?_
 refine Xu fn121 rfl rfl 0 rfl hu none_in (wrName_any w _ c.name) (by (try simp only [List.length_append, List.length_nil]); omega) ?_
 intro v2
 refine Ze (Zc (Zf (Zb (Za rfl (Zd rfl) (Za rfl (Zh (ff rfl) rfl) ?_)))))
 refine Za rfl (Zj (t1 rfl) rfl (Zl 1 rfl rfl)) ?_
 refine Xu fn121 rfl rfl 0 rfl hu none_in (wrName_any w _ c.super) (by (try simp only [List.length_append, List.length_nil]); omega) ?_
 intro v3
 refine Ze (Zc (Zf (Zb (Za rfl (Zd rfl) (Za rfl (Zh (ff rfl) rfl) ?_)))))
 refine Za rfl (Zj (t1 rfl) rfl (Zl 1 rfl rfl)) (Za rfl (Yg (ts rfl) rfl) ?_)
 refine Xu fn122 rfl rfl 0 rfl hu none_in (wrByte_any w _ (c.fields.length : Nat)) (by (try simp only [List.length_append, List.length_nil]); omega) ?_
 intro v4
 refine Ze (Zc (Zf (Zf (Zb (Za rfl (Zh (ff rfl) rfl) ?_)))))
 refine Za rfl (Zj (t1 rfl) rfl (Zl 1 rfl rfl)) (Za rfl (Yg (ts rfl) rfl) (Za rfl (Zd rfl) (Ze (Zc (Zs ?_)))))
 refine WC_res (congrArg (wrA _) (show _ = topL c ++ (c.fields.take 0).flatMap fdL from by unfold topL; simp only [List.nil_append, List.append_assoc, List.take_zero, List.flatMap_nil, List.append_nil])) ?_
 refine Xh (E' := (fun x : Nat × Value => [(1, .pointer (some ⟨b0, 0, none⟩)), (3, .pointer (some ⟨b1, 0, none⟩)), (28, .slice p1 c.fields.length e1), (29, .int .i64 (c.fields.length : Nat)), (30, .int .i64 (x.1 : Nat))]) ((0, v4))) ⟨rfl, rfl, rfl, rfl, rfl, trivial⟩ (Yy (X := Nat × Value) (fun x : Nat × Value => [(1, .pointer (some ⟨b0, 0, none⟩)), (3, .pointer (some ⟨b1, 0, none⟩)), (28, .slice p1 c.fields.length e1), (29, .int .i64 (c.fields.length : Nat)), (30, .int .i64 (x.1 : Nat))]) _ _ (fun x : Nat × Value => [(b1, [x.2]), (b0, clV c (.slice p1 c.fields.length e1) (.slice p2 c.methods.length e2))]) (fun x : Nat × Value => wrA x.2 (topL c ++ (c.fields.take x.1).flatMap fdL)) (fun x : Nat × Value => x.1 ≤ c.fields.length) (fun x : Nat × Value => c.fields.length - x.1) ((0, v4)) (Nat.zero_le _) ?_)
 intro x hI
 refine Zf (Zb (Za rfl (Xb rfl rfl) (Ze (Zc (Zf ?_)))))
 refine Yi rfl ?_ ?_
 ·intro c1
  try (first | replace c1 := dTr c1 | replace c1 := Zk c1)
  have hx : x.1 < c.fields.length := by omega
  obtain ⟨b', o', r, hp, hb, ⟨hr, -⟩, hc⟩ := hr1.out x.1 c.fields[x.1] (List.getElem?_eq_getElem hx)
  subst hp; subst hr
  have hr := flat_room fdL c.fields x.1 hx
  unfold fdL at hr
  simp only [List.length_append] at hr
  refine Zw (Zc (Zf (Zs (Zf (Zb ?_)))))
  refine Za rfl (Xk (ts rfl) rfl rfl ?_) ?_
  ·omega
  refine Za rfl (Ym (tn rfl) rfl (row_oldU hu none_in hb hc) rfl) (Xg rfl (tz rfl) ?_)
  intro b2 hb2
  refine Yd (tn rfl) rfl rfl 0 rfl rfl rfl rfl (Ze (Zc (Zf (Zb (Za rfl (Zd rfl) ?_)))))
  refine Za rfl (Zh (ff rfl) rfl) (Za rfl (Zj (t1 rfl) rfl (Zl 0 rfl rfl)) ?_)
  refine Xu fn121 rfl rfl 1 rfl hu none_in (wrName_any w _ c.fields[x.1].name) (by unfold fdL at *; simp only [List.length_append]; omega) ?_
  intro v5
  refine Ze (Zc (Zf (Zb (Za rfl (Zd rfl) (Za rfl (Zh (ff rfl) rfl) ?_)))))
  refine Za rfl (Zj (t1 rfl) rfl (Zl 0 rfl rfl)) ?_
  refine Xu fn123 rfl rfl 1 rfl hu none_in (wrFlag_any w _ c.fields[x.1].stat) (by unfold fdL at *; simp only [List.length_append]; omega) ?_
  intro v6
  refine Ze (Zc (Zb (Za rfl (Zd rfl) (Za rfl (Zh (ff rfl) rfl) (Za rfl (Yb (tn rfl) rfl 0 rfl rfl) ?_)))))
  refine Xu fn124 rfl rfl 1 rfl hu none_in (wrTyp_any w _ c.fields[x.1].ty) (by unfold fdL at *; simp only [List.length_append]; omega) ?_
  intro v7
  refine Ze (Zx (Zc (Zb ?_)))
  (first | (refine Za rfl (Xa rfl rfl ?_) ?_; omega) | (refine Za rfl (Yp rfl rfl ?_) ?_; omega) | refine Za rfl (Yz rfl rfl) ?_)
  refine Za rfl (Zd rfl) (Ze ?_)
  refine Yn ((x.1 + 1, v7)) ?_ (hx) 1 rfl (congrArg (wrA v7) (by rw [flat_next fdL c.fields x.1 hx]; unfold fdL; simp only [List.append_assoc])) ⟨rfl, rfl, rfl, rfl, rfl, trivial⟩
  omega
 ·intro c1
  try (first | replace c1 := dFa c1 | replace c1 := Zi c1)
  refine Yx (Yw (Yo (Yv (Zc (Zf ?_)))))
  refine WC_res (congrArg (wrA _) (show _ = topL c ++ c.fields.flatMap fdL from by rw [flat_all fdL c.fields x.1 (by omega)])) ?_
  refine Zb (Za rfl (Zd rfl) (Za rfl (Zh (ff rfl) rfl) (Za rfl (Zj (t1 rfl) rfl (Zl 1 rfl rfl)) (Za rfl (Yg (ts rfl) rfl) ?_))))
  refine Xu fn122 rfl rfl 0 rfl hu none_in (wrByte_any w _ (c.methods.length : Nat)) (by (try simp only [List.length_append, List.length_nil]); omega) ?_
  intro v8
  refine Ze (Zc (Zf (Zf (Zb (Za rfl (Zh (ff rfl) rfl) ?_)))))
  refine Za rfl (Zj (t1 rfl) rfl (Zl 1 rfl rfl)) (Za rfl (Yg (ts rfl) rfl) (Za rfl (Zd rfl) (Ze (Zc (Zs ?_)))))
  refine WC_res (congrArg (wrA _) (show _ = topL c ++ c.fields.flatMap fdL ++ dl (lowS (c.methods.length : Nat) 1) ++ (c.methods.take 0).flatMap meL from by simp only [List.take_zero, List.flatMap_nil, List.append_nil])) ?_
  refine Xh (E' := (fun y : Nat × Value => [(1, .pointer (some ⟨b0, 0, none⟩)), (3, .pointer (some ⟨b1, 0, none⟩)), (53, .slice p2 c.methods.length e2), (54, .int .i64 (c.methods.length : Nat)), (55, .int .i64 (y.1 : Nat))]) ((0, v8))) ⟨rfl, rfl, rfl, rfl, rfl, trivial⟩ (Yy (X := Nat × Value) (fun y : Nat × Value => [(1, .pointer (some ⟨b0, 0, none⟩)), (3, .pointer (some ⟨b1, 0, none⟩)), (53, .slice p2 c.methods.length e2), (54, .int .i64 (c.methods.length : Nat)), (55, .int .i64 (y.1 : Nat))]) _ _ (fun y : Nat × Value => [(b1, [y.2]), (b0, clV c (.slice p1 c.fields.length e1) (.slice p2 c.methods.length e2))]) (fun y : Nat × Value => wrA y.2 (topL c ++ c.fields.flatMap fdL ++ dl (lowS (c.methods.length : Nat) 1) ++ (c.methods.take y.1).flatMap meL)) (fun y : Nat × Value => y.1 ≤ c.methods.length) (fun y : Nat × Value => c.methods.length - y.1) ((0, v8)) (Nat.zero_le _) ?_)
  intro y hI
  refine Zf (Zb (Za rfl (Xb rfl rfl) (Ze (Zc (Zf ?_)))))
  refine Yi rfl ?_ ?_
  ·intro c2
   try (first | replace c2 := dTr c2 | replace c2 := Zk c2)
   have hy : y.1 < c.methods.length := by omega
   obtain ⟨b', o', r, hp, hb, ⟨pv, cv, hv, gv, hr, hmp⟩, hc⟩ := hr2.out y.1 c.methods[y.1] (List.getElem?_eq_getElem hy)
   obtain ⟨q1, g1, hq1, -, -⟩ := hmp.ps.is
   obtain ⟨q2, g2, hq2, -, -⟩ := hmp.cs.is
   obtain ⟨q3, g3, hq3, -, -⟩ := hmp.hs.is
   obtain ⟨q4, g4, hq4, -, -⟩ := hmp.fs.is
   subst hp; subst hr; subst hq1; subst hq2; subst hq3; subst hq4
   refine Zw (Zc (Zf (Zs (Zf (Zb ?_)))))
   refine Za rfl (Xk (ts rfl) rfl rfl ?_) ?_
   ·omega
   refine Za rfl (Ym (tn rfl) rfl (row_oldU hu none_in hb hc) rfl) (Xg rfl (tz rfl) ?_)
   intro b2 hb2
   refine Yd (tn rfl) rfl rfl 0 rfl rfl rfl rfl (Ze (Zc (Zb (Za rfl (Zd rfl) (Za rfl (Yb (tn rfl) rfl 0 rfl rfl) ?_)))))
   refine Xu fn125 rfl rfl 1 rfl hu none_in (wrMethod_any w _ c.methods[y.1] _ _ _ _ hmp) (by have hr := flat_room meL c.methods y.1 hy; unfold meL at *; simp only [List.length_append]; omega) ?_
   intro v9
   refine Ze (Zx (Zc (Zb ?_)))
   (first | (refine Za rfl (Xa rfl rfl ?_) ?_; omega) | (refine Za rfl (Yp rfl rfl ?_) ?_; omega) | refine Za rfl (Yz rfl rfl) ?_)
   refine Za rfl (Zd rfl) (Ze ?_)
   refine Yn ((y.1 + 1, v9)) ?_ (hy) 1 rfl (congrArg (wrA v9) (by rw [flat_next meL c.methods y.1 hy, ← List.append_assoc]; rfl)) ⟨rfl, rfl, rfl, rfl, rfl, trivial⟩
   omega
  ·intro c2
   try (first | replace c2 := dFa c2 | replace c2 := Zi c2)
   refine Yx (Yw (Yo (Yv (Zc (Zf ?_)))))
   refine Zb (Za rfl (Zd rfl) (Za rfl (Ys rfl) (Za rfl (Zh (ff rfl) rfl) (Za rfl (Zj (t1 rfl) rfl (Zl 0 rfl rfl)) (Za rfl (Ex_bytes (ta rfl).sl (tint rfl) (tstr rfl) rfl rfl) ?_)))))
   refine Za rfl (Zg rfl) (Ze (Zc (Zv (PQ_end1 rfl rfl ?_))))
   rw [if_pos o1]; refine congrArg (fun s => some (Value.string s)) (of_dl ?_).symm; rw [dl_bytesS, flat_all meL c.methods y.1 (by omega)]
end Go.Proofs.YtpofmnfkdkmieaaGreat
namespace Go.Proofs.YtpofmnfkdkmieaaGreat
open Go Go.RowKit At E
set_option maxRecDepth 4000
theorem catchstring_panicking (p : Addr) (x : Value) (u : TypeId) (pv : Value) (w : World) (hc : w.cell? p = some x) (hz : w.frozen? p = false) :
  CallsD Tryz.prog 119 #[.pointer (some p)] (.panicking ({ v := .iface u pv, recovered := false } :: [])) w fun e u' w' =>
   e = .returned (.tuple #[]) ∧ u' = .panicking ({ v := .iface u pv, recovered := true } :: []) ∧ w' = w.setCell p (.iface u pv) := by
 refine callsD_of_wpS Tryz.func119 rfl fun c₀ cs hu => ?_
 apply wpS_region
 simp [wpOpsS, go_sem, recoverD, hu, Tryz.ntmps119, hc, hz, bodyPostS, results, Tryz.results119]
theorem catchstring_idle (p : Addr) (x : Value) (w : World) (hc : w.cell? p = some x) (hz : w.frozen? p = false) :
  CallsD Tryz.prog 119 #[.pointer (some p)] .returning w fun e u' w' => e = .returned (.tuple #[]) ∧ u' = .returning ∧ w' = w.setCell p .nilIface := by
 refine callsD_of_wpS Tryz.func119 rfl fun c₀ cs hu => ?_
 apply wpS_region
 simp [wpOpsS, go_sem, recoverD, hu, Tryz.ntmps119, hc, hz, bodyPostS, results, Tryz.results119]
 cases c₀
 simp_all
theorem catchClass_panicking (p : Addr) (x : Value) (u : TypeId) (pv : Value) (w : World) (hc : w.cell? p = some x) (hz : w.frozen? p = false) :
  CallsD Tryz.prog 110 #[.pointer (some p)] (.panicking ({ v := .iface u pv, recovered := false } :: [])) w fun e u' w' =>
   e = .returned (.tuple #[]) ∧ u' = .panicking ({ v := .iface u pv, recovered := true } :: []) ∧ w' = w.setCell p (.iface u pv) := by
 refine callsD_of_wpS Tryz.func110 rfl fun c₀ cs hu => ?_
 apply wpS_region
 simp [wpOpsS, go_sem, recoverD, hu, Tryz.ntmps110, hc, hz, bodyPostS, results, Tryz.results110]
theorem catchClass_idle (p : Addr) (x : Value) (w : World) (hc : w.cell? p = some x) (hz : w.frozen? p = false) :
  CallsD Tryz.prog 110 #[.pointer (some p)] .returning w fun e u' w' => e = .returned (.tuple #[]) ∧ u' = .returning ∧ w' = w.setCell p .nilIface := by
 refine callsD_of_wpS Tryz.func110 rfl fun c₀ cs hu => ?_
 apply wpS_region
 simp [wpOpsS, go_sem, recoverD, hu, Tryz.ntmps110, hc, hz, bodyPostS, results, Tryz.results110]
 cases c₀
 simp_all
def errI : Value := .iface 48 (.int .i64 1)
/-- What caught hands back. -/
def caughtOk (zero : Value) (ok : Value → Asr → Prop) (may : Prop) : Value → Asr → Prop := fun v R' => (∃ x, ok x R' ∧ v = .tuple #[x, .nilIface]) ∨ (may ∧ R' = Asr.none ∧ v = .tuple #[zero, errI])
theorem t1any : T1 Tryz.prog 20 := fun w => ⟨by kernel_rfl, by kernel_rfl⟩
theorem tzany : TZ Tryz.prog 20 [.nilIface] := fun w => by kernel_rfl
theorem caughtString_any (g : Nat) (cap : Value) (w : World) (ok : Value → Asr → Prop) (may : Prop) (hgf : IsFn Tryz.prog g) (hg : ∀ w', Below w.heap.size w w' → FnP Tryz.prog g #[cap] w' ok may) :
  FnP Tryz.prog 69 #[.func (.func g) #[] #[cap]] w (caughtOk (.string ⟨#[]⟩) ok may) False := by
 refine calls_of_wp_defers Tryz.func69 rfl ?_
 rw [Tryz.ntmps69]
 have ha0 : AgD [] 7 { tmps := #[.func (.func g) #[] #[cap]] ++ Array.replicate (7 - 1) undef, defers := [] } [(0, .func (.func g) #[] #[cap])] := by
  refine ⟨⟨by simp, rfl, fun i v hv => ?_⟩, rfl⟩
  have h1 := look_mem hv
  simp only [List.mem_singleton, Prod.mk.injEq] at h1
  obtain ⟨rfl, rfl⟩ := h1
  simp
 refine wp_seq (wp_region_lit ?_)
 refine WLD.go (F := []) (H := []) (R := Asr.none) ?_ w (Sat.first w []) _ ha0
 refine WLD_op rfl (Zg rfl) (WLD_alloc rfl tzany fun b hb => ?_)
 refine WLD_nil fun w1 hs1 a1 ha1 => ?_
 refine wp_seq (wp_region_lit ?_)
 refine WLD.go ?_ w1 hs1 _ ha1
 refine WLD_op (v := .func (.func 119) #[] #[.pointer (some ⟨b, 0, none⟩)]) rfl ?_ ?_
 ·exact ⟨fun w _ a ha _ _ _ _ _ => by simp only [execOp]; simp [ha.eval (x := .tmp 3) rfl, Instr.makeFunc]⟩
 refine WLD_defer rfl (WLD_nil fun w2 hs2 a2 ha2 => ?_)
 refine wp_seq (wp_region_lit ?_)
 refine WLD.go ?_ w2 hs2 _ ha2
 refine WLD_op rfl (Zd rfl) (WLD_call hgf rfl rfl (fun w' hs => hg w' (lowOf hs)) ?_ ?_)
 ·intro hm w3 hs3 a3 ha3
  show Leaves _ _ a3.tmps _ a3.defers (.panicking errC) w3
  rw [ha3.no]
  have hc := hs3.cell1 (i := 0) rfl
  refine leaves_cons (f := 119) (args := #[.pointer (some ⟨b, 0, none⟩)]) (by simp) (by simp [invoke, callFunc, Tryz.func119]; rfl) ?_
  refine (catchstring_panicking ⟨b, 0, none⟩ _ _ _ w3 hc.1 hc.2).mono ?_
  rintro e u' w4 ⟨rfl, rfl, rfl⟩
  have hs4 := hs3.set1 (i := 0) (v := errI) rfl
  refine ⟨.tuple #[.string ⟨#[]⟩, errI], results_2 rfl (ha3.ag.eval (x := .tmp 2) rfl) ⟨⟨b, 0, none⟩, ha3.ag.eval (x := .tmp 3) rfl, ?_⟩, .inl ⟨_, Asr.none, rfl, .inr ⟨hm, rfl, rfl⟩, hs4.bare⟩⟩
  have h1 := (t1any (w3.setCell ⟨b, 0, none⟩ errI)).1
  have h2 := (hs4.cell1 (i := 0) rfl).1
  simp only [errI] at h1 h2 ⊢
  simp [loadVar, h1, h2]
 ·intro v R' hok
  refine WLD_op rfl (Zg rfl) (WLD_store (vs := [.nilIface]) (fun w => (t1any w).2) rfl rfl rfl rfl rfl 0 rfl rfl ?_)
  refine WLD_nil fun w3 hs3 a3 ha3 => ?_
  refine wp_ret ?_
  show Leaves _ _ a3.tmps _ a3.defers .returning w3
  rw [ha3.no]
  have hc := hs3.cell1 (i := 0) (old := .nilIface) rfl
  refine leaves_cons (f := 119) (args := #[.pointer (some ⟨b, 0, none⟩)]) (by simp) (by simp [invoke, callFunc, Tryz.func119]; rfl) ?_
  refine (catchstring_idle ⟨b, 0, none⟩ _ w3 hc.1 hc.2).mono ?_
  rintro e u' w4 ⟨rfl, rfl, rfl⟩
  have hs4 := hs3.set1 (i := 0) (old := .nilIface) (v := .nilIface) rfl
  refine ⟨.tuple #[v, .nilIface], results_2 rfl (ha3.ag.eval (x := .tmp 2) rfl) ⟨⟨b, 0, none⟩, ha3.ag.eval (x := .tmp 3) rfl, ?_⟩, .inl ⟨_, R', rfl, .inl ⟨v, hok, rfl⟩, (hs4.leads (Asr.fst R' Asr.none)).bare⟩⟩
  have h1 := (t1any (w3.setCell ⟨b, 0, none⟩ .nilIface)).1
  have h2 := (hs4.cell1 (i := 0) (old := .nilIface) rfl).1
  simp [loadVar, h1, h2]
def zeroC : List Value := [.string ⟨#[]⟩, .string ⟨#[]⟩, .slice none 0 0, .slice none 0 0]
theorem caughtClass_any (g : Nat) (cap : Value) (w : World) (ok : Value → Asr → Prop) (may : Prop) (hgf : IsFn Tryz.prog g) (hg : ∀ w', Below w.heap.size w w' → FnP Tryz.prog g #[cap] w' ok may)
  (hok4 : ∀ v R', ok v R' → ∃ vs : List Value, v = .agg vs.toArray ∧ vs.length = 4 ∧ vs.all (·.oneCell') = true) :
  FnP Tryz.prog 66 #[.func (.func g) #[] #[cap]] w (caughtOk (.agg zeroC.toArray) ok may) False := by
 refine calls_of_wp_defers Tryz.func66 rfl ?_
 rw [Tryz.ntmps66]
 have ha0 : AgD [] 7 { tmps := #[.func (.func g) #[] #[cap]] ++ Array.replicate (7 - 1) undef, defers := [] } [(0, .func (.func g) #[] #[cap])] := by
  refine ⟨⟨by simp, rfl, fun i v hv => ?_⟩, rfl⟩
  have h1 := look_mem hv
  simp only [List.mem_singleton, Prod.mk.injEq] at h1
  obtain ⟨rfl, rfl⟩ := h1
  simp
 have htn : TN Tryz.prog 25 4 := tn rfl
 refine wp_seq (wp_region_lit ?_)
 refine WLD.go (F := []) (H := []) (R := Asr.none) ?_ w (Sat.first w []) _ ha0
 refine WLD_alloc (cs := zeroC) rfl (tz rfl) fun b0 hb0 => ?_
 refine WLD_alloc rfl tzany fun b hb => ?_
 refine WLD_nil fun w1 hs1 a1 ha1 => ?_
 refine wp_seq (wp_region_lit ?_)
 refine WLD.go ?_ w1 hs1 _ ha1
 refine WLD_op (v := .func (.func 110) #[] #[.pointer (some ⟨b, 0, none⟩)]) rfl ?_ ?_
 ·exact ⟨fun w _ a ha _ _ _ _ _ => by simp only [execOp]; simp [ha.eval (x := .tmp 3) rfl, Instr.makeFunc]⟩
 refine WLD_defer rfl (WLD_nil fun w2 hs2 a2 ha2 => ?_)
 refine wp_seq (wp_region_lit ?_)
 refine WLD.go ?_ w2 hs2 _ ha2
 refine WLD_op rfl (Zd rfl) (WLD_call hgf rfl rfl (fun w' hs => hg w' (lowOf hs)) ?_ ?_)
 ·intro hm w3 hs3 a3 ha3
  show Leaves _ _ a3.tmps _ a3.defers (.panicking errC) w3
  rw [ha3.no]
  have hc := hs3.cell1 (i := 0) rfl
  refine leaves_cons (f := 110) (args := #[.pointer (some ⟨b, 0, none⟩)]) (by simp) (by simp [invoke, callFunc, Tryz.func110]; rfl) ?_
  refine (catchClass_panicking ⟨b, 0, none⟩ _ _ _ w3 hc.1 hc.2).mono ?_
  rintro e u' w4 ⟨rfl, rfl, rfl⟩
  have hs4 := hs3.set1 (i := 0) (v := errI) rfl
  have hrow : RV Tryz.prog 7 [(2, .pointer (some ⟨b0, 0, none⟩))] w [] [(b, [errI]), (b0, zeroC)] Asr.none (.cell 2 25) (.agg zeroC.toArray) := Xo htn (b := b0) (o := 0) (vs := zeroC) rfl (Yj 1 rfl) rfl
  refine ⟨.tuple #[.agg zeroC.toArray, errI], results_2 rfl (hrow.go _ hs4 { a3 with defers := [] } (ha3.ag.sub (E' := [(2, .pointer (some ⟨b0, 0, none⟩))]) ⟨rfl, trivial⟩)) ⟨⟨b, 0, none⟩, ha3.ag.eval (x := .tmp 3) rfl, ?_⟩, .inl ⟨_, Asr.none, rfl, .inr ⟨hm, rfl, rfl⟩, hs4.bare⟩⟩
  have h1 := (t1any (w3.setCell ⟨b, 0, none⟩ errI)).1
  have h2 := (hs4.cell1 (i := 0) rfl).1
  simp only [errI] at h1 h2 ⊢
  simp [loadVar, h1, h2]
 ·intro v R' hok
  obtain ⟨vs, rfl, hvl, hv1⟩ := hok4 v R' hok
  refine WLD_store (vs := vs) (fun w => (htn w).2) rfl rfl rfl hvl hv1 1 rfl (by rw [hvl]; rfl) ?_
  have hput : put zeroC 0 vs = vs := by unfold put; rw [hvl]; show [] ++ vs ++ [] = vs; simp
  rw [show (List.set [(b, [Value.nilIface]), (b0, zeroC)] 1 (b0, put zeroC 0 vs)) = [(b, [Value.nilIface]), (b0, vs)] by rw [hput]; rfl]
  refine WLD_store (vs := [.nilIface]) (fun w => (t1any w).2) rfl rfl rfl rfl rfl 0 rfl rfl ?_
  refine WLD_nil fun w3 hs3 a3 ha3 => ?_
  refine wp_ret ?_
  show Leaves _ _ a3.tmps _ a3.defers .returning w3
  rw [ha3.no]
  have hc := hs3.cell1 (i := 0) (old := .nilIface) rfl
  refine leaves_cons (f := 110) (args := #[.pointer (some ⟨b, 0, none⟩)]) (by simp) (by simp [invoke, callFunc, Tryz.func110]; rfl) ?_
  refine (catchClass_idle ⟨b, 0, none⟩ _ w3 hc.1 hc.2).mono ?_
  rintro e u' w4 ⟨rfl, rfl, rfl⟩
  have hs4 := hs3.set1 (i := 0) (old := .nilIface) (v := .nilIface) rfl
  have hrow : RV Tryz.prog 7 [(2, .pointer (some ⟨b0, 0, none⟩))] w [] [(b, [Value.nilIface]), (b0, vs)] (R'.and Asr.none) (.cell 2 25) (.agg vs.toArray) := Xo htn (b := b0) (o := 0) (vs := vs) rfl (Yj 1 rfl) hvl
  refine ⟨.tuple #[.agg vs.toArray, .nilIface], results_2 rfl (hrow.go _ hs4 { a3 with defers := [] } (ha3.ag.sub (E' := [(2, .pointer (some ⟨b0, 0, none⟩))]) ⟨rfl, trivial⟩)) ⟨⟨b, 0, none⟩, ha3.ag.eval (x := .tmp 3) rfl, ?_⟩, .inl ⟨_, R', rfl, .inl ⟨_, hok, rfl⟩, (hs4.leads (Asr.fst R' Asr.none)).bare⟩⟩
  have h1 := (t1any (w3.setCell ⟨b, 0, none⟩ .nilIface)).1
  have h2 := (hs4.cell1 (i := 0) (old := .nilIface) rfl).1
  simp [loadVar, h1, h2]
end Go.Proofs.YtpofmnfkdkmieaaGreat
