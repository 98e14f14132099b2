/- What is proved here: the statement's book keeps lists of the other sorts. -/
import Derived.Test.YtpofmnfkdkmieaaGreatQ17
set_option linter.unusedVariables false
set_option linter.unusedSimpArgs false
namespace Go.Proofs.YtpofmnfkdkmieaaGreat
open Go Go.RowKit At E
theorem keepInstrs_any (b : Nat) (vT vI vF vM vH vR l : Value) (vs xs : List Value) (n : Nat) (h4 : vs.length % 4 = 0) (hb : vs.length ≤ 1099511627776) (hn : n ≤ 2000000) :
  RkP Tryz.prog 82 #[.pointer (some ⟨b, 0, none⟩), l] b (bkC vT vI vF vM vH vR) ((ownA 75 7 l n xs).and (sortA 76 inMk vI vs))
   (fun v cs' R' => ∃ v' us, us.length = 4 ∧ cs' = bkC vT v' vF vM vH vR ∧ R'.Imp (sortA 76 inMk v' (vs ++ us))) := by
 intro w hs0
 obtain ⟨pl, cl, rfl, hpl⟩ := owns_form hs0.res.1
 obtain ⟨pv, cv, rfl, -⟩ := owns_form hs0.res.2.1.1
 have hxl : xs.length = n * 7 := hs0.res.1.1
 replace hpl : Hid _ := hpl
 refine opensF (hs0) (args := [.pointer (some ⟨b, 0, none⟩), .slice pl n cl]) Tryz.func82 rfl Tryz.ntmps82 ?_
 refine Zf (Zb (Za rfl (Zd rfl) (Za rfl (Ys rfl) (Za rfl (Zh (ff rfl) rfl) (Za rfl (Zh (ff rfl) rfl) ?_)))))
 refine Za rfl (Zj (t1 rfl) rfl (Zl 0 rfl rfl)) (Za rfl (Yg (ts rfl) rfl) (Za rfl (Ex_quo rfl rfl rfl) ?_))
 (first | (refine Za rfl (Xa rfl rfl ?_) ?_; omega) | (refine Za rfl (Yp rfl rfl ?_) ?_; omega) | refine Za rfl (Yz rfl rfl) ?_)
 refine WL_same (s := 15) (v' := .int .i64 (100 + ((vs.length / 4 : Nat) : Int))) rfl (congrArg (Value.int .i64) (by rw [quo4 _ hb]; exact wrap_in _ (by omega))) ?_
 refine Za rfl (Xs (tb rfl) rfl rfl) (Xg rfl (tz rfl) ?_)
 intro b1 hb1
 refine Yd (tn rfl) rfl rfl 0 rfl rfl rfl rfl (Ze (Zc (Zf (Zf (Zb ?_)))))
 refine Za rfl (Zg rfl) (Ze (Zc (Zs (WC_res (congrArg (fun z => (ownA 75 7 (.slice pl n cl) n z).and (sortA 76 inMk (.slice pv vs.length cv) vs)) (show xs = rep (inMk (vs.length / 4)) 0 ++ xs.drop (0 * 7) from by simp [rep])) ?_))))
 refine Xh (E' := (fun i : Nat => [(0, .pointer (some ⟨b, 0, none⟩)), (1, .slice pl n cl), (4, .pointer (some ⟨b1, 0, none⟩)), (5, .int .i64 (i : Nat))]) (0)) ⟨rfl, rfl, rfl, rfl, trivial⟩ (Yy (X := Nat) (fun i : Nat => [(0, .pointer (some ⟨b, 0, none⟩)), (1, .slice pl n cl), (4, .pointer (some ⟨b1, 0, none⟩)), (5, .int .i64 (i : Nat))]) _ _ (fun i : Nat => [(b1, inMk (vs.length / 4)), (b, bkC vT (.slice pv vs.length cv) vF vM vH vR)]) (fun i : Nat => (ownA 75 7 (.slice pl n cl) n (rep (inMk (vs.length / 4)) i ++ xs.drop (i * 7))).and (sortA 76 inMk (.slice pv vs.length cv) vs)) (fun i : Nat => i ≤ n) (fun i : Nat => n - i) (0) (Nat.zero_le _) ?_)
 intro i hI
 refine Zf (Zf (Zb (Za rfl (Zd rfl) (Za rfl (Zd rfl) (Za rfl (Yg (ts rfl) rfl) ?_)))))
 refine Za rfl (Xb rfl rfl) (Ze (Zc (Yi rfl ?_ ?_)))
 ·intro c1
  try (first | replace c1 := dTr c1 | replace c1 := Zk c1)
  obtain ⟨g, hg⟩ := hpl.out (by omega)
  subst hg
  refine Zw (Zc (Zf (Zs (Zb (Za rfl (Zd rfl) ?_)))))
  refine Za rfl (Zd rfl) (Za rfl (Yb (tn rfl) rfl 0 rfl rfl) (Za rfl (Xk (ts rfl) rfl rfl ?_) ?_))
  ·omega
  refine WL_storeRow (tn rfl) rfl rfl rfl rfl (by show 0 + i * 7 + 7 ≤ n * 7; omega) ?_
  refine Ze (Zx (Zc (Zb (Za rfl (Zd rfl) ?_))))
  (first | (refine Za rfl (Xa rfl rfl ?_) ?_; omega) | (refine Za rfl (Yp rfl rfl ?_) ?_; omega) | refine Za rfl (Yz rfl rfl) ?_)
  refine Za rfl (Zg rfl) (Ze ?_)
  refine Yn (i + 1) ?_ (by omega) 0 rfl (by show (ownA 75 7 _ _ _).and _ = (ownA 75 7 _ _ _).and _; rw [Nat.zero_add]; exact congrArg (fun z => (ownA 75 7 (.slice (some ⟨g, 0, none⟩) n cl) n z).and (sortA 76 inMk (.slice pv vs.length cv) vs)) (put_rep (m := inMk (vs.length / 4)) (by show (i + 1) * 7 ≤ xs.length; omega)).symm) ⟨rfl, rfl, rfl, rfl, trivial⟩
  omega
 ·intro c1
  try (first | replace c1 := dFa c1 | replace c1 := Zi c1)
  refine Yx (Yw (Yo (Yv (Zc (Zf ?_)))))
  refine WC_res (congrArg (fun z => (ownA 75 7 (.slice pl n cl) n z).and (sortA 76 inMk (.slice pv vs.length cv) vs)) (show _ = rep (inMk (vs.length / 4)) n from by rw [show i = n by omega, List.drop_of_length_le (by omega), List.append_nil])) ?_
  refine WC_imp (Asr.Imp.left grp_first) (Zb (Za rfl (Zg rfl) (Ze (Zc (Zs ?_)))))
  refine WC_res (R' := (grpA 75 7 (inMk (vs.length / 4)) (.slice pl n cl) (n + 0) []).and ((ownA 76 1 (.slice pv vs.length cv) (vs.length + 0) (vs ++ [])).and (keptA inMk vs))) (by rw [List.append_nil]; rfl) ?_
  refine Xh (E' := (fun x : KpL => [(0, .pointer (some ⟨b, 0, none⟩)), (1, x.l), (4, .pointer (some ⟨b1, 0, none⟩)), (6, .int .i64 (x.k : Nat))]) (⟨0, .slice pl n cl, .slice pv vs.length cv, []⟩)) ⟨rfl, rfl, rfl, rfl, trivial⟩ (Yy (X := KpL) (fun x : KpL => [(0, .pointer (some ⟨b, 0, none⟩)), (1, x.l), (4, .pointer (some ⟨b1, 0, none⟩)), (6, .int .i64 (x.k : Nat))]) _ _ (fun x : KpL => [(b1, inMk (vs.length / 4)), (b, bkC vT x.v vF vM vH vR)]) (fun x : KpL => (grpA 75 7 (inMk (vs.length / 4)) x.l (n + x.k) x.us).and ((ownA 76 1 x.v (vs.length + x.k) (vs ++ x.us)).and (keptA inMk vs))) (fun x : KpL => x.k ≤ 4 ∧ x.us.length = x.k) (fun x : KpL => 4 - x.k) (⟨0, .slice pl n cl, .slice pv vs.length cv, []⟩) (⟨Nat.zero_le _, rfl⟩) ?_)
  intro x hI
  obtain ⟨zk, zl, zv, zu⟩ := x
  obtain ⟨hk4, hkl⟩ : zk ≤ 4 ∧ zu.length = zk := hI
  have hkk0 : (KpL.mk zk zl zv zu).k = zk := rfl
  have huu0 : (KpL.mk zk zl zv zu).us.length = zu.length := rfl
  refine Zf (Zf (Zb (Za rfl (Zd rfl) (Za rfl (Xb rfl rfl) (Ze ?_)))))
  refine Zc (Yi rfl ?_ ?_)
  ·intro c2
   try (first | replace c2 := dTr c2 | replace c2 := Zk c2)
   refine Zw (Zc (Zf (Zs (Zf (WC_know (p := ∃ p n c, zl = .slice p n c) (fun w hs => Xl hs.res.1.1) ?_)))))
   rintro ⟨pz, nz, cz, hzl⟩; subst hzl
   have hkk : (KpL.mk zk (.slice pz nz cz) zv zu).k = zk := rfl
   refine WC_imp (Asr.swap _ _ _) (Zb (Za rfl (Zd rfl) (Za rfl (Zd rfl) (Za rfl (Ys rfl) (Za rfl (Zh (ff rfl) rfl) ?_)))))
   refine Za rfl (Zh (ff rfl) rfl) (Za rfl (Zj (t1 rfl) rfl (Zl 1 rfl rfl)) (Za rfl (Zd rfl) (WL_bs rfl (ts rfl) (tz rfl) rfl rfl rfl rfl rfl ?_)))
   intro b2 hb2
   refine WL_app rfl (ta rfl) rfl rfl (Yj 0 rfl) rfl rfl (by unfold maxLen; omega) (by omega) ?_
   intro v1
   refine Za rfl (Ys rfl) (Za rfl (Zh (ff rfl) rfl) (Za rfl (Zh (ff rfl) rfl) (Xz (p := ∃ p l c, v1 = .slice p l c) (fun w hs => Xl hs.res.1) ?_)))
   rintro ⟨p3, l3, c3', hv1⟩; subst hv1
   refine Xd (t1 rfl) rfl rfl 2 rfl rfl rfl rfl (Ze (Zc (Zf (WC_imp (Asr.swap _ _ _) (Zb ?_)))))
   refine Za rfl (Zd rfl) (Za rfl (Yb (tn rfl) rfl 1 rfl rfl) (WL_bs rfl (ts rfl) (tz rfl) rfl rfl rfl rfl rfl ?_))
   intro b3 hb3
   refine WL_appG rfl (ta rfl) rfl rfl (Yj (cs := inMk (vs.length / 4)) 0 rfl) rfl rfl (by unfold maxLen; omega) (by omega) ?_
   intro v2
   refine Za rfl (Zg rfl) (Ze (Zc (Zb (Za rfl (Zd rfl) (Za rfl (Zg rfl) ?_)))))
   refine Ze (Zx (Zc (Zb (Za rfl (Zd rfl) ?_))))
   (first | (refine Za rfl (Xa rfl rfl ?_) ?_; omega) | (refine Za rfl (Yp rfl rfl ?_) ?_; omega) | refine Za rfl (Yz rfl rfl) ?_)
   refine Za rfl (Zg rfl) (Ze ?_)
   refine Yn (⟨zk + 1, v2, .slice p3 l3 c3', zu ++ [.slice pz nz cz]⟩) ?_ (⟨by show zk + 1 ≤ 4; omega, by show (zu ++ [Value.slice pz nz cz]).length = zk + 1; rw [List.length_append, hkl]; rfl⟩) 2 rfl (by show (grpA 75 7 (inMk (vs.length / 4)) v2 (n + (zk + 1)) _).and ((ownA 76 1 _ (vs.length + (zk + 1)) (vs ++ (zu ++ [Value.slice pz nz cz]))).and _) = _; rw [← List.append_assoc]; rfl) ⟨rfl, rfl, rfl, rfl, trivial⟩
   show 4 - (zk + 1) < 4 - zk; omega
  ·intro c2
   try (first | replace c2 := dFa c2 | replace c2 := Zi c2)
   refine Yx (Yw (Yo (Yv (WQ_imp ((Asr.swap _ _ _).trans (Asr.Imp.right (grp_last h4 (by omega)))) (Rk_end0 rfl 1 rfl ?_)))))
   exact ⟨zv, zu, by omega, rfl, by show ((ownA 76 1 zv (vs.length + zk) (vs ++ zu)).and _).Imp _; unfold sortA; rw [List.length_append, hkl]; exact .refl _⟩
theorem keepFields_any (b : Nat) (vT vI vF vM vH vR l : Value) (vs xs : List Value) (n : Nat) (h4 : vs.length % 4 = 0) (hb : vs.length ≤ 1099511627776) (hn : n ≤ 2000000) :
  RkP Tryz.prog 83 #[.pointer (some ⟨b, 0, none⟩), l] b (bkC vT vI vF vM vH vR) ((ownA 128 4 l n xs).and (sortA 22 fdMk vF vs))
   (fun v cs' R' => ∃ v' us, us.length = 4 ∧ cs' = bkC vT vI v' vM vH vR ∧ R'.Imp (sortA 22 fdMk v' (vs ++ us))) := by
 intro w hs0
 obtain ⟨pl, cl, rfl, hpl⟩ := owns_form hs0.res.1
 obtain ⟨pv, cv, rfl, -⟩ := owns_form hs0.res.2.1.1
 have hxl : xs.length = n * 4 := hs0.res.1.1
 replace hpl : Hid _ := hpl
 refine opensF (hs0) (args := [.pointer (some ⟨b, 0, none⟩), .slice pl n cl]) Tryz.func83 rfl Tryz.ntmps83 ?_
 refine Zf (Zb (Za rfl (Zd rfl) (Za rfl (Ys rfl) (Za rfl (Zh (ff rfl) rfl) (Za rfl (Zh (ff rfl) rfl) ?_)))))
 refine Za rfl (Zj (t1 rfl) rfl (Zl 0 rfl rfl)) (Za rfl (Yg (ts rfl) rfl) (Za rfl (Ex_quo rfl rfl rfl) ?_))
 refine WL_same (s := 14) (v' := .int .i64 ((vs.length / 4 : Nat) : Int)) rfl (congrArg (Value.int .i64) (quo4 _ hb)) ?_; refine Xi fn52 rfl rfl (fun w _ => text_any ((vs.length / 4 : Nat) : Int) w) ?_
 refine Za rfl (Xs (tb rfl) rfl rfl) (Xg rfl (tz rfl) ?_)
 intro b1 hb1
 refine Yd (tn rfl) rfl rfl 0 rfl rfl rfl rfl (Ze (Zc (Zf (Zf (Zb ?_)))))
 refine Za rfl (Zg rfl) (Ze (Zc (Zs (WC_res (congrArg (fun z => (ownA 128 4 (.slice pl n cl) n z).and (sortA 22 fdMk (.slice pv vs.length cv) vs)) (show xs = rep (fdMk (vs.length / 4)) 0 ++ xs.drop (0 * 4) from by simp [rep])) ?_))))
 refine Xh (E' := (fun i : Nat => [(0, .pointer (some ⟨b, 0, none⟩)), (1, .slice pl n cl), (4, .pointer (some ⟨b1, 0, none⟩)), (5, .int .i64 (i : Nat))]) (0)) ⟨rfl, rfl, rfl, rfl, trivial⟩ (Yy (X := Nat) (fun i : Nat => [(0, .pointer (some ⟨b, 0, none⟩)), (1, .slice pl n cl), (4, .pointer (some ⟨b1, 0, none⟩)), (5, .int .i64 (i : Nat))]) _ _ (fun i : Nat => [(b1, fdMk (vs.length / 4)), (b, bkC vT vI (.slice pv vs.length cv) vM vH vR)]) (fun i : Nat => (ownA 128 4 (.slice pl n cl) n (rep (fdMk (vs.length / 4)) i ++ xs.drop (i * 4))).and (sortA 22 fdMk (.slice pv vs.length cv) vs)) (fun i : Nat => i ≤ n) (fun i : Nat => n - i) (0) (Nat.zero_le _) ?_)
 intro i hI
 refine Zf (Zf (Zb (Za rfl (Zd rfl) (Za rfl (Zd rfl) (Za rfl (Yg (ts rfl) rfl) ?_)))))
 refine Za rfl (Xb rfl rfl) (Ze (Zc (Yi rfl ?_ ?_)))
 ·intro c1
  try (first | replace c1 := dTr c1 | replace c1 := Zk c1)
  obtain ⟨g, hg⟩ := hpl.out (by omega)
  subst hg
  refine Zw (Zc (Zf (Zs (Zb (Za rfl (Zd rfl) ?_)))))
  refine Za rfl (Zd rfl) (Za rfl (Yb (tn rfl) rfl 0 rfl rfl) (Za rfl (Xk (ts rfl) rfl rfl ?_) ?_))
  ·omega
  refine WL_storeRow (tn rfl) rfl rfl rfl rfl (by show 0 + i * 4 + 4 ≤ n * 4; omega) ?_
  refine Ze (Zx (Zc (Zb (Za rfl (Zd rfl) ?_))))
  (first | (refine Za rfl (Xa rfl rfl ?_) ?_; omega) | (refine Za rfl (Yp rfl rfl ?_) ?_; omega) | refine Za rfl (Yz rfl rfl) ?_)
  refine Za rfl (Zg rfl) (Ze ?_)
  refine Yn (i + 1) ?_ (by omega) 0 rfl (by show (ownA 128 4 _ _ _).and _ = (ownA 128 4 _ _ _).and _; rw [Nat.zero_add]; exact congrArg (fun z => (ownA 128 4 (.slice (some ⟨g, 0, none⟩) n cl) n z).and (sortA 22 fdMk (.slice pv vs.length cv) vs)) (put_rep (m := fdMk (vs.length / 4)) (by show (i + 1) * 4 ≤ xs.length; omega)).symm) ⟨rfl, rfl, rfl, rfl, trivial⟩
  omega
 ·intro c1
  try (first | replace c1 := dFa c1 | replace c1 := Zi c1)
  refine Yx (Yw (Yo (Yv (Zc (Zf ?_)))))
  refine WC_res (congrArg (fun z => (ownA 128 4 (.slice pl n cl) n z).and (sortA 22 fdMk (.slice pv vs.length cv) vs)) (show _ = rep (fdMk (vs.length / 4)) n from by rw [show i = n by omega, List.drop_of_length_le (by omega), List.append_nil])) ?_
  refine WC_imp (Asr.Imp.left grp_first) (Zb (Za rfl (Zg rfl) (Ze (Zc (Zs ?_)))))
  refine WC_res (R' := (grpA 128 4 (fdMk (vs.length / 4)) (.slice pl n cl) (n + 0) []).and ((ownA 22 1 (.slice pv vs.length cv) (vs.length + 0) (vs ++ [])).and (keptA fdMk vs))) (by rw [List.append_nil]; rfl) ?_
  refine Xh (E' := (fun x : KpL => [(0, .pointer (some ⟨b, 0, none⟩)), (1, x.l), (4, .pointer (some ⟨b1, 0, none⟩)), (6, .int .i64 (x.k : Nat))]) (⟨0, .slice pl n cl, .slice pv vs.length cv, []⟩)) ⟨rfl, rfl, rfl, rfl, trivial⟩ (Yy (X := KpL) (fun x : KpL => [(0, .pointer (some ⟨b, 0, none⟩)), (1, x.l), (4, .pointer (some ⟨b1, 0, none⟩)), (6, .int .i64 (x.k : Nat))]) _ _ (fun x : KpL => [(b1, fdMk (vs.length / 4)), (b, bkC vT vI x.v vM vH vR)]) (fun x : KpL => (grpA 128 4 (fdMk (vs.length / 4)) x.l (n + x.k) x.us).and ((ownA 22 1 x.v (vs.length + x.k) (vs ++ x.us)).and (keptA fdMk vs))) (fun x : KpL => x.k ≤ 4 ∧ x.us.length = x.k) (fun x : KpL => 4 - x.k) (⟨0, .slice pl n cl, .slice pv vs.length cv, []⟩) (⟨Nat.zero_le _, rfl⟩) ?_)
  intro x hI
  obtain ⟨zk, zl, zv, zu⟩ := x
  obtain ⟨hk4, hkl⟩ : zk ≤ 4 ∧ zu.length = zk := hI
  have hkk0 : (KpL.mk zk zl zv zu).k = zk := rfl
  have huu0 : (KpL.mk zk zl zv zu).us.length = zu.length := rfl
  refine Zf (Zf (Zb (Za rfl (Zd rfl) (Za rfl (Xb rfl rfl) (Ze ?_)))))
  refine Zc (Yi rfl ?_ ?_)
  ·intro c2
   try (first | replace c2 := dTr c2 | replace c2 := Zk c2)
   refine Zw (Zc (Zf (Zs (Zf (WC_know (p := ∃ p n c, zl = .slice p n c) (fun w hs => Xl hs.res.1.1) ?_)))))
   rintro ⟨pz, nz, cz, hzl⟩; subst hzl
   have hkk : (KpL.mk zk (.slice pz nz cz) zv zu).k = zk := rfl
   refine WC_imp (Asr.swap _ _ _) (Zb (Za rfl (Zd rfl) (Za rfl (Zd rfl) (Za rfl (Ys rfl) (Za rfl (Zh (ff rfl) rfl) ?_)))))
   refine Za rfl (Zh (ff rfl) rfl) (Za rfl (Zj (t1 rfl) rfl (Zl 1 rfl rfl)) (Za rfl (Zd rfl) (WL_bs rfl (ts rfl) (tz rfl) rfl rfl rfl rfl rfl ?_)))
   intro b2 hb2
   refine WL_app rfl (ta rfl) rfl rfl (Yj 0 rfl) rfl rfl (by unfold maxLen; omega) (by omega) ?_
   intro v1
   refine Za rfl (Ys rfl) (Za rfl (Zh (ff rfl) rfl) (Za rfl (Zh (ff rfl) rfl) (Xz (p := ∃ p l c, v1 = .slice p l c) (fun w hs => Xl hs.res.1) ?_)))
   rintro ⟨p3, l3, c3', hv1⟩; subst hv1
   refine Xd (t1 rfl) rfl rfl 2 rfl rfl rfl rfl (Ze (Zc (Zf (WC_imp (Asr.swap _ _ _) (Zb ?_)))))
   refine Za rfl (Zd rfl) (Za rfl (Yb (tn rfl) rfl 1 rfl rfl) (WL_bs rfl (ts rfl) (tz rfl) rfl rfl rfl rfl rfl ?_))
   intro b3 hb3
   refine WL_appG rfl (ta rfl) rfl rfl (Yj (cs := fdMk (vs.length / 4)) 0 rfl) rfl rfl (by unfold maxLen; omega) (by omega) ?_
   intro v2
   refine Za rfl (Zg rfl) (Ze (Zc (Zb (Za rfl (Zd rfl) (Za rfl (Zg rfl) ?_)))))
   refine Ze (Zx (Zc (Zb (Za rfl (Zd rfl) ?_))))
   (first | (refine Za rfl (Xa rfl rfl ?_) ?_; omega) | (refine Za rfl (Yp rfl rfl ?_) ?_; omega) | refine Za rfl (Yz rfl rfl) ?_)
   refine Za rfl (Zg rfl) (Ze ?_)
   refine Yn (⟨zk + 1, v2, .slice p3 l3 c3', zu ++ [.slice pz nz cz]⟩) ?_ (⟨by show zk + 1 ≤ 4; omega, by show (zu ++ [Value.slice pz nz cz]).length = zk + 1; rw [List.length_append, hkl]; rfl⟩) 2 rfl (by show (grpA 128 4 (fdMk (vs.length / 4)) v2 (n + (zk + 1)) _).and ((ownA 22 1 _ (vs.length + (zk + 1)) (vs ++ (zu ++ [Value.slice pz nz cz]))).and _) = _; rw [← List.append_assoc]; rfl) ⟨rfl, rfl, rfl, rfl, trivial⟩
   show 4 - (zk + 1) < 4 - zk; omega
  ·intro c2
   try (first | replace c2 := dFa c2 | replace c2 := Zi c2)
   refine Yx (Yw (Yo (Yv (WQ_imp ((Asr.swap _ _ _).trans (Asr.Imp.right (grp_last h4 (by omega)))) (Rk_end0 rfl 1 rfl ?_)))))
   exact ⟨zv, zu, by omega, rfl, by show ((ownA 22 1 zv (vs.length + zk) (vs ++ zu)).and _).Imp _; unfold sortA; rw [List.length_append, hkl]; exact .refl _⟩
theorem keepMethods_any (b : Nat) (vT vI vF vM vH vR l : Value) (vs xs : List Value) (n : Nat) (h4 : vs.length % 4 = 0) (hb : vs.length ≤ 1099511627776) (hn : n ≤ 2000000) :
  RkP Tryz.prog 86 #[.pointer (some ⟨b, 0, none⟩), l] b (bkC vT vI vF vM vH vR) ((ownA 134 10 l n xs).and (sortA 23 meMk vM vs))
   (fun v cs' R' => ∃ v' us, us.length = 4 ∧ cs' = bkC vT vI vF v' vH vR ∧ R'.Imp (sortA 23 meMk v' (vs ++ us))) := by
 intro w hs0
 obtain ⟨pl, cl, rfl, hpl⟩ := owns_form hs0.res.1
 obtain ⟨pv, cv, rfl, -⟩ := owns_form hs0.res.2.1.1
 have hxl : xs.length = n * 10 := hs0.res.1.1
 replace hpl : Hid _ := hpl
 refine opensF (hs0) (args := [.pointer (some ⟨b, 0, none⟩), .slice pl n cl]) Tryz.func86 rfl Tryz.ntmps86 ?_
 refine Zf (Zb (Za rfl (Zd rfl) (Za rfl (Ys rfl) (Za rfl (Zh (ff rfl) rfl) (Za rfl (Zh (ff rfl) rfl) ?_)))))
 refine Za rfl (Zj (t1 rfl) rfl (Zl 0 rfl rfl)) (Za rfl (Yg (ts rfl) rfl) (Za rfl (Ex_quo rfl rfl rfl) ?_))
 refine WL_same (s := 14) (v' := .int .i64 ((vs.length / 4 : Nat) : Int)) rfl (congrArg (Value.int .i64) (quo4 _ hb)) ?_; refine Xi fn52 rfl rfl (fun w _ => text_any ((vs.length / 4 : Nat) : Int) w) ?_
 refine Za rfl (Xs (tb rfl) rfl rfl) (Xg rfl (tz rfl) ?_)
 intro b1 hb1
 refine Yd (tn rfl) rfl rfl 0 rfl rfl rfl rfl (Ze (Zc (Zf (Zf (Zb ?_)))))
 refine Za rfl (Zg rfl) (Ze (Zc (Zs (WC_res (congrArg (fun z => (ownA 134 10 (.slice pl n cl) n z).and (sortA 23 meMk (.slice pv vs.length cv) vs)) (show xs = rep (meMk (vs.length / 4)) 0 ++ xs.drop (0 * 10) from by simp [rep])) ?_))))
 refine Xh (E' := (fun i : Nat => [(0, .pointer (some ⟨b, 0, none⟩)), (1, .slice pl n cl), (4, .pointer (some ⟨b1, 0, none⟩)), (5, .int .i64 (i : Nat))]) (0)) ⟨rfl, rfl, rfl, rfl, trivial⟩ (Yy (X := Nat) (fun i : Nat => [(0, .pointer (some ⟨b, 0, none⟩)), (1, .slice pl n cl), (4, .pointer (some ⟨b1, 0, none⟩)), (5, .int .i64 (i : Nat))]) _ _ (fun i : Nat => [(b1, meMk (vs.length / 4)), (b, bkC vT vI vF (.slice pv vs.length cv) vH vR)]) (fun i : Nat => (ownA 134 10 (.slice pl n cl) n (rep (meMk (vs.length / 4)) i ++ xs.drop (i * 10))).and (sortA 23 meMk (.slice pv vs.length cv) vs)) (fun i : Nat => i ≤ n) (fun i : Nat => n - i) (0) (Nat.zero_le _) ?_)
 intro i hI
 refine Zf (Zf (Zb (Za rfl (Zd rfl) (Za rfl (Zd rfl) (Za rfl (Yg (ts rfl) rfl) ?_)))))
 refine Za rfl (Xb rfl rfl) (Ze (Zc (Yi rfl ?_ ?_)))
 ·intro c1
  try (first | replace c1 := dTr c1 | replace c1 := Zk c1)
  obtain ⟨g, hg⟩ := hpl.out (by omega)
  subst hg
  refine Zw (Zc (Zf (Zs (Zb (Za rfl (Zd rfl) ?_)))))
  refine Za rfl (Zd rfl) (Za rfl (Yb (tn rfl) rfl 0 rfl rfl) (Za rfl (Xk (ts rfl) rfl rfl ?_) ?_))
  ·omega
  refine WL_storeRow (tn rfl) rfl rfl rfl rfl (by show 0 + i * 10 + 10 ≤ n * 10; omega) ?_
  refine Ze (Zx (Zc (Zb (Za rfl (Zd rfl) ?_))))
  (first | (refine Za rfl (Xa rfl rfl ?_) ?_; omega) | (refine Za rfl (Yp rfl rfl ?_) ?_; omega) | refine Za rfl (Yz rfl rfl) ?_)
  refine Za rfl (Zg rfl) (Ze ?_)
  refine Yn (i + 1) ?_ (by omega) 0 rfl (by show (ownA 134 10 _ _ _).and _ = (ownA 134 10 _ _ _).and _; rw [Nat.zero_add]; exact congrArg (fun z => (ownA 134 10 (.slice (some ⟨g, 0, none⟩) n cl) n z).and (sortA 23 meMk (.slice pv vs.length cv) vs)) (put_rep (m := meMk (vs.length / 4)) (by show (i + 1) * 10 ≤ xs.length; omega)).symm) ⟨rfl, rfl, rfl, rfl, trivial⟩
  omega
 ·intro c1
  try (first | replace c1 := dFa c1 | replace c1 := Zi c1)
  refine Yx (Yw (Yo (Yv (Zc (Zf ?_)))))
  refine WC_res (congrArg (fun z => (ownA 134 10 (.slice pl n cl) n z).and (sortA 23 meMk (.slice pv vs.length cv) vs)) (show _ = rep (meMk (vs.length / 4)) n from by rw [show i = n by omega, List.drop_of_length_le (by omega), List.append_nil])) ?_
  refine WC_imp (Asr.Imp.left grp_first) (Zb (Za rfl (Zg rfl) (Ze (Zc (Zs ?_)))))
  refine WC_res (R' := (grpA 134 10 (meMk (vs.length / 4)) (.slice pl n cl) (n + 0) []).and ((ownA 23 1 (.slice pv vs.length cv) (vs.length + 0) (vs ++ [])).and (keptA meMk vs))) (by rw [List.append_nil]; rfl) ?_
  refine Xh (E' := (fun x : KpL => [(0, .pointer (some ⟨b, 0, none⟩)), (1, x.l), (4, .pointer (some ⟨b1, 0, none⟩)), (6, .int .i64 (x.k : Nat))]) (⟨0, .slice pl n cl, .slice pv vs.length cv, []⟩)) ⟨rfl, rfl, rfl, rfl, trivial⟩ (Yy (X := KpL) (fun x : KpL => [(0, .pointer (some ⟨b, 0, none⟩)), (1, x.l), (4, .pointer (some ⟨b1, 0, none⟩)), (6, .int .i64 (x.k : Nat))]) _ _ (fun x : KpL => [(b1, meMk (vs.length / 4)), (b, bkC vT vI vF x.v vH vR)]) (fun x : KpL => (grpA 134 10 (meMk (vs.length / 4)) x.l (n + x.k) x.us).and ((ownA 23 1 x.v (vs.length + x.k) (vs ++ x.us)).and (keptA meMk vs))) (fun x : KpL => x.k ≤ 4 ∧ x.us.length = x.k) (fun x : KpL => 4 - x.k) (⟨0, .slice pl n cl, .slice pv vs.length cv, []⟩) (⟨Nat.zero_le _, rfl⟩) ?_)
  intro x hI
  obtain ⟨zk, zl, zv, zu⟩ := x
  obtain ⟨hk4, hkl⟩ : zk ≤ 4 ∧ zu.length = zk := hI
  have hkk0 : (KpL.mk zk zl zv zu).k = zk := rfl
  have huu0 : (KpL.mk zk zl zv zu).us.length = zu.length := rfl
  refine Zf (Zf (Zb (Za rfl (Zd rfl) (Za rfl (Xb rfl rfl) (Ze ?_)))))
  refine Zc (Yi rfl ?_ ?_)
  ·intro c2
   try (first | replace c2 := dTr c2 | replace c2 := Zk c2)
   refine Zw (Zc (Zf (Zs (Zf (WC_know (p := ∃ p n c, zl = .slice p n c) (fun w hs => Xl hs.res.1.1) ?_)))))
   rintro ⟨pz, nz, cz, hzl⟩; subst hzl
   have hkk : (KpL.mk zk (.slice pz nz cz) zv zu).k = zk := rfl
   refine WC_imp (Asr.swap _ _ _) (Zb (Za rfl (Zd rfl) (Za rfl (Zd rfl) (Za rfl (Ys rfl) (Za rfl (Zh (ff rfl) rfl) ?_)))))
   refine Za rfl (Zh (ff rfl) rfl) (Za rfl (Zj (t1 rfl) rfl (Zl 1 rfl rfl)) (Za rfl (Zd rfl) (WL_bs rfl (ts rfl) (tz rfl) rfl rfl rfl rfl rfl ?_)))
   intro b2 hb2
   refine WL_app rfl (ta rfl) rfl rfl (Yj 0 rfl) rfl rfl (by unfold maxLen; omega) (by omega) ?_
   intro v1
   refine Za rfl (Ys rfl) (Za rfl (Zh (ff rfl) rfl) (Za rfl (Zh (ff rfl) rfl) (Xz (p := ∃ p l c, v1 = .slice p l c) (fun w hs => Xl hs.res.1) ?_)))
   rintro ⟨p3, l3, c3', hv1⟩; subst hv1
   refine Xd (t1 rfl) rfl rfl 2 rfl rfl rfl rfl (Ze (Zc (Zf (WC_imp (Asr.swap _ _ _) (Zb ?_)))))
   refine Za rfl (Zd rfl) (Za rfl (Yb (tn rfl) rfl 1 rfl rfl) (WL_bs rfl (ts rfl) (tz rfl) rfl rfl rfl rfl rfl ?_))
   intro b3 hb3
   refine WL_appG rfl (ta rfl) rfl rfl (Yj (cs := meMk (vs.length / 4)) 0 rfl) rfl rfl (by unfold maxLen; omega) (by omega) ?_
   intro v2
   refine Za rfl (Zg rfl) (Ze (Zc (Zb (Za rfl (Zd rfl) (Za rfl (Zg rfl) ?_)))))
   refine Ze (Zx (Zc (Zb (Za rfl (Zd rfl) ?_))))
   (first | (refine Za rfl (Xa rfl rfl ?_) ?_; omega) | (refine Za rfl (Yp rfl rfl ?_) ?_; omega) | refine Za rfl (Yz rfl rfl) ?_)
   refine Za rfl (Zg rfl) (Ze ?_)
   refine Yn (⟨zk + 1, v2, .slice p3 l3 c3', zu ++ [.slice pz nz cz]⟩) ?_ (⟨by show zk + 1 ≤ 4; omega, by show (zu ++ [Value.slice pz nz cz]).length = zk + 1; rw [List.length_append, hkl]; rfl⟩) 2 rfl (by show (grpA 134 10 (meMk (vs.length / 4)) v2 (n + (zk + 1)) _).and ((ownA 23 1 _ (vs.length + (zk + 1)) (vs ++ (zu ++ [Value.slice pz nz cz]))).and _) = _; rw [← List.append_assoc]; rfl) ⟨rfl, rfl, rfl, rfl, trivial⟩
   show 4 - (zk + 1) < 4 - zk; omega
  ·intro c2
   try (first | replace c2 := dFa c2 | replace c2 := Zi c2)
   refine Yx (Yw (Yo (Yv (WQ_imp ((Asr.swap _ _ _).trans (Asr.Imp.right (grp_last h4 (by omega)))) (Rk_end0 rfl 1 rfl ?_)))))
   exact ⟨zv, zu, by omega, rfl, by show ((ownA 23 1 zv (vs.length + zk) (vs ++ zu)).and _).Imp _; unfold sortA; rw [List.length_append, hkl]; exact .refl _⟩
theorem keepHandlers_any (b : Nat) (vT vI vF vM vH vR l : Value) (vs xs : List Value) (n : Nat) (h4 : vs.length % 4 = 0) (hb : vs.length ≤ 1099511627776) (hn : n ≤ 2000000) :
  RkP Tryz.prog 84 #[.pointer (some ⟨b, 0, none⟩), l] b (bkC vT vI vF vM vH vR) ((ownA 169 4 l n xs).and (sortA 131 hdMk vH vs))
   (fun v cs' R' => ∃ v' us, us.length = 4 ∧ cs' = bkC vT vI vF vM v' vR ∧ R'.Imp (sortA 131 hdMk v' (vs ++ us))) := by
 intro w hs0
 obtain ⟨pl, cl, rfl, hpl⟩ := owns_form hs0.res.1
 obtain ⟨pv, cv, rfl, -⟩ := owns_form hs0.res.2.1.1
 have hxl : xs.length = n * 4 := hs0.res.1.1
 replace hpl : Hid _ := hpl
 refine opensF (hs0) (args := [.pointer (some ⟨b, 0, none⟩), .slice pl n cl]) Tryz.func84 rfl Tryz.ntmps84 ?_
 refine Zf (Zb (Za rfl (Zd rfl) (Za rfl (Ys rfl) (Za rfl (Zh (ff rfl) rfl) (Za rfl (Zh (ff rfl) rfl) ?_)))))
 refine Za rfl (Zj (t1 rfl) rfl (Zl 0 rfl rfl)) (Za rfl (Yg (ts rfl) rfl) (Za rfl (Ex_quo rfl rfl rfl) ?_))
 (first | (refine Za rfl (Xa rfl rfl ?_) ?_; omega) | (refine Za rfl (Yp rfl rfl ?_) ?_; omega) | refine Za rfl (Yz rfl rfl) ?_)
 refine WL_same (s := 15) (v' := .int .i64 (100 + ((vs.length / 4 : Nat) : Int))) rfl (congrArg (Value.int .i64) (by rw [quo4 _ hb]; exact wrap_in _ (by omega))) ?_
 refine Za rfl (Xs (tb rfl) rfl rfl) (Xg rfl (tz rfl) ?_)
 intro b1 hb1
 refine Yd (tn rfl) rfl rfl 0 rfl rfl rfl rfl (Ze (Zc (Zf (Zf (Zb ?_)))))
 refine Za rfl (Zg rfl) (Ze (Zc (Zs (WC_res (congrArg (fun z => (ownA 169 4 (.slice pl n cl) n z).and (sortA 131 hdMk (.slice pv vs.length cv) vs)) (show xs = rep (hdMk (vs.length / 4)) 0 ++ xs.drop (0 * 4) from by simp [rep])) ?_))))
 refine Xh (E' := (fun i : Nat => [(0, .pointer (some ⟨b, 0, none⟩)), (1, .slice pl n cl), (4, .pointer (some ⟨b1, 0, none⟩)), (5, .int .i64 (i : Nat))]) (0)) ⟨rfl, rfl, rfl, rfl, trivial⟩ (Yy (X := Nat) (fun i : Nat => [(0, .pointer (some ⟨b, 0, none⟩)), (1, .slice pl n cl), (4, .pointer (some ⟨b1, 0, none⟩)), (5, .int .i64 (i : Nat))]) _ _ (fun i : Nat => [(b1, hdMk (vs.length / 4)), (b, bkC vT vI vF vM (.slice pv vs.length cv) vR)]) (fun i : Nat => (ownA 169 4 (.slice pl n cl) n (rep (hdMk (vs.length / 4)) i ++ xs.drop (i * 4))).and (sortA 131 hdMk (.slice pv vs.length cv) vs)) (fun i : Nat => i ≤ n) (fun i : Nat => n - i) (0) (Nat.zero_le _) ?_)
 intro i hI
 refine Zf (Zf (Zb (Za rfl (Zd rfl) (Za rfl (Zd rfl) (Za rfl (Yg (ts rfl) rfl) ?_)))))
 refine Za rfl (Xb rfl rfl) (Ze (Zc (Yi rfl ?_ ?_)))
 ·intro c1
  try (first | replace c1 := dTr c1 | replace c1 := Zk c1)
  obtain ⟨g, hg⟩ := hpl.out (by omega)
  subst hg
  refine Zw (Zc (Zf (Zs (Zb (Za rfl (Zd rfl) ?_)))))
  refine Za rfl (Zd rfl) (Za rfl (Yb (tn rfl) rfl 0 rfl rfl) (Za rfl (Xk (ts rfl) rfl rfl ?_) ?_))
  ·omega
  refine WL_storeRow (tn rfl) rfl rfl rfl rfl (by show 0 + i * 4 + 4 ≤ n * 4; omega) ?_
  refine Ze (Zx (Zc (Zb (Za rfl (Zd rfl) ?_))))
  (first | (refine Za rfl (Xa rfl rfl ?_) ?_; omega) | (refine Za rfl (Yp rfl rfl ?_) ?_; omega) | refine Za rfl (Yz rfl rfl) ?_)
  refine Za rfl (Zg rfl) (Ze ?_)
  refine Yn (i + 1) ?_ (by omega) 0 rfl (by show (ownA 169 4 _ _ _).and _ = (ownA 169 4 _ _ _).and _; rw [Nat.zero_add]; exact congrArg (fun z => (ownA 169 4 (.slice (some ⟨g, 0, none⟩) n cl) n z).and (sortA 131 hdMk (.slice pv vs.length cv) vs)) (put_rep (m := hdMk (vs.length / 4)) (by show (i + 1) * 4 ≤ xs.length; omega)).symm) ⟨rfl, rfl, rfl, rfl, trivial⟩
  omega
 ·intro c1
  try (first | replace c1 := dFa c1 | replace c1 := Zi c1)
  refine Yx (Yw (Yo (Yv (Zc (Zf ?_)))))
  refine WC_res (congrArg (fun z => (ownA 169 4 (.slice pl n cl) n z).and (sortA 131 hdMk (.slice pv vs.length cv) vs)) (show _ = rep (hdMk (vs.length / 4)) n from by rw [show i = n by omega, List.drop_of_length_le (by omega), List.append_nil])) ?_
  refine WC_imp (Asr.Imp.left grp_first) (Zb (Za rfl (Zg rfl) (Ze (Zc (Zs ?_)))))
  refine WC_res (R' := (grpA 169 4 (hdMk (vs.length / 4)) (.slice pl n cl) (n + 0) []).and ((ownA 131 1 (.slice pv vs.length cv) (vs.length + 0) (vs ++ [])).and (keptA hdMk vs))) (by rw [List.append_nil]; rfl) ?_
  refine Xh (E' := (fun x : KpL => [(0, .pointer (some ⟨b, 0, none⟩)), (1, x.l), (4, .pointer (some ⟨b1, 0, none⟩)), (6, .int .i64 (x.k : Nat))]) (⟨0, .slice pl n cl, .slice pv vs.length cv, []⟩)) ⟨rfl, rfl, rfl, rfl, trivial⟩ (Yy (X := KpL) (fun x : KpL => [(0, .pointer (some ⟨b, 0, none⟩)), (1, x.l), (4, .pointer (some ⟨b1, 0, none⟩)), (6, .int .i64 (x.k : Nat))]) _ _ (fun x : KpL => [(b1, hdMk (vs.length / 4)), (b, bkC vT vI vF vM x.v vR)]) (fun x : KpL => (grpA 169 4 (hdMk (vs.length / 4)) x.l (n + x.k) x.us).and ((ownA 131 1 x.v (vs.length + x.k) (vs ++ x.us)).and (keptA hdMk vs))) (fun x : KpL => x.k ≤ 4 ∧ x.us.length = x.k) (fun x : KpL => 4 - x.k) (⟨0, .slice pl n cl, .slice pv vs.length cv, []⟩) (⟨Nat.zero_le _, rfl⟩) ?_)
  intro x hI
  obtain ⟨zk, zl, zv, zu⟩ := x
  obtain ⟨hk4, hkl⟩ : zk ≤ 4 ∧ zu.length = zk := hI
  have hkk0 : (KpL.mk zk zl zv zu).k = zk := rfl
  have huu0 : (KpL.mk zk zl zv zu).us.length = zu.length := rfl
  refine Zf (Zf (Zb (Za rfl (Zd rfl) (Za rfl (Xb rfl rfl) (Ze ?_)))))
  refine Zc (Yi rfl ?_ ?_)
  ·intro c2
   try (first | replace c2 := dTr c2 | replace c2 := Zk c2)
   refine Zw (Zc (Zf (Zs (Zf (WC_know (p := ∃ p n c, zl = .slice p n c) (fun w hs => Xl hs.res.1.1) ?_)))))
   rintro ⟨pz, nz, cz, hzl⟩; subst hzl
   have hkk : (KpL.mk zk (.slice pz nz cz) zv zu).k = zk := rfl
   refine WC_imp (Asr.swap _ _ _) (Zb (Za rfl (Zd rfl) (Za rfl (Zd rfl) (Za rfl (Ys rfl) (Za rfl (Zh (ff rfl) rfl) ?_)))))
   refine Za rfl (Zh (ff rfl) rfl) (Za rfl (Zj (t1 rfl) rfl (Zl 1 rfl rfl)) (Za rfl (Zd rfl) (WL_bs rfl (ts rfl) (tz rfl) rfl rfl rfl rfl rfl ?_)))
   intro b2 hb2
   refine WL_app rfl (ta rfl) rfl rfl (Yj 0 rfl) rfl rfl (by unfold maxLen; omega) (by omega) ?_
   intro v1
   refine Za rfl (Ys rfl) (Za rfl (Zh (ff rfl) rfl) (Za rfl (Zh (ff rfl) rfl) (Xz (p := ∃ p l c, v1 = .slice p l c) (fun w hs => Xl hs.res.1) ?_)))
   rintro ⟨p3, l3, c3', hv1⟩; subst hv1
   refine Xd (t1 rfl) rfl rfl 2 rfl rfl rfl rfl (Ze (Zc (Zf (WC_imp (Asr.swap _ _ _) (Zb ?_)))))
   refine Za rfl (Zd rfl) (Za rfl (Yb (tn rfl) rfl 1 rfl rfl) (WL_bs rfl (ts rfl) (tz rfl) rfl rfl rfl rfl rfl ?_))
   intro b3 hb3
   refine WL_appG rfl (ta rfl) rfl rfl (Yj (cs := hdMk (vs.length / 4)) 0 rfl) rfl rfl (by unfold maxLen; omega) (by omega) ?_
   intro v2
   refine Za rfl (Zg rfl) (Ze (Zc (Zb (Za rfl (Zd rfl) (Za rfl (Zg rfl) ?_)))))
   refine Ze (Zx (Zc (Zb (Za rfl (Zd rfl) ?_))))
   (first | (refine Za rfl (Xa rfl rfl ?_) ?_; omega) | (refine Za rfl (Yp rfl rfl ?_) ?_; omega) | refine Za rfl (Yz rfl rfl) ?_)
   refine Za rfl (Zg rfl) (Ze ?_)
   refine Yn (⟨zk + 1, v2, .slice p3 l3 c3', zu ++ [.slice pz nz cz]⟩) ?_ (⟨by show zk + 1 ≤ 4; omega, by show (zu ++ [Value.slice pz nz cz]).length = zk + 1; rw [List.length_append, hkl]; rfl⟩) 2 rfl (by show (grpA 169 4 (hdMk (vs.length / 4)) v2 (n + (zk + 1)) _).and ((ownA 131 1 _ (vs.length + (zk + 1)) (vs ++ (zu ++ [Value.slice pz nz cz]))).and _) = _; rw [← List.append_assoc]; rfl) ⟨rfl, rfl, rfl, rfl, trivial⟩
   show 4 - (zk + 1) < 4 - zk; omega
  ·intro c2
   try (first | replace c2 := dFa c2 | replace c2 := Zi c2)
   refine Yx (Yw (Yo (Yv (WQ_imp ((Asr.swap _ _ _).trans (Asr.Imp.right (grp_last h4 (by omega)))) (Rk_end0 rfl 1 rfl ?_)))))
   exact ⟨zv, zu, by omega, rfl, by show ((ownA 131 1 zv (vs.length + zk) (vs ++ zu)).and _).Imp _; unfold sortA; rw [List.length_append, hkl]; exact .refl _⟩
theorem keepFrames_any (b : Nat) (vT vI vF vM vH vR l : Value) (vs xs : List Value) (n : Nat) (h4 : vs.length % 4 = 0) (hb : vs.length ≤ 1099511627776) (hn : n ≤ 2000000) :
  RkP Tryz.prog 85 #[.pointer (some ⟨b, 0, none⟩), l] b (bkC vT vI vF vM vH vR) ((ownA 176 3 l n xs).and (sortA 132 frMk vR vs))
   (fun v cs' R' => ∃ v' us, us.length = 4 ∧ cs' = bkC vT vI vF vM vH v' ∧ R'.Imp (sortA 132 frMk v' (vs ++ us))) := by
 intro w hs0
 obtain ⟨pl, cl, rfl, hpl⟩ := owns_form hs0.res.1
 obtain ⟨pv, cv, rfl, -⟩ := owns_form hs0.res.2.1.1
 have hxl : xs.length = n * 3 := hs0.res.1.1
 replace hpl : Hid _ := hpl
 refine opensF (hs0) (args := [.pointer (some ⟨b, 0, none⟩), .slice pl n cl]) Tryz.func85 rfl Tryz.ntmps85 ?_
 refine Zf (Zb (Za rfl (Zd rfl) (Za rfl (Ys rfl) (Za rfl (Zh (ff rfl) rfl) (Za rfl (Zh (ff rfl) rfl) ?_)))))
 refine Za rfl (Zj (t1 rfl) rfl (Zl 0 rfl rfl)) (Za rfl (Yg (ts rfl) rfl) (Za rfl (Ex_quo rfl rfl rfl) ?_))
 (first | (refine Za rfl (Xa rfl rfl ?_) ?_; omega) | (refine Za rfl (Yp rfl rfl ?_) ?_; omega) | refine Za rfl (Yz rfl rfl) ?_)
 refine WL_same (s := 15) (v' := .int .i64 (100 + ((vs.length / 4 : Nat) : Int))) rfl (congrArg (Value.int .i64) (by rw [quo4 _ hb]; exact wrap_in _ (by omega))) ?_
 refine Za rfl (Xs (tb rfl) rfl rfl) (Xg rfl (tz rfl) ?_)
 intro b1 hb1
 refine Yd (tn rfl) rfl rfl 0 rfl rfl rfl rfl (Ze (Zc (Zf (Zf (Zb ?_)))))
 refine Za rfl (Zg rfl) (Ze (Zc (Zs (WC_res (congrArg (fun z => (ownA 176 3 (.slice pl n cl) n z).and (sortA 132 frMk (.slice pv vs.length cv) vs)) (show xs = rep (frMk (vs.length / 4)) 0 ++ xs.drop (0 * 3) from by simp [rep])) ?_))))
 refine Xh (E' := (fun i : Nat => [(0, .pointer (some ⟨b, 0, none⟩)), (1, .slice pl n cl), (4, .pointer (some ⟨b1, 0, none⟩)), (5, .int .i64 (i : Nat))]) (0)) ⟨rfl, rfl, rfl, rfl, trivial⟩ (Yy (X := Nat) (fun i : Nat => [(0, .pointer (some ⟨b, 0, none⟩)), (1, .slice pl n cl), (4, .pointer (some ⟨b1, 0, none⟩)), (5, .int .i64 (i : Nat))]) _ _ (fun i : Nat => [(b1, frMk (vs.length / 4)), (b, bkC vT vI vF vM vH (.slice pv vs.length cv))]) (fun i : Nat => (ownA 176 3 (.slice pl n cl) n (rep (frMk (vs.length / 4)) i ++ xs.drop (i * 3))).and (sortA 132 frMk (.slice pv vs.length cv) vs)) (fun i : Nat => i ≤ n) (fun i : Nat => n - i) (0) (Nat.zero_le _) ?_)
 intro i hI
 refine Zf (Zf (Zb (Za rfl (Zd rfl) (Za rfl (Zd rfl) (Za rfl (Yg (ts rfl) rfl) ?_)))))
 refine Za rfl (Xb rfl rfl) (Ze (Zc (Yi rfl ?_ ?_)))
 ·intro c1
  try (first | replace c1 := dTr c1 | replace c1 := Zk c1)
  obtain ⟨g, hg⟩ := hpl.out (by omega)
  subst hg
  refine Zw (Zc (Zf (Zs (Zb (Za rfl (Zd rfl) ?_)))))
  refine Za rfl (Zd rfl) (Za rfl (Yb (tn rfl) rfl 0 rfl rfl) (Za rfl (Xk (ts rfl) rfl rfl ?_) ?_))
  ·omega
  refine WL_storeRow (tn rfl) rfl rfl rfl rfl (by show 0 + i * 3 + 3 ≤ n * 3; omega) ?_
  refine Ze (Zx (Zc (Zb (Za rfl (Zd rfl) ?_))))
  (first | (refine Za rfl (Xa rfl rfl ?_) ?_; omega) | (refine Za rfl (Yp rfl rfl ?_) ?_; omega) | refine Za rfl (Yz rfl rfl) ?_)
  refine Za rfl (Zg rfl) (Ze ?_)
  refine Yn (i + 1) ?_ (by omega) 0 rfl (by show (ownA 176 3 _ _ _).and _ = (ownA 176 3 _ _ _).and _; rw [Nat.zero_add]; exact congrArg (fun z => (ownA 176 3 (.slice (some ⟨g, 0, none⟩) n cl) n z).and (sortA 132 frMk (.slice pv vs.length cv) vs)) (put_rep (m := frMk (vs.length / 4)) (by show (i + 1) * 3 ≤ xs.length; omega)).symm) ⟨rfl, rfl, rfl, rfl, trivial⟩
  omega
 ·intro c1
  try (first | replace c1 := dFa c1 | replace c1 := Zi c1)
  refine Yx (Yw (Yo (Yv (Zc (Zf ?_)))))
  refine WC_res (congrArg (fun z => (ownA 176 3 (.slice pl n cl) n z).and (sortA 132 frMk (.slice pv vs.length cv) vs)) (show _ = rep (frMk (vs.length / 4)) n from by rw [show i = n by omega, List.drop_of_length_le (by omega), List.append_nil])) ?_
  refine WC_imp (Asr.Imp.left grp_first) (Zb (Za rfl (Zg rfl) (Ze (Zc (Zs ?_)))))
  refine WC_res (R' := (grpA 176 3 (frMk (vs.length / 4)) (.slice pl n cl) (n + 0) []).and ((ownA 132 1 (.slice pv vs.length cv) (vs.length + 0) (vs ++ [])).and (keptA frMk vs))) (by rw [List.append_nil]; rfl) ?_
  refine Xh (E' := (fun x : KpL => [(0, .pointer (some ⟨b, 0, none⟩)), (1, x.l), (4, .pointer (some ⟨b1, 0, none⟩)), (6, .int .i64 (x.k : Nat))]) (⟨0, .slice pl n cl, .slice pv vs.length cv, []⟩)) ⟨rfl, rfl, rfl, rfl, trivial⟩ (Yy (X := KpL) (fun x : KpL => [(0, .pointer (some ⟨b, 0, none⟩)), (1, x.l), (4, .pointer (some ⟨b1, 0, none⟩)), (6, .int .i64 (x.k : Nat))]) _ _ (fun x : KpL => [(b1, frMk (vs.length / 4)), (b, bkC vT vI vF vM vH x.v)]) (fun x : KpL => (grpA 176 3 (frMk (vs.length / 4)) x.l (n + x.k) x.us).and ((ownA 132 1 x.v (vs.length + x.k) (vs ++ x.us)).and (keptA frMk vs))) (fun x : KpL => x.k ≤ 4 ∧ x.us.length = x.k) (fun x : KpL => 4 - x.k) (⟨0, .slice pl n cl, .slice pv vs.length cv, []⟩) (⟨Nat.zero_le _, rfl⟩) ?_)
  intro x hI
  obtain ⟨zk, zl, zv, zu⟩ := x
  obtain ⟨hk4, hkl⟩ : zk ≤ 4 ∧ zu.length = zk := hI
  have hkk0 : (KpL.mk zk zl zv zu).k = zk := rfl
  have huu0 : (KpL.mk zk zl zv zu).us.length = zu.length := rfl
  refine Zf (Zf (Zb (Za rfl (Zd rfl) (Za rfl (Xb rfl rfl) (Ze ?_)))))
  refine Zc (Yi rfl ?_ ?_)
  ·intro c2
   try (first | replace c2 := dTr c2 | replace c2 := Zk c2)
   refine Zw (Zc (Zf (Zs (Zf (WC_know (p := ∃ p n c, zl = .slice p n c) (fun w hs => Xl hs.res.1.1) ?_)))))
   rintro ⟨pz, nz, cz, hzl⟩; subst hzl
   have hkk : (KpL.mk zk (.slice pz nz cz) zv zu).k = zk := rfl
   refine WC_imp (Asr.swap _ _ _) (Zb (Za rfl (Zd rfl) (Za rfl (Zd rfl) (Za rfl (Ys rfl) (Za rfl (Zh (ff rfl) rfl) ?_)))))
   refine Za rfl (Zh (ff rfl) rfl) (Za rfl (Zj (t1 rfl) rfl (Zl 1 rfl rfl)) (Za rfl (Zd rfl) (WL_bs rfl (ts rfl) (tz rfl) rfl rfl rfl rfl rfl ?_)))
   intro b2 hb2
   refine WL_app rfl (ta rfl) rfl rfl (Yj 0 rfl) rfl rfl (by unfold maxLen; omega) (by omega) ?_
   intro v1
   refine Za rfl (Ys rfl) (Za rfl (Zh (ff rfl) rfl) (Za rfl (Zh (ff rfl) rfl) (Xz (p := ∃ p l c, v1 = .slice p l c) (fun w hs => Xl hs.res.1) ?_)))
   rintro ⟨p3, l3, c3', hv1⟩; subst hv1
   refine Xd (t1 rfl) rfl rfl 2 rfl rfl rfl rfl (Ze (Zc (Zf (WC_imp (Asr.swap _ _ _) (Zb ?_)))))
   refine Za rfl (Zd rfl) (Za rfl (Yb (tn rfl) rfl 1 rfl rfl) (WL_bs rfl (ts rfl) (tz rfl) rfl rfl rfl rfl rfl ?_))
   intro b3 hb3
   refine WL_appG rfl (ta rfl) rfl rfl (Yj (cs := frMk (vs.length / 4)) 0 rfl) rfl rfl (by unfold maxLen; omega) (by omega) ?_
   intro v2
   refine Za rfl (Zg rfl) (Ze (Zc (Zb (Za rfl (Zd rfl) (Za rfl (Zg rfl) ?_)))))
   refine Ze (Zx (Zc (Zb (Za rfl (Zd rfl) ?_))))
   (first | (refine Za rfl (Xa rfl rfl ?_) ?_; omega) | (refine Za rfl (Yp rfl rfl ?_) ?_; omega) | refine Za rfl (Yz rfl rfl) ?_)
   refine Za rfl (Zg rfl) (Ze ?_)
   refine Yn (⟨zk + 1, v2, .slice p3 l3 c3', zu ++ [.slice pz nz cz]⟩) ?_ (⟨by show zk + 1 ≤ 4; omega, by show (zu ++ [Value.slice pz nz cz]).length = zk + 1; rw [List.length_append, hkl]; rfl⟩) 2 rfl (by show (grpA 176 3 (frMk (vs.length / 4)) v2 (n + (zk + 1)) _).and ((ownA 132 1 _ (vs.length + (zk + 1)) (vs ++ (zu ++ [Value.slice pz nz cz]))).and _) = _; rw [← List.append_assoc]; rfl) ⟨rfl, rfl, rfl, rfl, trivial⟩
   show 4 - (zk + 1) < 4 - zk; omega
  ·intro c2
   try (first | replace c2 := dFa c2 | replace c2 := Zi c2)
   refine Yx (Yw (Yo (Yv (WQ_imp ((Asr.swap _ _ _).trans (Asr.Imp.right (grp_last h4 (by omega)))) (Rk_end0 rfl 1 rfl ?_)))))
   exact ⟨zv, zu, by omega, rfl, by show ((ownA 132 1 zv (vs.length + zk) (vs ++ zu)).and _).Imp _; unfold sortA; rw [List.length_append, hkl]; exact .refl _⟩
end Go.Proofs.YtpofmnfkdkmieaaGreat
