/- What is proved here: the statement's looking: every list that was kept still reads as its owner wrote it. -/
import Derived.Test.YtpofmnfkdkmieaaGreatQ33
set_option linter.unusedVariables false
set_option linter.unusedSimpArgs false
namespace Go.Proofs.YtpofmnfkdkmieaaGreat
open Go Go.RowKit At E
theorem inssAt_nil (w : World) : InssAt w nilS [] := ⟨none, 0, rfl, ⟨by simp, by simp⟩, fun i x hi => by simp at hi⟩
theorem hdsAt_nil (w : World) : HdsAt w nilS [] := ⟨none, 0, rfl, ⟨by simp, by simp⟩, fun i x hi => by simp at hi⟩
theorem frsAt_nil (w : World) : FrsAt w nilS [] := ⟨none, 0, rfl, ⟨by simp, by simp⟩, fun i x hi => by simp at hi⟩
theorem textS_ok (n : Int) : strOk (textS n) := by
 have : (textS n).size = 5 := by unfold textS; rw [ByteArray.size_append]; rfl
 unfold strOk; omega
def me0 (s : ByteArray) : Me := ⟨s, false, [], ⟨0, mt⟩, 0, 0, [], [], []⟩
theorem me0_parts (n : Int) (w : World) : MeParts w (me0 (textS n)) nilS nilS nilS nilS := ⟨tysAt_nil w, inssAt_nil w, hdsAt_nil w, frsAt_nil w, textS_ok n, tyOk_0, Yc, Yc⟩
set_option maxHeartbeats 4000000 in
theorem looks_any (b : Nat) (bk : Bk) (w : World) (hk : BookAt w b bk) : Pure Tryz.prog 16 #[.pointer (some ⟨b, 0, none⟩)] w (.bool true) := by
 have hcode : ∀ w' : World, Below w.heap.size w w' → Pure Tryz.prog 51 #[.pointer (some ⟨b, 0, none⟩)] w' (.bool true) := fun w' hb => code_any b bk w' (hk.mono hb)
 replace hcode : Hid _ := hcode
 obtain ⟨vT, vI, vF, vM, vH, vR, sT, sI, sF, sM, sH, sR⟩ := bk
 have hbc := hk.cells
 have hblt := hk.lt
 obtain ⟨pT, cT, hvT, hnT, hyT⟩ := hk.t.is
 obtain ⟨pI, cI, hvI, hnI, hyI⟩ := hk.i.is
 obtain ⟨pF, cF, hvF, hnF, hyF⟩ := hk.f.is
 obtain ⟨pM, cM, hvM, hnM, hyM⟩ := hk.m.is
 obtain ⟨pH, cH, hvH, hnH, hyH⟩ := hk.h.is
 obtain ⟨pR, cR, hvR, hnR, hyR⟩ := hk.r.is
 clear hk
 dsimp only at hvT hnT hyT hvI hnI hyI hvF hnF hyF hvM hnM hyM hvH hnH hyH hvR hnR hyR hbc
 subst hvT
 subst hvI
 subst hvF
 subst hvM
 subst hvH
 subst hvR
 replace hyT : Hid _ := hyT
 replace hyI : Hid _ := hyI
 replace hyF : Hid _ := hyF
 replace hyM : Hid _ := hyM
 replace hyH : Hid _ := hyH
 replace hyR : Hid _ := hyR
 replace hbc : ∀ j x, (bkC (.slice pT sT.length cT) (.slice pI sI.length cI) (.slice pF sF.length cF) (.slice pM sM.length cM) (.slice pH sH.length cH) (.slice pR sR.length cR))[j]? = some x → w.cell? ⟨b, j, none⟩ = some x := hbc
 refine opens (args := [.pointer (some ⟨b, 0, none⟩)]) Tryz.func16 rfl Tryz.ntmps16 ?_
 refine Zf (Zb (Za rfl (Zg rfl) (Ze (Zc (Zf ?_)))))
 refine Zb (Za rfl (Zd rfl) (Xi fn51 rfl rfl (fun w' hs => hcode.out w' (lowOf hs)) ?_))
 refine Za rfl (Zg rfl) (Ze (Zc (Zf (Zf (Zb ?_)))))
 refine Za rfl (Zg rfl) (Ze (Zc (Zs (Xh (E' := (fun i1 : Nat => [(0, .pointer (some ⟨b, 0, none⟩)), (3, .bool true), (4, .int .i64 (i1 : Nat))]) (0)) ⟨rfl, rfl, rfl, trivial⟩ (Yy (X := Nat) (fun i1 : Nat => [(0, .pointer (some ⟨b, 0, none⟩)), (3, .bool true), (4, .int .i64 (i1 : Nat))]) _ _ (fun i1 : Nat => []) (fun i1 : Nat => Asr.none) (fun i1 : Nat => i1 ≤ sF.length) (fun i1 : Nat => sF.length - i1) (0) (Nat.zero_le _) ?_)))))
 intro i1 hI
 refine Zf (Zf (Zb (Za rfl (Zd rfl) (Za rfl (Zd rfl) (Za rfl (Ys rfl) ?_)))))
 refine Za rfl (Zh (ff rfl) rfl) (Za rfl (Zh (ff rfl) rfl) (Za rfl (Zj (t1 rfl) rfl (Zn (hbc 2 _ rfl) hblt)) (Za rfl (Yg (ts rfl) rfl) (Za rfl (Xb rfl rfl) (Za rfl (Zd rfl) ?_)))))
 refine Yr rfl rfl rfl ?_ ?_
 ·intro h1
  try (first | replace h1 := dTr h1 | replace h1 := Zk h1)
  have hiF : i1 < sF.length := by omega
  obtain ⟨uF, huF⟩ : ∃ u, sF[i1]? = some u := ⟨_, List.getElem?_eq_getElem hiF⟩
  obtain ⟨gF, hgF, hlF, hcF, puF, nuF, cuF, hueF, hubF, hmF⟩ := hyF.out i1 uF huF
  subst hgF; subst hueF
  unfold maxLen at hubF
  refine Zo rfl rfl rfl (Zd rfl) (Za rfl (Zt rfl rfl) (Ze (Zc (Xq rfl (Zw ?_)))))
  refine Zc (Zf (Zs (Zf (Zb (Za rfl (Zg rfl) ?_)))))
  refine Ze (Zc (Zs (Xh (E' := (fun k1 : Nat => [(0, .pointer (some ⟨b, 0, none⟩)), (3, .bool true), (4, .int .i64 (i1 : Nat)), (5, .int .i64 (k1 : Nat))]) (0)) ⟨rfl, rfl, rfl, rfl, trivial⟩ (Yy (X := Nat) (fun k1 : Nat => [(0, .pointer (some ⟨b, 0, none⟩)), (3, .bool true), (4, .int .i64 (i1 : Nat)), (5, .int .i64 (k1 : Nat))]) _ _ (fun k1 : Nat => []) (fun k1 : Nat => Asr.none) (fun k1 : Nat => k1 ≤ nuF) (fun k1 : Nat => nuF - k1) (0) (Nat.zero_le _) ?_))))
  intro k1 hI
  refine Zf (Zf (Zb (Za rfl (Zd rfl) (Za rfl (Zd rfl) (Za rfl (Ys rfl) ?_)))))
  refine Za rfl (Zh (ff rfl) rfl) (Za rfl (Zh (ff rfl) rfl) ?_)
  (first | refine Za rfl (Zj (t1 rfl) rfl (Zn (hbc 2 _ rfl) hblt)) ?_ | refine Za rfl (Zj (t1 rfl) rfl (Zn hcF hlF)) ?_)
  refine Za rfl (Zd rfl) (Za rfl (Xk (ts rfl) rfl rfl ?_) ?_)
  ·omega
  (first | refine Za rfl (Zj (t1 rfl) rfl (Zn (hbc 2 _ rfl) hblt)) ?_ | refine Za rfl (Zj (t1 rfl) rfl (Zn hcF hlF)) ?_)
  refine Za rfl (Yg (ts rfl) rfl) (Za rfl (Xb rfl rfl) (Ze (Zc (Yi rfl ?_ ?_))))
  ·intro c2
   try (first | replace c2 := dTr c2 | replace c2 := Zk c2)
   obtain ⟨qF, hqF, hqlF, hqcF⟩ := hmF k1 (by omega)
   subst hqF
   refine Zw (Zc (Zf (Zs (WC_draw mixed (by kernel_rfl) ?_))))
   refine Zm rfl (Zd rfl) (Zm rfl (Zd rfl) (Yf rfl rfl rfl (Zd rfl) (Yf rfl rfl rfl (Ys rfl) (Yf rfl rfl rfl (Zh (ff rfl) rfl) (Yf rfl rfl rfl (Zh (ff rfl) rfl) ?_)))))
   (first | refine Yf rfl rfl rfl (Zj (t1 rfl) rfl (Zn (hbc 2 _ rfl) hblt)) ?_ | refine Yf rfl rfl rfl (Zj (t1 rfl) rfl (Zn hcF hlF)) ?_ | refine Yf rfl rfl rfl (Zj (t1 rfl) rfl (Yt hqcF hqlF)) ?_)
   refine Yf rfl rfl rfl (Zd rfl) (Yf rfl rfl rfl (Xk (ts rfl) rfl rfl ?_) ?_)
   ·omega
   (first | refine Yf rfl rfl rfl (Zj (t1 rfl) rfl (Zn (hbc 2 _ rfl) hblt)) ?_ | refine Yf rfl rfl rfl (Zj (t1 rfl) rfl (Zn hcF hlF)) ?_ | refine Yf rfl rfl rfl (Zj (t1 rfl) rfl (Yt hqcF hqlF)) ?_)
   refine Yf rfl rfl rfl (Zd rfl) (Yf rfl rfl rfl (Xk (ts rfl) rfl rfl ?_) ?_)
   ·omega
   (first | refine Yf rfl rfl rfl (Ym (tn rfl) rfl (Zn (hbc 2 _ rfl) hblt) rfl) ?_ | refine Yf rfl rfl rfl (Ym (tn rfl) rfl (Zn hcF hlF) rfl) ?_ | refine Yf rfl rfl rfl (Ym (tn rfl) rfl (Yt hqcF hqlF) rfl) ?_)
   refine Yf rfl rfl rfl (Zd rfl) (Yf rfl rfl rfl (Ex_quo rfl rfl rfl) (WO_same (s := 59) (v' := .int .i64 ((i1 / 4 : Nat) : Int)) rfl (congrArg (Value.int .i64) (quo4 _ (by omega))) ?_))
   refine WO_callYes fn52 rfl rfl rfl rfl (fun w _ => text_any ((i1 / 4 : Nat) : Int) w) ?_
   refine Yf rfl rfl rfl (Xs (tb rfl) rfl rfl) (Yf rfl rfl rfl (Ex_eqlFld1 rfl rfl) (Zm rfl (Zt rfl rfl) (Zm rfl (Zg rfl) (WO_nil (Zx ?_)))))
   refine Zc (Zb (Za rfl (Zd rfl) ?_))
   (first | (refine Za rfl (Xa rfl rfl ?_) ?_; omega) | (refine Za rfl (Yp rfl rfl ?_) ?_; omega) | refine Za rfl (Yz rfl rfl) ?_)
   refine Za rfl (Zg rfl) (Ze ?_)
   refine Yn (k1 + 1) ?_ (by omega) 0 rfl (rfl) ⟨rfl, rfl, rfl, rfl, trivial⟩
   omega
  ·intro c2
   try (first | replace c2 := dFa c2 | replace c2 := Zi c2)
   refine Yx (Yw (Yo (Yv (Zx (Zc ?_)))))
   refine Zb (Za rfl (Zd rfl) ?_)
   (first | (refine Za rfl (Xa rfl rfl ?_) ?_; omega) | (refine Za rfl (Yp rfl rfl ?_) ?_; omega) | refine Za rfl (Yz rfl rfl) ?_)
   refine Za rfl (Zg rfl) (Ze ?_)
   refine Yn (i1 + 1) ?_ (by omega) 0 rfl (rfl) ⟨rfl, rfl, rfl, trivial⟩
   omega
 ·intro h1
  try (first | replace h1 := dFa h1 | replace h1 := Zi h1)
  refine Zp rfl rfl rfl (Za rfl (Zz rfl rfl) (Ze (Zc (WC_false rfl (Yx ?_)))))
  refine Yw (Yo (Yv (Zc (Zf (Zf ?_)))))
  refine Zb (Za rfl (Zg rfl) (Ze (Zc (Zs (Xh (E' := (fun i2 : Nat => [(0, .pointer (some ⟨b, 0, none⟩)), (3, .bool true), (6, .int .i64 (i2 : Nat))]) (0)) ⟨rfl, rfl, rfl, trivial⟩ (Yy (X := Nat) (fun i2 : Nat => [(0, .pointer (some ⟨b, 0, none⟩)), (3, .bool true), (6, .int .i64 (i2 : Nat))]) _ _ (fun i2 : Nat => []) (fun i2 : Nat => Asr.none) (fun i2 : Nat => i2 ≤ sM.length) (fun i2 : Nat => sM.length - i2) (0) (Nat.zero_le _) ?_))))))
  intro i2 hI
  refine Zf (Zf (Zb (Za rfl (Zd rfl) (Za rfl (Zd rfl) (Za rfl (Ys rfl) ?_)))))
  refine Za rfl (Zh (ff rfl) rfl) (Za rfl (Zh (ff rfl) rfl) (Za rfl (Zj (t1 rfl) rfl (Zn (hbc 3 _ rfl) hblt)) (Za rfl (Yg (ts rfl) rfl) (Za rfl (Xb rfl rfl) (Za rfl (Zd rfl) ?_)))))
  refine Yr rfl rfl rfl ?_ ?_
  ·intro h2
   try (first | replace h2 := dTr h2 | replace h2 := Zk h2)
   have hiM : i2 < sM.length := by omega
   obtain ⟨uM, huM⟩ : ∃ u, sM[i2]? = some u := ⟨_, List.getElem?_eq_getElem hiM⟩
   obtain ⟨gM, hgM, hlM, hcM, puM, nuM, cuM, hueM, hubM, hmM⟩ := hyM.out i2 uM huM
   subst hgM; subst hueM
   unfold maxLen at hubM
   refine Zo rfl rfl rfl (Zd rfl) (Za rfl (Zt rfl rfl) (Ze (Zc (Xq rfl (Zw ?_)))))
   refine Zc (Zf (Zs (Zf (Zb (Za rfl (Zg rfl) ?_)))))
   refine Ze (Zc (Zs (Xh (E' := (fun k2 : Nat => [(0, .pointer (some ⟨b, 0, none⟩)), (3, .bool true), (6, .int .i64 (i2 : Nat)), (7, .int .i64 (k2 : Nat))]) (0)) ⟨rfl, rfl, rfl, rfl, trivial⟩ (Yy (X := Nat) (fun k2 : Nat => [(0, .pointer (some ⟨b, 0, none⟩)), (3, .bool true), (6, .int .i64 (i2 : Nat)), (7, .int .i64 (k2 : Nat))]) _ _ (fun k2 : Nat => []) (fun k2 : Nat => Asr.none) (fun k2 : Nat => k2 ≤ nuM) (fun k2 : Nat => nuM - k2) (0) (Nat.zero_le _) ?_))))
   intro k2 hI
   refine Zf (Zf (Zb (Za rfl (Zd rfl) (Za rfl (Zd rfl) (Za rfl (Ys rfl) ?_)))))
   refine Za rfl (Zh (ff rfl) rfl) (Za rfl (Zh (ff rfl) rfl) ?_)
   (first | refine Za rfl (Zj (t1 rfl) rfl (Zn (hbc 3 _ rfl) hblt)) ?_ | refine Za rfl (Zj (t1 rfl) rfl (Zn hcM hlM)) ?_)
   refine Za rfl (Zd rfl) (Za rfl (Xk (ts rfl) rfl rfl ?_) ?_)
   ·omega
   (first | refine Za rfl (Zj (t1 rfl) rfl (Zn (hbc 3 _ rfl) hblt)) ?_ | refine Za rfl (Zj (t1 rfl) rfl (Zn hcM hlM)) ?_)
   refine Za rfl (Yg (ts rfl) rfl) (Za rfl (Xb rfl rfl) (Ze (Zc (Yi rfl ?_ ?_))))
   ·intro c4
    try (first | replace c4 := dTr c4 | replace c4 := Zk c4)
    obtain ⟨qM, hqM, hqlM, hqcM⟩ := hmM k2 (by omega)
    subst hqM
    refine Zw (Zc (Zf (Zs (Zf (WC_draw mixed (by kernel_rfl) ?_)))))
    refine Zm rfl (Zd rfl) (Zm rfl (Ys rfl) (Zm rfl (Zh (ff rfl) rfl) (Zm rfl (Zh (ff rfl) rfl) ?_)))
    (first | refine Zm rfl (Zj (t1 rfl) rfl (Zn (hbc 3 _ rfl) hblt)) ?_ | refine Zm rfl (Zj (t1 rfl) rfl (Zn hcM hlM)) ?_ | refine Zm rfl (Zj (t1 rfl) rfl (Yt hqcM hqlM)) ?_)
    refine Zm rfl (Zd rfl) (Zm rfl (Xk (ts rfl) rfl rfl ?_) ?_)
    ·omega
    (first | refine Zm rfl (Zj (t1 rfl) rfl (Zn (hbc 3 _ rfl) hblt)) ?_ | refine Zm rfl (Zj (t1 rfl) rfl (Zn hcM hlM)) ?_ | refine Zm rfl (Zj (t1 rfl) rfl (Yt hqcM hqlM)) ?_)
    refine Zm rfl (Zd rfl) (Zm rfl (Xk (ts rfl) rfl rfl ?_) ?_)
    ·omega
    (first | refine Zm rfl (Ym (tn rfl) rfl (Zn (hbc 3 _ rfl) hblt) rfl) ?_ | refine Zm rfl (Ym (tn rfl) rfl (Zn hcM hlM) rfl) ?_ | refine Zm rfl (Ym (tn rfl) rfl (Yt hqcM hqlM) rfl) ?_)
    refine Zm rfl (Zd rfl) (Zm rfl (Ex_quo rfl rfl rfl) ?_)
    try (refine WO_same (s := 102) (v' := .int .i64 ((i2 / 4 : Nat) : Int)) rfl (congrArg (Value.int .i64) (quo4 _ (by omega))) ?_)
    refine WO_call fn52 rfl rfl (fun w _ => text_any ((i2 / 4 : Nat) : Int) w) ?_
    refine Zm rfl (Xs (tb rfl) rfl rfl) ?_
    try (refine WO_same (s := 102) (v' := .int .i64 ((i2 / 4 : Nat) : Int)) rfl (congrArg (Value.int .i64) (quo4 _ (by omega))) ?_)
    refine WO_call fn53 rfl rfl (fun w _ => sameMethod_any (me0 (textS ((i2 / 4 : Nat) : Int))) nilS nilS nilS nilS nilS nilS nilS nilS w (me0_parts _ w) (me0_parts _ w)) ?_
    refine Zm rfl (Zg rfl) (WO_nil (Zc (Zb (Za rfl (Zd rfl) (Za rfl (Zd rfl) ?_)))))
    refine Zo rfl rfl rfl (Zd rfl) (Za rfl (Zt rfl rfl) (Za rfl (Zg rfl) (Ze (Zx (Zc ?_)))))
    refine Zb (Za rfl (Zd rfl) ?_)
    (first | (refine Za rfl (Xa rfl rfl ?_) ?_; omega) | (refine Za rfl (Yp rfl rfl ?_) ?_; omega) | refine Za rfl (Yz rfl rfl) ?_)
    refine Za rfl (Zg rfl) (Ze ?_)
    refine Yn (k2 + 1) ?_ (by omega) 0 rfl (rfl) ⟨rfl, rfl, rfl, rfl, trivial⟩
    omega
   ·intro c4
    try (first | replace c4 := dFa c4 | replace c4 := Zi c4)
    refine Yx (Yw (Yo (Yv (Zx (Zc ?_)))))
    refine Zb (Za rfl (Zd rfl) ?_)
    (first | (refine Za rfl (Xa rfl rfl ?_) ?_; omega) | (refine Za rfl (Yp rfl rfl ?_) ?_; omega) | refine Za rfl (Yz rfl rfl) ?_)
    refine Za rfl (Zg rfl) (Ze ?_)
    refine Yn (i2 + 1) ?_ (by omega) 0 rfl (rfl) ⟨rfl, rfl, rfl, trivial⟩
    omega
  ·intro h2
   try (first | replace h2 := dFa h2 | replace h2 := Zi h2)
   refine Zp rfl rfl rfl (Za rfl (Zz rfl rfl) (Ze (Zc (WC_false rfl (Yx ?_)))))
   refine Yw (Yo (Yv (Zc (Zf (Zf ?_)))))
   refine Zb (Za rfl (Zg rfl) (Ze (Zc (Zs (Xh (E' := (fun j5 : Nat => [(0, .pointer (some ⟨b, 0, none⟩)), (3, .bool true), (9, .int .i64 (j5 : Nat))]) (0)) ⟨rfl, rfl, rfl, trivial⟩ (Yy (X := Nat) (fun j5 : Nat => [(0, .pointer (some ⟨b, 0, none⟩)), (3, .bool true), (9, .int .i64 (j5 : Nat))]) _ _ (fun j5 : Nat => []) (fun j5 : Nat => Asr.none) (fun j5 : Nat => True) (fun j5 : Nat => 0) (0) (trivial) ?_))))))
   intro j5 hI
   refine Zf (Zf (Zb (Za rfl (Zd rfl) (Za rfl (Zd rfl) (Za rfl (Ys rfl) ?_)))))
   refine Za rfl (Zh (ff rfl) rfl) (Za rfl (Zh (ff rfl) rfl) (Za rfl (Zj (t1 rfl) rfl (Zn (hbc 6 _ rfl) hblt)) (Za rfl (Yg (ts rfl) rfl) (Za rfl (Xb rfl rfl) (Za rfl (Zd rfl) ?_)))))
   refine Yr rfl rfl rfl ?_ ?_
   ·intro h3
    try (first | replace h3 := dTr h3 | replace h3 := Zk h3)
    exfalso; omega
   ·intro h3
    try (first | replace h3 := dFa h3 | replace h3 := Zi h3)
    refine Zp rfl rfl rfl (Za rfl (Zz rfl rfl) (Ze (Zc (WC_false rfl (Yx ?_)))))
    refine Yw (Yo (Yv (Zc (Zf (Zf ?_)))))
    refine Zb (Za rfl (Zg rfl) (Ze (Zc (Zs (Xh (E' := (fun j7 : Nat => [(0, .pointer (some ⟨b, 0, none⟩)), (3, .bool true), (11, .int .i64 (j7 : Nat))]) (0)) ⟨rfl, rfl, rfl, trivial⟩ (Yy (X := Nat) (fun j7 : Nat => [(0, .pointer (some ⟨b, 0, none⟩)), (3, .bool true), (11, .int .i64 (j7 : Nat))]) _ _ (fun j7 : Nat => []) (fun j7 : Nat => Asr.none) (fun j7 : Nat => True) (fun j7 : Nat => 0) (0) (trivial) ?_))))))
    intro j7 hI
    refine Zf (Zf (Zb (Za rfl (Zd rfl) (Za rfl (Zd rfl) (Za rfl (Ys rfl) ?_)))))
    refine Za rfl (Zh (ff rfl) rfl) (Za rfl (Zh (ff rfl) rfl) (Za rfl (Zj (t1 rfl) rfl (Zn (hbc 7 _ rfl) hblt)) (Za rfl (Yg (ts rfl) rfl) (Za rfl (Xb rfl rfl) (Za rfl (Zd rfl) ?_)))))
    refine Yr rfl rfl rfl ?_ ?_
    ·intro h4
     try (first | replace h4 := dTr h4 | replace h4 := Zk h4)
     exfalso; omega
    ·intro h4
     try (first | replace h4 := dFa h4 | replace h4 := Zi h4)
     refine Zp rfl rfl rfl (Za rfl (Zz rfl rfl) (Ze (Zc (WC_false rfl (Yx ?_)))))
     refine Yw (Yo (Yv (Zc (Zf (Zf ?_)))))
     refine Zb (Za rfl (Zg rfl) (Ze (Zc (Zs (Xh (E' := (fun j9 : Nat => [(0, .pointer (some ⟨b, 0, none⟩)), (3, .bool true), (13, .int .i64 (j9 : Nat))]) (0)) ⟨rfl, rfl, rfl, trivial⟩ (Yy (X := Nat) (fun j9 : Nat => [(0, .pointer (some ⟨b, 0, none⟩)), (3, .bool true), (13, .int .i64 (j9 : Nat))]) _ _ (fun j9 : Nat => []) (fun j9 : Nat => Asr.none) (fun j9 : Nat => True) (fun j9 : Nat => 0) (0) (trivial) ?_))))))
     intro j9 hI
     refine Zf (Zf (Zb (Za rfl (Zd rfl) (Za rfl (Zd rfl) (Za rfl (Ys rfl) ?_)))))
     refine Za rfl (Zh (ff rfl) rfl) (Za rfl (Zh (ff rfl) rfl) (Za rfl (Zj (t1 rfl) rfl (Zn (hbc 8 _ rfl) hblt)) (Za rfl (Yg (ts rfl) rfl) (Za rfl (Xb rfl rfl) (Za rfl (Zd rfl) ?_)))))
     refine Yr rfl rfl rfl ?_ ?_
     ·intro h5
      try (first | replace h5 := dTr h5 | replace h5 := Zk h5)
      exfalso; omega
     ·intro h5
      try (first | replace h5 := dFa h5 | replace h5 := Zi h5)
      refine Zp rfl rfl rfl (Za rfl (Zz rfl rfl) (Ze (Zc (WC_false rfl (Yx ?_)))))
      refine Yw (Yo (Yv (Zc (Zf (Zf ?_)))))
      refine Zb (Za rfl (Zg rfl) (Ze (Zc (Zs (Xh (E' := (fun j11 : Nat => [(0, .pointer (some ⟨b, 0, none⟩)), (3, .bool true), (15, .int .i64 (j11 : Nat))]) (0)) ⟨rfl, rfl, rfl, trivial⟩ (Yy (X := Nat) (fun j11 : Nat => [(0, .pointer (some ⟨b, 0, none⟩)), (3, .bool true), (15, .int .i64 (j11 : Nat))]) _ _ (fun j11 : Nat => []) (fun j11 : Nat => Asr.none) (fun j11 : Nat => True) (fun j11 : Nat => 0) (0) (trivial) ?_))))))
      intro j11 hI
      refine Zf (Zf (Zb (Za rfl (Zd rfl) (Za rfl (Zd rfl) (Za rfl (Ys rfl) ?_)))))
      refine Za rfl (Zh (ff rfl) rfl) (Za rfl (Zh (ff rfl) rfl) (Za rfl (Zj (t1 rfl) rfl (Zn (hbc 9 _ rfl) hblt)) (Za rfl (Yg (ts rfl) rfl) (Za rfl (Xb rfl rfl) (Za rfl (Zd rfl) ?_)))))
      refine Yr rfl rfl rfl ?_ ?_
      ·intro h6
       try (first | replace h6 := dTr h6 | replace h6 := Zk h6)
       exfalso; omega
      ·intro h6
       try (first | replace h6 := dFa h6 | replace h6 := Zi h6)
       refine Zp rfl rfl rfl (Za rfl (Zz rfl rfl) (Ze (Zc (WC_false rfl (Yx ?_)))))
       refine Yw (Yo (Yv (Zc (Zf (Zb ?_)))))
       refine Za rfl (Zd rfl) (Za rfl (Zg rfl) (Ze (Zc (Zv (Yh rfl rfl ?_)))))
       rfl
end Go.Proofs.YtpofmnfkdkmieaaGreat
