/- What is proved here: two copies of a class, with all their lists, are found the same. -/
import Derived.Test.YtpofmnfkdkmieaaGreatQ25
import Derived.Test.YtpofmnfkdkmieaaGreatQ34
set_option linter.unusedVariables false
set_option linter.unusedSimpArgs false
namespace Go.Proofs.YtpofmnfkdkmieaaGreat
open Go Go.RowKit At E
/-- Rows of lists lie in memory. -/
structure RowsAt {α : Type} (El : World → Value → List α → Prop) (w : World) (v : Value) (rows : List (List α)) : Prop where
 is : ∃ p c, v = .slice p rows.length c ∧ rows.length ≤ 1099511627776 ∧ ∀ i l, rows[i]? = some l → ∃ g rv, p = some ⟨g, 0, none⟩ ∧ g < w.heap.size ∧ w.cell? ⟨g, 0 + i * 1, none⟩ = some rv ∧ El w rv l
theorem rowsAt_of {α β : Type} {El : World → Value → List α → Prop} {w : World} {e' e sz : Nat} {cell : β → List Value} {v : Value} {rows : List (List β × Value)} (f : List β → List α) (h : (rowsA e' e sz cell v rows).A w) (hl : rows.length ≤ 1099511627776) (hEl : ∀ r ∈ rows, w.ownsRow 0 e sz r.2 r.1.length (r.1.flatMap cell) → El w r.2 (f r.1)) : RowsAt El w v (rows.map fun r => f r.1) := by
 obtain ⟨p, c, rfl, hp⟩ := owns_form h.1
 refine ⟨p, c, by rw [List.length_map], by rw [List.length_map]; exact hl, fun i l hi => ?_⟩
 rw [List.getElem?_map] at hi
 cases hr : rows[i]? with
 | none => rw [hr] at hi; cases hi
 | some r =>
  rw [hr] at hi
  cases hi
  have hlt : i < rows.length := by
   rcases Nat.lt_or_ge i rows.length with h' | h'
   ·exact h'
   ·rw [List.getElem?_eq_none h'] at hr; cases hr
  obtain ⟨g, rfl⟩ := hp (by omega)
  have hc := h.1.cells (g := g) rfl i r.2 (by rw [List.getElem?_map, hr]; rfl)
  rw [Addr.add_lit] at hc
  have hm := List.mem_of_getElem? hr
  exact ⟨g, r.2, rfl, (h.1.lt g rfl).2, by rw [Nat.mul_one]; exact hc, hEl r hm (bigA_mem h.2.1 r hm)⟩
/-- All lists lie in memory. -/
structure LsAt (w : World) (b : Nat) (k : Lx) (LT : List (List Ty)) (LI : List (List Ins)) (LF : List (List Fld)) (LM : List (List Me)) (LH : List (List Hd)) (LR : List (List Fr)) : Prop where
 cells : ∀ j x, k.C[j]? = some x → w.cell? ⟨b, j, none⟩ = some x
 lt : b < w.heap.size
 t : RowsAt TysAt w k.vT LT
 i : RowsAt InssAt w k.vI LI
 f : RowsAt FdsAt w k.vF LF
 m : RowsAt MesAt w k.vM LM
 h : RowsAt HdsAt w k.vH LH
 r : RowsAt FrsAt w k.vR LR
set_option maxHeartbeats 8000000 in
theorem sameLists_any (a b : Nat) (ka kb : Lx) (LT : List (List Ty)) (LI : List (List Ins)) (LF : List (List Fld)) (LM : List (List Me)) (LH : List (List Hd)) (LR : List (List Fr)) (w : World) (hka : LsAt w a ka LT LI LF LM LH LR) (hkb : LsAt w b kb LT LI LF LM LH LR) : Pure Tryz.prog 46 #[.pointer (some ⟨a, 0, none⟩), .pointer (some ⟨b, 0, none⟩)] w (.bool true) := by
 obtain ⟨vTa, vIa, vFa, vMa, vHa, vRa, s1, s2, s3, s4, s5, s6⟩ := ka
 have hac := hka.cells
 have hal := hka.lt
 obtain ⟨pTa, cTa, hvTa, hnTa, hyTa⟩ := hka.t.is
 obtain ⟨pIa, cIa, hvIa, hnIa, hyIa⟩ := hka.i.is
 obtain ⟨pFa, cFa, hvFa, hnFa, hyFa⟩ := hka.f.is
 obtain ⟨pMa, cMa, hvMa, hnMa, hyMa⟩ := hka.m.is
 obtain ⟨pHa, cHa, hvHa, hnHa, hyHa⟩ := hka.h.is
 obtain ⟨pRa, cRa, hvRa, hnRa, hyRa⟩ := hka.r.is
 clear hka
 dsimp only at hvTa hnTa hyTa hvIa hnIa hyIa hvFa hnFa hyFa hvMa hnMa hyMa hvHa hnHa hyHa hvRa hnRa hyRa hac
 subst hvTa
 subst hvIa
 subst hvFa
 subst hvMa
 subst hvHa
 subst hvRa
 replace hyTa : Hid _ := hyTa
 replace hyIa : Hid _ := hyIa
 replace hyFa : Hid _ := hyFa
 replace hyMa : Hid _ := hyMa
 replace hyHa : Hid _ := hyHa
 replace hyRa : Hid _ := hyRa
 replace hac : ∀ j y, (bkC (.slice pTa LT.length cTa) (.slice pIa LI.length cIa) (.slice pFa LF.length cFa) (.slice pMa LM.length cMa) (.slice pHa LH.length cHa) (.slice pRa LR.length cRa))[j]? = some y → w.cell? ⟨a, j, none⟩ = some y := hac
 obtain ⟨vTb, vIb, vFb, vMb, vHb, vRb, t1x, t2x, t3x, t4x, t5x, t6x⟩ := kb
 have hbc := hkb.cells
 have hbl := hkb.lt
 obtain ⟨pTb, cTb, hvTb, hnTb, hyTb⟩ := hkb.t.is
 obtain ⟨pIb, cIb, hvIb, hnIb, hyIb⟩ := hkb.i.is
 obtain ⟨pFb, cFb, hvFb, hnFb, hyFb⟩ := hkb.f.is
 obtain ⟨pMb, cMb, hvMb, hnMb, hyMb⟩ := hkb.m.is
 obtain ⟨pHb, cHb, hvHb, hnHb, hyHb⟩ := hkb.h.is
 obtain ⟨pRb, cRb, hvRb, hnRb, hyRb⟩ := hkb.r.is
 clear hkb
 dsimp only at hvTb hnTb hyTb hvIb hnIb hyIb hvFb hnFb hyFb hvMb hnMb hyMb hvHb hnHb hyHb hvRb hnRb hyRb hbc
 subst hvTb
 subst hvIb
 subst hvFb
 subst hvMb
 subst hvHb
 subst hvRb
 replace hyTb : Hid _ := hyTb
 replace hyIb : Hid _ := hyIb
 replace hyFb : Hid _ := hyFb
 replace hyMb : Hid _ := hyMb
 replace hyHb : Hid _ := hyHb
 replace hyRb : Hid _ := hyRb
 replace hbc : ∀ j y, (bkC (.slice pTb LT.length cTb) (.slice pIb LI.length cIb) (.slice pFb LF.length cFb) (.slice pMb LM.length cMb) (.slice pHb LH.length cHb) (.slice pRb LR.length cRb))[j]? = some y → w.cell? ⟨b, j, none⟩ = some y := hbc
 refine opens (args := [.pointer (some ⟨a, 0, none⟩), .pointer (some ⟨b, 0, none⟩)]) Tryz.func46 rfl Tryz.ntmps46 ?_
 refine Zf (Zb (Za rfl (Zg rfl) (Ze (Zc (Zf ?_)))))
 refine Zf (Zb (Za rfl (Zg rfl) (Ze (Zc (Zs ?_)))))
 refine Xh (E' := (fun i1 : Nat => [(0, .pointer (some ⟨a, 0, none⟩)), (1, .pointer (some ⟨b, 0, none⟩)), (5, .int .i64 (i1 : Nat))]) (0)) ⟨rfl, rfl, rfl, trivial⟩ (Yy (X := Nat) (fun i1 : Nat => [(0, .pointer (some ⟨a, 0, none⟩)), (1, .pointer (some ⟨b, 0, none⟩)), (5, .int .i64 (i1 : Nat))]) _ _ (fun i1 : Nat => []) (fun i1 : Nat => Asr.none) (fun i1 : Nat => i1 ≤ LT.length) (fun i1 : Nat => LT.length - i1) (0) (Nat.zero_le _) ?_)
 intro i1 hI
 refine Zf (Zf (Zb (Za rfl (Zd rfl) (Za rfl (Zd rfl) (Za rfl (Ys rfl) ?_)))))
 refine Za rfl (Zh (ff rfl) rfl) (Za rfl (Zj (t1 rfl) rfl (Zn (hac 0 _ rfl) hal)) (Za rfl (Yg (ts rfl) rfl) (Za rfl (Xb rfl rfl) (Ze (Zc ?_)))))
 refine Yi rfl ?_ ?_
 ·intro c1
  try (first | replace c1 := dTr c1 | replace c1 := Zk c1)
  have hiT : i1 < LT.length := by omega
  obtain ⟨lT, hlT⟩ : ∃ u, LT[i1]? = some u := ⟨_, List.getElem?_eq_getElem hiT⟩
  obtain ⟨gTa, rTa, hgTa, hbTa, hrTa, haTa⟩ := hyTa.out i1 lT hlT
  subst hgTa
  obtain ⟨gTb, rTb, hgTb, hbTb, hrTb, haTb⟩ := hyTb.out i1 lT hlT
  subst hgTb
  refine Zw (Zc (Zf (Zs (Zf (WC_draw mixed (by kernel_rfl) ?_)))))
  refine Zm rfl (Zd rfl) (Zm rfl (Ys rfl) (Zm rfl (Zh (ff rfl) rfl) ?_))
  (first | refine Zm rfl (Zj (t1 rfl) rfl (Zn (hac 0 _ rfl) hal)) ?_ | refine Zm rfl (Zj (t1 rfl) rfl (Zn (hbc 0 _ rfl) hbl)) ?_ | refine Zm rfl (Zj (t1 rfl) rfl (Zn hrTa hbTa)) ?_ | refine Zm rfl (Zj (t1 rfl) rfl (Zn hrTb hbTb)) ?_)
  refine Zm rfl (Zd rfl) (Zm rfl (Xk (ts rfl) rfl rfl ?_) ?_)
  ·omega
  (first | refine Zm rfl (Zj (t1 rfl) rfl (Zn (hac 0 _ rfl) hal)) ?_ | refine Zm rfl (Zj (t1 rfl) rfl (Zn (hbc 0 _ rfl) hbl)) ?_ | refine Zm rfl (Zj (t1 rfl) rfl (Zn hrTa hbTa)) ?_ | refine Zm rfl (Zj (t1 rfl) rfl (Zn hrTb hbTb)) ?_)
  refine Zm rfl (Zd rfl) (Zm rfl (Ys rfl) (Zm rfl (Zh (ff rfl) rfl) ?_))
  (first | refine Zm rfl (Zj (t1 rfl) rfl (Zn (hac 0 _ rfl) hal)) ?_ | refine Zm rfl (Zj (t1 rfl) rfl (Zn (hbc 0 _ rfl) hbl)) ?_ | refine Zm rfl (Zj (t1 rfl) rfl (Zn hrTa hbTa)) ?_ | refine Zm rfl (Zj (t1 rfl) rfl (Zn hrTb hbTb)) ?_)
  refine Zm rfl (Zd rfl) (Zm rfl (Xk (ts rfl) rfl rfl ?_) ?_)
  ·omega
  (first | refine Zm rfl (Zj (t1 rfl) rfl (Zn (hac 0 _ rfl) hal)) ?_ | refine Zm rfl (Zj (t1 rfl) rfl (Zn (hbc 0 _ rfl) hbl)) ?_ | refine Zm rfl (Zj (t1 rfl) rfl (Zn hrTa hbTa)) ?_ | refine Zm rfl (Zj (t1 rfl) rfl (Zn hrTb hbTb)) ?_)
  refine WO_call fn79 rfl rfl (fun w hs => sameTypes_any _ _ lT w (haTa.mono (lowOf hs)) (haTb.mono (lowOf hs))) ?_
  refine Zm rfl (Zg rfl) (WO_nil (Zc (Zf (Zb (Za rfl (Zd rfl) ?_)))))
  refine Za rfl (Ex_not rfl) (Ze (Zc (WC_false rfl (Zw (Zx ?_)))))
  refine Zc (Zb (Za rfl (Zd rfl) ?_))
  (first | (refine Za rfl (Xa rfl rfl ?_) ?_; omega) | (refine Za rfl (Yp rfl rfl ?_) ?_; omega) | refine Za rfl (Yz rfl rfl) ?_)
  refine Za rfl (Zg rfl) (Ze ?_)
  refine Yn (i1 + 1) ?_ (by omega) 0 rfl (rfl) ⟨rfl, rfl, rfl, trivial⟩
  omega
 ·intro c1
  try (first | replace c1 := dFa c1 | replace c1 := Zi c1)
  refine Yx (Yw (Yo (Yv (Zc (Zf ?_)))))
  refine Zf (Zb (Za rfl (Zg rfl) (Ze (Zc (Zs ?_)))))
  refine Xh (E' := (fun i2 : Nat => [(0, .pointer (some ⟨a, 0, none⟩)), (1, .pointer (some ⟨b, 0, none⟩)), (7, .int .i64 (i2 : Nat))]) (0)) ⟨rfl, rfl, rfl, trivial⟩ (Yy (X := Nat) (fun i2 : Nat => [(0, .pointer (some ⟨a, 0, none⟩)), (1, .pointer (some ⟨b, 0, none⟩)), (7, .int .i64 (i2 : Nat))]) _ _ (fun i2 : Nat => []) (fun i2 : Nat => Asr.none) (fun i2 : Nat => i2 ≤ LI.length) (fun i2 : Nat => LI.length - i2) (0) (Nat.zero_le _) ?_)
  intro i2 hI
  refine Zf (Zf (Zb (Za rfl (Zd rfl) (Za rfl (Zd rfl) (Za rfl (Ys rfl) ?_)))))
  refine Za rfl (Zh (ff rfl) rfl) (Za rfl (Zj (t1 rfl) rfl (Zn (hac 1 _ rfl) hal)) (Za rfl (Yg (ts rfl) rfl) (Za rfl (Xb rfl rfl) (Ze (Zc ?_)))))
  refine Yi rfl ?_ ?_
  ·intro c3
   try (first | replace c3 := dTr c3 | replace c3 := Zk c3)
   have hiI : i2 < LI.length := by omega
   obtain ⟨lI, hlI⟩ : ∃ u, LI[i2]? = some u := ⟨_, List.getElem?_eq_getElem hiI⟩
   obtain ⟨gIa, rIa, hgIa, hbIa, hrIa, haIa⟩ := hyIa.out i2 lI hlI
   subst hgIa
   obtain ⟨gIb, rIb, hgIb, hbIb, hrIb, haIb⟩ := hyIb.out i2 lI hlI
   subst hgIb
   refine Zw (Zc (Zf (Zs (Zf (WC_draw mixed (by kernel_rfl) ?_)))))
   refine Zm rfl (Zd rfl) (Zm rfl (Ys rfl) (Zm rfl (Zh (ff rfl) rfl) ?_))
   (first | refine Zm rfl (Zj (t1 rfl) rfl (Zn (hac 1 _ rfl) hal)) ?_ | refine Zm rfl (Zj (t1 rfl) rfl (Zn (hbc 1 _ rfl) hbl)) ?_ | refine Zm rfl (Zj (t1 rfl) rfl (Zn hrIa hbIa)) ?_ | refine Zm rfl (Zj (t1 rfl) rfl (Zn hrIb hbIb)) ?_)
   refine Zm rfl (Zd rfl) (Zm rfl (Xk (ts rfl) rfl rfl ?_) ?_)
   ·omega
   (first | refine Zm rfl (Zj (t1 rfl) rfl (Zn (hac 1 _ rfl) hal)) ?_ | refine Zm rfl (Zj (t1 rfl) rfl (Zn (hbc 1 _ rfl) hbl)) ?_ | refine Zm rfl (Zj (t1 rfl) rfl (Zn hrIa hbIa)) ?_ | refine Zm rfl (Zj (t1 rfl) rfl (Zn hrIb hbIb)) ?_)
   refine Zm rfl (Zd rfl) (Zm rfl (Ys rfl) (Zm rfl (Zh (ff rfl) rfl) ?_))
   (first | refine Zm rfl (Zj (t1 rfl) rfl (Zn (hac 1 _ rfl) hal)) ?_ | refine Zm rfl (Zj (t1 rfl) rfl (Zn (hbc 1 _ rfl) hbl)) ?_ | refine Zm rfl (Zj (t1 rfl) rfl (Zn hrIa hbIa)) ?_ | refine Zm rfl (Zj (t1 rfl) rfl (Zn hrIb hbIb)) ?_)
   refine Zm rfl (Zd rfl) (Zm rfl (Xk (ts rfl) rfl rfl ?_) ?_)
   ·omega
   (first | refine Zm rfl (Zj (t1 rfl) rfl (Zn (hac 1 _ rfl) hal)) ?_ | refine Zm rfl (Zj (t1 rfl) rfl (Zn (hbc 1 _ rfl) hbl)) ?_ | refine Zm rfl (Zj (t1 rfl) rfl (Zn hrIa hbIa)) ?_ | refine Zm rfl (Zj (t1 rfl) rfl (Zn hrIb hbIb)) ?_)
   refine WO_call fn80 rfl rfl (fun w hs => sameInstrs_any _ _ lI w (haIa.mono (lowOf hs)) (haIb.mono (lowOf hs))) ?_
   refine Zm rfl (Zg rfl) (WO_nil (Zc (Zf (Zb (Za rfl (Zd rfl) ?_)))))
   refine Za rfl (Ex_not rfl) (Ze (Zc (WC_false rfl (Zw (Zx ?_)))))
   refine Zc (Zb (Za rfl (Zd rfl) ?_))
   (first | (refine Za rfl (Xa rfl rfl ?_) ?_; omega) | (refine Za rfl (Yp rfl rfl ?_) ?_; omega) | refine Za rfl (Yz rfl rfl) ?_)
   refine Za rfl (Zg rfl) (Ze ?_)
   refine Yn (i2 + 1) ?_ (by omega) 0 rfl (rfl) ⟨rfl, rfl, rfl, trivial⟩
   omega
  ·intro c3
   try (first | replace c3 := dFa c3 | replace c3 := Zi c3)
   refine Yx (Yw (Yo (Yv (Zc (Zf ?_)))))
   refine Zf (Zb (Za rfl (Zg rfl) (Ze (Zc (Zs ?_)))))
   refine Xh (E' := (fun i3 : Nat => [(0, .pointer (some ⟨a, 0, none⟩)), (1, .pointer (some ⟨b, 0, none⟩)), (9, .int .i64 (i3 : Nat))]) (0)) ⟨rfl, rfl, rfl, trivial⟩ (Yy (X := Nat) (fun i3 : Nat => [(0, .pointer (some ⟨a, 0, none⟩)), (1, .pointer (some ⟨b, 0, none⟩)), (9, .int .i64 (i3 : Nat))]) _ _ (fun i3 : Nat => []) (fun i3 : Nat => Asr.none) (fun i3 : Nat => i3 ≤ LF.length) (fun i3 : Nat => LF.length - i3) (0) (Nat.zero_le _) ?_)
   intro i3 hI
   refine Zf (Zf (Zb (Za rfl (Zd rfl) (Za rfl (Zd rfl) (Za rfl (Ys rfl) ?_)))))
   refine Za rfl (Zh (ff rfl) rfl) (Za rfl (Zj (t1 rfl) rfl (Zn (hac 2 _ rfl) hal)) (Za rfl (Yg (ts rfl) rfl) (Za rfl (Xb rfl rfl) (Ze (Zc ?_)))))
   refine Yi rfl ?_ ?_
   ·intro c5
    try (first | replace c5 := dTr c5 | replace c5 := Zk c5)
    have hiF : i3 < LF.length := by omega
    obtain ⟨lF, hlF⟩ : ∃ u, LF[i3]? = some u := ⟨_, List.getElem?_eq_getElem hiF⟩
    obtain ⟨gFa, rFa, hgFa, hbFa, hrFa, haFa⟩ := hyFa.out i3 lF hlF
    subst hgFa
    obtain ⟨gFb, rFb, hgFb, hbFb, hrFb, haFb⟩ := hyFb.out i3 lF hlF
    subst hgFb
    obtain ⟨qFa, dFa, heFa, hdFa, hfFa⟩ := haFa.is
    subst heFa
    replace hfFa : Hid _ := hfFa
    obtain ⟨qFb, dFb, heFb, hdFb, hfFb⟩ := haFb.is
    subst heFb
    replace hfFb : Hid _ := hfFb
    refine Zw (Zc (Zf (Zs (Zf (Zb ?_)))))
    refine Za rfl (Zg rfl) (Ze (Zc (Zs (Xh (E' := (fun k3 : Nat => [(0, .pointer (some ⟨a, 0, none⟩)), (1, .pointer (some ⟨b, 0, none⟩)), (9, .int .i64 (i3 : Nat)), (10, .int .i64 (k3 : Nat))]) (0)) ⟨rfl, rfl, rfl, rfl, trivial⟩ (Yy (X := Nat) (fun k3 : Nat => [(0, .pointer (some ⟨a, 0, none⟩)), (1, .pointer (some ⟨b, 0, none⟩)), (9, .int .i64 (i3 : Nat)), (10, .int .i64 (k3 : Nat))]) _ _ (fun k3 : Nat => []) (fun k3 : Nat => Asr.none) (fun k3 : Nat => k3 ≤ lF.length) (fun k3 : Nat => lF.length - k3) (0) (Nat.zero_le _) ?_)))))
    intro k3 hI
    refine Zf (Zf (Zb (Za rfl (Zd rfl) (Za rfl (Zd rfl) (Za rfl (Ys rfl) ?_)))))
    refine Za rfl (Zh (ff rfl) rfl) ?_
    (first | refine Za rfl (Zj (t1 rfl) rfl (Zn (hac 2 _ rfl) hal)) ?_ | refine Za rfl (Zj (t1 rfl) rfl (Zn hrFa hbFa)) ?_)
    refine Za rfl (Zd rfl) (Za rfl (Xk (ts rfl) rfl rfl ?_) ?_)
    ·omega
    (first | refine Za rfl (Zj (t1 rfl) rfl (Zn (hac 2 _ rfl) hal)) ?_ | refine Za rfl (Zj (t1 rfl) rfl (Zn hrFa hbFa)) ?_)
    refine Za rfl (Yg (ts rfl) rfl) (Za rfl (Xb rfl rfl) (Ze (Zc (Yi rfl ?_ ?_))))
    ·intro c6
     try (first | replace c6 := dTr c6 | replace c6 := Zk c6)
     have hjF : k3 < lF.length := by omega
     obtain ⟨yF, hyF⟩ : ∃ u, lF[k3]? = some u := ⟨_, List.getElem?_eq_getElem hjF⟩
     obtain ⟨bFa, oFa, zFa, hpFa, hkFa, ⟨hzFa, -⟩, hcFa⟩ := hfFa.out k3 yF hyF
     subst hpFa; subst hzFa
     obtain ⟨bFb, oFb, zFb, hpFb, hkFb, ⟨hzFb, -⟩, hcFb⟩ := hfFb.out k3 yF hyF
     subst hpFb; subst hzFb
     refine Zw (Zc (Zf (Zs (Zf (WC_draw mixed (by kernel_rfl) ?_)))))
     refine Zm rfl (Zd rfl) (Zm rfl (Ys rfl) (Zm rfl (Zh (ff rfl) rfl) ?_))
     (first | refine Zm rfl (Zj (t1 rfl) rfl (Zn (hac 2 _ rfl) hal)) ?_ | refine Zm rfl (Zj (t1 rfl) rfl (Zn (hbc 2 _ rfl) hbl)) ?_ | refine Zm rfl (Zj (t1 rfl) rfl (Zn hrFa hbFa)) ?_ | refine Zm rfl (Zj (t1 rfl) rfl (Zn hrFb hbFb)) ?_ | refine Zm rfl (Zj (t1 rfl) rfl (Yt hcFa hkFa)) ?_ | refine Zm rfl (Zj (t1 rfl) rfl (Yt hcFb hkFb)) ?_)
     refine Zm rfl (Zd rfl) (Zm rfl (Xk (ts rfl) rfl rfl ?_) ?_)
     ·omega
     (first | refine Zm rfl (Zj (t1 rfl) rfl (Zn (hac 2 _ rfl) hal)) ?_ | refine Zm rfl (Zj (t1 rfl) rfl (Zn (hbc 2 _ rfl) hbl)) ?_ | refine Zm rfl (Zj (t1 rfl) rfl (Zn hrFa hbFa)) ?_ | refine Zm rfl (Zj (t1 rfl) rfl (Zn hrFb hbFb)) ?_ | refine Zm rfl (Zj (t1 rfl) rfl (Yt hcFa hkFa)) ?_ | refine Zm rfl (Zj (t1 rfl) rfl (Yt hcFb hkFb)) ?_)
     refine Zm rfl (Zd rfl) (Zm rfl (Xk (ts rfl) rfl rfl ?_) ?_)
     ·omega
     (first | refine Zm rfl (Ym (tn rfl) rfl (Zn (hac 2 _ rfl) hal) rfl) ?_ | refine Zm rfl (Ym (tn rfl) rfl (Zn (hbc 2 _ rfl) hbl) rfl) ?_ | refine Zm rfl (Ym (tn rfl) rfl (Zn hrFa hbFa) rfl) ?_ | refine Zm rfl (Ym (tn rfl) rfl (Zn hrFb hbFb) rfl) ?_ | refine Zm rfl (Ym (tn rfl) rfl (Yt hcFa hkFa) rfl) ?_ | refine Zm rfl (Ym (tn rfl) rfl (Yt hcFb hkFb) rfl) ?_)
     refine Zm rfl (Zd rfl) (Zm rfl (Ys rfl) (Zm rfl (Zh (ff rfl) rfl) ?_))
     (first | refine Zm rfl (Zj (t1 rfl) rfl (Zn (hac 2 _ rfl) hal)) ?_ | refine Zm rfl (Zj (t1 rfl) rfl (Zn (hbc 2 _ rfl) hbl)) ?_ | refine Zm rfl (Zj (t1 rfl) rfl (Zn hrFa hbFa)) ?_ | refine Zm rfl (Zj (t1 rfl) rfl (Zn hrFb hbFb)) ?_ | refine Zm rfl (Zj (t1 rfl) rfl (Yt hcFa hkFa)) ?_ | refine Zm rfl (Zj (t1 rfl) rfl (Yt hcFb hkFb)) ?_)
     refine Zm rfl (Zd rfl) (Zm rfl (Xk (ts rfl) rfl rfl ?_) ?_)
     ·omega
     (first | refine Zm rfl (Zj (t1 rfl) rfl (Zn (hac 2 _ rfl) hal)) ?_ | refine Zm rfl (Zj (t1 rfl) rfl (Zn (hbc 2 _ rfl) hbl)) ?_ | refine Zm rfl (Zj (t1 rfl) rfl (Zn hrFa hbFa)) ?_ | refine Zm rfl (Zj (t1 rfl) rfl (Zn hrFb hbFb)) ?_ | refine Zm rfl (Zj (t1 rfl) rfl (Yt hcFa hkFa)) ?_ | refine Zm rfl (Zj (t1 rfl) rfl (Yt hcFb hkFb)) ?_)
     refine Zm rfl (Zd rfl) (Zm rfl (Xk (ts rfl) rfl rfl ?_) ?_)
     ·omega
     (first | refine Zm rfl (Ym (tn rfl) rfl (Zn (hac 2 _ rfl) hal) rfl) ?_ | refine Zm rfl (Ym (tn rfl) rfl (Zn (hbc 2 _ rfl) hbl) rfl) ?_ | refine Zm rfl (Ym (tn rfl) rfl (Zn hrFa hbFa) rfl) ?_ | refine Zm rfl (Ym (tn rfl) rfl (Zn hrFb hbFb) rfl) ?_ | refine Zm rfl (Ym (tn rfl) rfl (Yt hcFa hkFa) rfl) ?_ | refine Zm rfl (Ym (tn rfl) rfl (Yt hcFb hkFb) rfl) ?_)
     refine Zm rfl (Ex_neqFld0 rfl rfl) (WO_nil (Zc (WC_false rfl (Zw (Zx ?_)))))
     refine Zc (Zb (Za rfl (Zd rfl) ?_))
     (first | (refine Za rfl (Xa rfl rfl ?_) ?_; omega) | (refine Za rfl (Yp rfl rfl ?_) ?_; omega) | refine Za rfl (Yz rfl rfl) ?_)
     refine Za rfl (Zg rfl) (Ze ?_)
     refine Yn (k3 + 1) ?_ (by omega) 0 rfl (rfl) ⟨rfl, rfl, rfl, rfl, trivial⟩
     omega
    ·intro c6
     try (first | replace c6 := dFa c6 | replace c6 := Zi c6)
     refine Yx (Yw (Yo (Yv (Zx (Zc ?_)))))
     refine Zb (Za rfl (Zd rfl) ?_)
     (first | (refine Za rfl (Xa rfl rfl ?_) ?_; omega) | (refine Za rfl (Yp rfl rfl ?_) ?_; omega) | refine Za rfl (Yz rfl rfl) ?_)
     refine Za rfl (Zg rfl) (Ze ?_)
     refine Yn (i3 + 1) ?_ (by omega) 0 rfl (rfl) ⟨rfl, rfl, rfl, trivial⟩
     omega
   ·intro c5
    try (first | replace c5 := dFa c5 | replace c5 := Zi c5)
    refine Yx (Yw (Yo (Yv (Zc (Zf ?_)))))
    refine Zf (Zb (Za rfl (Zg rfl) (Ze (Zc (Zs ?_)))))
    refine Xh (E' := (fun i5 : Nat => [(0, .pointer (some ⟨a, 0, none⟩)), (1, .pointer (some ⟨b, 0, none⟩)), (11, .int .i64 (i5 : Nat))]) (0)) ⟨rfl, rfl, rfl, trivial⟩ (Yy (X := Nat) (fun i5 : Nat => [(0, .pointer (some ⟨a, 0, none⟩)), (1, .pointer (some ⟨b, 0, none⟩)), (11, .int .i64 (i5 : Nat))]) _ _ (fun i5 : Nat => []) (fun i5 : Nat => Asr.none) (fun i5 : Nat => i5 ≤ LH.length) (fun i5 : Nat => LH.length - i5) (0) (Nat.zero_le _) ?_)
    intro i5 hI
    refine Zf (Zf (Zb (Za rfl (Zd rfl) (Za rfl (Zd rfl) (Za rfl (Ys rfl) ?_)))))
    refine Za rfl (Zh (ff rfl) rfl) (Za rfl (Zj (t1 rfl) rfl (Zn (hac 4 _ rfl) hal)) (Za rfl (Yg (ts rfl) rfl) (Za rfl (Xb rfl rfl) (Ze (Zc ?_)))))
    refine Yi rfl ?_ ?_
    ·intro c8
     try (first | replace c8 := dTr c8 | replace c8 := Zk c8)
     have hiH : i5 < LH.length := by omega
     obtain ⟨lH, hlH⟩ : ∃ u, LH[i5]? = some u := ⟨_, List.getElem?_eq_getElem hiH⟩
     obtain ⟨gHa, rHa, hgHa, hbHa, hrHa, haHa⟩ := hyHa.out i5 lH hlH
     subst hgHa
     obtain ⟨gHb, rHb, hgHb, hbHb, hrHb, haHb⟩ := hyHb.out i5 lH hlH
     subst hgHb
     obtain ⟨qHa, dHa, heHa, hdHa, hfHa⟩ := haHa.is
     subst heHa
     replace hfHa : Hid _ := hfHa
     obtain ⟨qHb, dHb, heHb, hdHb, hfHb⟩ := haHb.is
     subst heHb
     replace hfHb : Hid _ := hfHb
     refine Zw (Zc (Zf (Zs (Zf (Zb ?_)))))
     refine Za rfl (Zg rfl) (Ze (Zc (Zs (Xh (E' := (fun k5 : Nat => [(0, .pointer (some ⟨a, 0, none⟩)), (1, .pointer (some ⟨b, 0, none⟩)), (11, .int .i64 (i5 : Nat)), (12, .int .i64 (k5 : Nat))]) (0)) ⟨rfl, rfl, rfl, rfl, trivial⟩ (Yy (X := Nat) (fun k5 : Nat => [(0, .pointer (some ⟨a, 0, none⟩)), (1, .pointer (some ⟨b, 0, none⟩)), (11, .int .i64 (i5 : Nat)), (12, .int .i64 (k5 : Nat))]) _ _ (fun k5 : Nat => []) (fun k5 : Nat => Asr.none) (fun k5 : Nat => k5 ≤ lH.length) (fun k5 : Nat => lH.length - k5) (0) (Nat.zero_le _) ?_)))))
     intro k5 hI
     refine Zf (Zf (Zb (Za rfl (Zd rfl) (Za rfl (Zd rfl) (Za rfl (Ys rfl) ?_)))))
     refine Za rfl (Zh (ff rfl) rfl) ?_
     (first | refine Za rfl (Zj (t1 rfl) rfl (Zn (hac 4 _ rfl) hal)) ?_ | refine Za rfl (Zj (t1 rfl) rfl (Zn hrHa hbHa)) ?_)
     refine Za rfl (Zd rfl) (Za rfl (Xk (ts rfl) rfl rfl ?_) ?_)
     ·omega
     (first | refine Za rfl (Zj (t1 rfl) rfl (Zn (hac 4 _ rfl) hal)) ?_ | refine Za rfl (Zj (t1 rfl) rfl (Zn hrHa hbHa)) ?_)
     refine Za rfl (Yg (ts rfl) rfl) (Za rfl (Xb rfl rfl) (Ze (Zc (Yi rfl ?_ ?_))))
     ·intro c9
      try (first | replace c9 := dTr c9 | replace c9 := Zk c9)
      have hjH : k5 < lH.length := by omega
      obtain ⟨yH, hyH⟩ : ∃ u, lH[k5]? = some u := ⟨_, List.getElem?_eq_getElem hjH⟩
      obtain ⟨bHa, oHa, zHa, hpHa, hkHa, ⟨hzHa, -⟩, hcHa⟩ := hfHa.out k5 yH hyH
      subst hpHa; subst hzHa
      obtain ⟨bHb, oHb, zHb, hpHb, hkHb, ⟨hzHb, -⟩, hcHb⟩ := hfHb.out k5 yH hyH
      subst hpHb; subst hzHb
      refine Zw (Zc (Zf (Zs (Zf (WC_draw mixed (by kernel_rfl) ?_)))))
      refine Zm rfl (Zd rfl) (Zm rfl (Ys rfl) (Zm rfl (Zh (ff rfl) rfl) ?_))
      (first | refine Zm rfl (Zj (t1 rfl) rfl (Zn (hac 4 _ rfl) hal)) ?_ | refine Zm rfl (Zj (t1 rfl) rfl (Zn (hbc 4 _ rfl) hbl)) ?_ | refine Zm rfl (Zj (t1 rfl) rfl (Zn hrHa hbHa)) ?_ | refine Zm rfl (Zj (t1 rfl) rfl (Zn hrHb hbHb)) ?_ | refine Zm rfl (Zj (t1 rfl) rfl (Yt hcHa hkHa)) ?_ | refine Zm rfl (Zj (t1 rfl) rfl (Yt hcHb hkHb)) ?_)
      refine Zm rfl (Zd rfl) (Zm rfl (Xk (ts rfl) rfl rfl ?_) ?_)
      ·omega
      (first | refine Zm rfl (Zj (t1 rfl) rfl (Zn (hac 4 _ rfl) hal)) ?_ | refine Zm rfl (Zj (t1 rfl) rfl (Zn (hbc 4 _ rfl) hbl)) ?_ | refine Zm rfl (Zj (t1 rfl) rfl (Zn hrHa hbHa)) ?_ | refine Zm rfl (Zj (t1 rfl) rfl (Zn hrHb hbHb)) ?_ | refine Zm rfl (Zj (t1 rfl) rfl (Yt hcHa hkHa)) ?_ | refine Zm rfl (Zj (t1 rfl) rfl (Yt hcHb hkHb)) ?_)
      refine Zm rfl (Zd rfl) (Zm rfl (Xk (ts rfl) rfl rfl ?_) ?_)
      ·omega
      (first | refine Zm rfl (Ym (tn rfl) rfl (Zn (hac 4 _ rfl) hal) rfl) ?_ | refine Zm rfl (Ym (tn rfl) rfl (Zn (hbc 4 _ rfl) hbl) rfl) ?_ | refine Zm rfl (Ym (tn rfl) rfl (Zn hrHa hbHa) rfl) ?_ | refine Zm rfl (Ym (tn rfl) rfl (Zn hrHb hbHb) rfl) ?_ | refine Zm rfl (Ym (tn rfl) rfl (Yt hcHa hkHa) rfl) ?_ | refine Zm rfl (Ym (tn rfl) rfl (Yt hcHb hkHb) rfl) ?_)
      refine Zm rfl (Zd rfl) (Zm rfl (Ys rfl) (Zm rfl (Zh (ff rfl) rfl) ?_))
      (first | refine Zm rfl (Zj (t1 rfl) rfl (Zn (hac 4 _ rfl) hal)) ?_ | refine Zm rfl (Zj (t1 rfl) rfl (Zn (hbc 4 _ rfl) hbl)) ?_ | refine Zm rfl (Zj (t1 rfl) rfl (Zn hrHa hbHa)) ?_ | refine Zm rfl (Zj (t1 rfl) rfl (Zn hrHb hbHb)) ?_ | refine Zm rfl (Zj (t1 rfl) rfl (Yt hcHa hkHa)) ?_ | refine Zm rfl (Zj (t1 rfl) rfl (Yt hcHb hkHb)) ?_)
      refine Zm rfl (Zd rfl) (Zm rfl (Xk (ts rfl) rfl rfl ?_) ?_)
      ·omega
      (first | refine Zm rfl (Zj (t1 rfl) rfl (Zn (hac 4 _ rfl) hal)) ?_ | refine Zm rfl (Zj (t1 rfl) rfl (Zn (hbc 4 _ rfl) hbl)) ?_ | refine Zm rfl (Zj (t1 rfl) rfl (Zn hrHa hbHa)) ?_ | refine Zm rfl (Zj (t1 rfl) rfl (Zn hrHb hbHb)) ?_ | refine Zm rfl (Zj (t1 rfl) rfl (Yt hcHa hkHa)) ?_ | refine Zm rfl (Zj (t1 rfl) rfl (Yt hcHb hkHb)) ?_)
      refine Zm rfl (Zd rfl) (Zm rfl (Xk (ts rfl) rfl rfl ?_) ?_)
      ·omega
      (first | refine Zm rfl (Ym (tn rfl) rfl (Zn (hac 4 _ rfl) hal) rfl) ?_ | refine Zm rfl (Ym (tn rfl) rfl (Zn (hbc 4 _ rfl) hbl) rfl) ?_ | refine Zm rfl (Ym (tn rfl) rfl (Zn hrHa hbHa) rfl) ?_ | refine Zm rfl (Ym (tn rfl) rfl (Zn hrHb hbHb) rfl) ?_ | refine Zm rfl (Ym (tn rfl) rfl (Yt hcHa hkHa) rfl) ?_ | refine Zm rfl (Ym (tn rfl) rfl (Yt hcHb hkHb) rfl) ?_)
      refine Zm rfl (Ex_neqHd0 rfl rfl) (WO_nil (Zc (WC_false rfl (Zw (Zx ?_)))))
      refine Zc (Zb (Za rfl (Zd rfl) ?_))
      (first | (refine Za rfl (Xa rfl rfl ?_) ?_; omega) | (refine Za rfl (Yp rfl rfl ?_) ?_; omega) | refine Za rfl (Yz rfl rfl) ?_)
      refine Za rfl (Zg rfl) (Ze ?_)
      refine Yn (k5 + 1) ?_ (by omega) 0 rfl (rfl) ⟨rfl, rfl, rfl, rfl, trivial⟩
      omega
     ·intro c9
      try (first | replace c9 := dFa c9 | replace c9 := Zi c9)
      refine Yx (Yw (Yo (Yv (Zx (Zc ?_)))))
      refine Zb (Za rfl (Zd rfl) ?_)
      (first | (refine Za rfl (Xa rfl rfl ?_) ?_; omega) | (refine Za rfl (Yp rfl rfl ?_) ?_; omega) | refine Za rfl (Yz rfl rfl) ?_)
      refine Za rfl (Zg rfl) (Ze ?_)
      refine Yn (i5 + 1) ?_ (by omega) 0 rfl (rfl) ⟨rfl, rfl, rfl, trivial⟩
      omega
    ·intro c8
     try (first | replace c8 := dFa c8 | replace c8 := Zi c8)
     refine Yx (Yw (Yo (Yv (Zc (Zf ?_)))))
     refine Zf (Zb (Za rfl (Zg rfl) (Ze (Zc (Zs ?_)))))
     refine Xh (E' := (fun i7 : Nat => [(0, .pointer (some ⟨a, 0, none⟩)), (1, .pointer (some ⟨b, 0, none⟩)), (13, .int .i64 (i7 : Nat))]) (0)) ⟨rfl, rfl, rfl, trivial⟩ (Yy (X := Nat) (fun i7 : Nat => [(0, .pointer (some ⟨a, 0, none⟩)), (1, .pointer (some ⟨b, 0, none⟩)), (13, .int .i64 (i7 : Nat))]) _ _ (fun i7 : Nat => []) (fun i7 : Nat => Asr.none) (fun i7 : Nat => i7 ≤ LM.length) (fun i7 : Nat => LM.length - i7) (0) (Nat.zero_le _) ?_)
     intro i7 hI
     refine Zf (Zf (Zb (Za rfl (Zd rfl) (Za rfl (Zd rfl) (Za rfl (Ys rfl) ?_)))))
     refine Za rfl (Zh (ff rfl) rfl) (Za rfl (Zj (t1 rfl) rfl (Zn (hac 3 _ rfl) hal)) (Za rfl (Yg (ts rfl) rfl) (Za rfl (Xb rfl rfl) (Ze (Zc ?_)))))
     refine Yi rfl ?_ ?_
     ·intro c11
      try (first | replace c11 := dTr c11 | replace c11 := Zk c11)
      have hiM : i7 < LM.length := by omega
      obtain ⟨lM, hlM⟩ : ∃ u, LM[i7]? = some u := ⟨_, List.getElem?_eq_getElem hiM⟩
      obtain ⟨gMa, rMa, hgMa, hbMa, hrMa, haMa⟩ := hyMa.out i7 lM hlM
      subst hgMa
      obtain ⟨gMb, rMb, hgMb, hbMb, hrMb, haMb⟩ := hyMb.out i7 lM hlM
      subst hgMb
      obtain ⟨qMa, dMa, heMa, hdMa, hfMa⟩ := haMa.is
      subst heMa
      replace hfMa : Hid _ := hfMa
      obtain ⟨qMb, dMb, heMb, hdMb, hfMb⟩ := haMb.is
      subst heMb
      replace hfMb : Hid _ := hfMb
      refine Zw (Zc (Zf (Zs (Zf (Zb ?_)))))
      refine Za rfl (Zg rfl) (Ze (Zc (Zs (Xh (E' := (fun k7 : Nat => [(0, .pointer (some ⟨a, 0, none⟩)), (1, .pointer (some ⟨b, 0, none⟩)), (13, .int .i64 (i7 : Nat)), (14, .int .i64 (k7 : Nat))]) (0)) ⟨rfl, rfl, rfl, rfl, trivial⟩ (Yy (X := Nat) (fun k7 : Nat => [(0, .pointer (some ⟨a, 0, none⟩)), (1, .pointer (some ⟨b, 0, none⟩)), (13, .int .i64 (i7 : Nat)), (14, .int .i64 (k7 : Nat))]) _ _ (fun k7 : Nat => []) (fun k7 : Nat => Asr.none) (fun k7 : Nat => k7 ≤ lM.length) (fun k7 : Nat => lM.length - k7) (0) (Nat.zero_le _) ?_)))))
      intro k7 hI
      refine Zf (Zf (Zb (Za rfl (Zd rfl) (Za rfl (Zd rfl) (Za rfl (Ys rfl) ?_)))))
      refine Za rfl (Zh (ff rfl) rfl) ?_
      (first | refine Za rfl (Zj (t1 rfl) rfl (Zn (hac 3 _ rfl) hal)) ?_ | refine Za rfl (Zj (t1 rfl) rfl (Zn hrMa hbMa)) ?_)
      refine Za rfl (Zd rfl) (Za rfl (Xk (ts rfl) rfl rfl ?_) ?_)
      ·omega
      (first | refine Za rfl (Zj (t1 rfl) rfl (Zn (hac 3 _ rfl) hal)) ?_ | refine Za rfl (Zj (t1 rfl) rfl (Zn hrMa hbMa)) ?_)
      refine Za rfl (Yg (ts rfl) rfl) (Za rfl (Xb rfl rfl) (Ze (Zc (Yi rfl ?_ ?_))))
      ·intro c12
       try (first | replace c12 := dTr c12 | replace c12 := Zk c12)
       have hjM : k7 < lM.length := by omega
       obtain ⟨yM, hyM⟩ : ∃ u, lM[k7]? = some u := ⟨_, List.getElem?_eq_getElem hjM⟩
       obtain ⟨bMa, oMa, zMa, hpMa, hkMa, ⟨m1a, m2a, m3a, m4a, hzMa, hma⟩, hcMa⟩ := hfMa.out k7 yM hyM
       subst hpMa; subst hzMa
       obtain ⟨bMb, oMb, zMb, hpMb, hkMb, ⟨m1b, m2b, m3b, m4b, hzMb, hmb⟩, hcMb⟩ := hfMb.out k7 yM hyM
       subst hpMb; subst hzMb
       refine Zw (Zc (Zf (Zs (Zf (WC_draw mixed (by kernel_rfl) ?_)))))
       refine Zm rfl (Zd rfl) (Zm rfl (Ys rfl) (Zm rfl (Zh (ff rfl) rfl) ?_))
       (first | refine Zm rfl (Zj (t1 rfl) rfl (Zn (hac 3 _ rfl) hal)) ?_ | refine Zm rfl (Zj (t1 rfl) rfl (Zn (hbc 3 _ rfl) hbl)) ?_ | refine Zm rfl (Zj (t1 rfl) rfl (Zn hrMa hbMa)) ?_ | refine Zm rfl (Zj (t1 rfl) rfl (Zn hrMb hbMb)) ?_ | refine Zm rfl (Zj (t1 rfl) rfl (Yt hcMa hkMa)) ?_ | refine Zm rfl (Zj (t1 rfl) rfl (Yt hcMb hkMb)) ?_)
       refine Zm rfl (Zd rfl) (Zm rfl (Xk (ts rfl) rfl rfl ?_) ?_)
       ·omega
       (first | refine Zm rfl (Zj (t1 rfl) rfl (Zn (hac 3 _ rfl) hal)) ?_ | refine Zm rfl (Zj (t1 rfl) rfl (Zn (hbc 3 _ rfl) hbl)) ?_ | refine Zm rfl (Zj (t1 rfl) rfl (Zn hrMa hbMa)) ?_ | refine Zm rfl (Zj (t1 rfl) rfl (Zn hrMb hbMb)) ?_ | refine Zm rfl (Zj (t1 rfl) rfl (Yt hcMa hkMa)) ?_ | refine Zm rfl (Zj (t1 rfl) rfl (Yt hcMb hkMb)) ?_)
       refine Zm rfl (Zd rfl) (Zm rfl (Xk (ts rfl) rfl rfl ?_) ?_)
       ·omega
       (first | refine Zm rfl (Ym (tn rfl) rfl (Zn (hac 3 _ rfl) hal) rfl) ?_ | refine Zm rfl (Ym (tn rfl) rfl (Zn (hbc 3 _ rfl) hbl) rfl) ?_ | refine Zm rfl (Ym (tn rfl) rfl (Zn hrMa hbMa) rfl) ?_ | refine Zm rfl (Ym (tn rfl) rfl (Zn hrMb hbMb) rfl) ?_ | refine Zm rfl (Ym (tn rfl) rfl (Yt hcMa hkMa) rfl) ?_ | refine Zm rfl (Ym (tn rfl) rfl (Yt hcMb hkMb) rfl) ?_)
       refine Zm rfl (Zd rfl) (Zm rfl (Ys rfl) (Zm rfl (Zh (ff rfl) rfl) ?_))
       (first | refine Zm rfl (Zj (t1 rfl) rfl (Zn (hac 3 _ rfl) hal)) ?_ | refine Zm rfl (Zj (t1 rfl) rfl (Zn (hbc 3 _ rfl) hbl)) ?_ | refine Zm rfl (Zj (t1 rfl) rfl (Zn hrMa hbMa)) ?_ | refine Zm rfl (Zj (t1 rfl) rfl (Zn hrMb hbMb)) ?_ | refine Zm rfl (Zj (t1 rfl) rfl (Yt hcMa hkMa)) ?_ | refine Zm rfl (Zj (t1 rfl) rfl (Yt hcMb hkMb)) ?_)
       refine Zm rfl (Zd rfl) (Zm rfl (Xk (ts rfl) rfl rfl ?_) ?_)
       ·omega
       (first | refine Zm rfl (Zj (t1 rfl) rfl (Zn (hac 3 _ rfl) hal)) ?_ | refine Zm rfl (Zj (t1 rfl) rfl (Zn (hbc 3 _ rfl) hbl)) ?_ | refine Zm rfl (Zj (t1 rfl) rfl (Zn hrMa hbMa)) ?_ | refine Zm rfl (Zj (t1 rfl) rfl (Zn hrMb hbMb)) ?_ | refine Zm rfl (Zj (t1 rfl) rfl (Yt hcMa hkMa)) ?_ | refine Zm rfl (Zj (t1 rfl) rfl (Yt hcMb hkMb)) ?_)
       refine Zm rfl (Zd rfl) (Zm rfl (Xk (ts rfl) rfl rfl ?_) ?_)
       ·omega
       (first | refine Zm rfl (Ym (tn rfl) rfl (Zn (hac 3 _ rfl) hal) rfl) ?_ | refine Zm rfl (Ym (tn rfl) rfl (Zn (hbc 3 _ rfl) hbl) rfl) ?_ | refine Zm rfl (Ym (tn rfl) rfl (Zn hrMa hbMa) rfl) ?_ | refine Zm rfl (Ym (tn rfl) rfl (Zn hrMb hbMb) rfl) ?_ | refine Zm rfl (Ym (tn rfl) rfl (Yt hcMa hkMa) rfl) ?_ | refine Zm rfl (Ym (tn rfl) rfl (Yt hcMb hkMb) rfl) ?_)
       refine WO_call fn53 rfl rfl (fun w hs => sameMethod_any yM _ _ _ _ _ _ _ _ w (hma.mono (lowOf hs)) (hmb.mono (lowOf hs))) ?_
       refine Zm rfl (Zg rfl) (WO_nil (Zc (Zf (Zb (Za rfl (Zd rfl) ?_)))))
       refine Za rfl (Ex_not rfl) (Ze (Zc (WC_false rfl (Zw (Zx ?_)))))
       refine Zc (Zb (Za rfl (Zd rfl) ?_))
       (first | (refine Za rfl (Xa rfl rfl ?_) ?_; omega) | (refine Za rfl (Yp rfl rfl ?_) ?_; omega) | refine Za rfl (Yz rfl rfl) ?_)
       refine Za rfl (Zg rfl) (Ze ?_)
       refine Yn (k7 + 1) ?_ (by omega) 0 rfl (rfl) ⟨rfl, rfl, rfl, rfl, trivial⟩
       omega
      ·intro c12
       try (first | replace c12 := dFa c12 | replace c12 := Zi c12)
       refine Yx (Yw (Yo (Yv (Zx (Zc ?_)))))
       refine Zb (Za rfl (Zd rfl) ?_)
       (first | (refine Za rfl (Xa rfl rfl ?_) ?_; omega) | (refine Za rfl (Yp rfl rfl ?_) ?_; omega) | refine Za rfl (Yz rfl rfl) ?_)
       refine Za rfl (Zg rfl) (Ze ?_)
       refine Yn (i7 + 1) ?_ (by omega) 0 rfl (rfl) ⟨rfl, rfl, rfl, trivial⟩
       omega
     ·intro c11
      try (first | replace c11 := dFa c11 | replace c11 := Zi c11)
      refine Yx (Yw (Yo (Yv (Zc (Zf ?_)))))
      refine Zf (Zb (Za rfl (Zg rfl) (Ze (Zc (Zs ?_)))))
      refine Xh (E' := (fun i9 : Nat => [(0, .pointer (some ⟨a, 0, none⟩)), (1, .pointer (some ⟨b, 0, none⟩)), (16, .int .i64 (i9 : Nat))]) (0)) ⟨rfl, rfl, rfl, trivial⟩ (Yy (X := Nat) (fun i9 : Nat => [(0, .pointer (some ⟨a, 0, none⟩)), (1, .pointer (some ⟨b, 0, none⟩)), (16, .int .i64 (i9 : Nat))]) _ _ (fun i9 : Nat => []) (fun i9 : Nat => Asr.none) (fun i9 : Nat => i9 ≤ LR.length) (fun i9 : Nat => LR.length - i9) (0) (Nat.zero_le _) ?_)
      intro i9 hI
      refine Zf (Zf (Zb (Za rfl (Zd rfl) (Za rfl (Zd rfl) (Za rfl (Ys rfl) ?_)))))
      refine Za rfl (Zh (ff rfl) rfl) (Za rfl (Zj (t1 rfl) rfl (Zn (hac 5 _ rfl) hal)) (Za rfl (Yg (ts rfl) rfl) (Za rfl (Xb rfl rfl) (Ze (Zc ?_)))))
      refine Yi rfl ?_ ?_
      ·intro c14
       try (first | replace c14 := dTr c14 | replace c14 := Zk c14)
       have hiR : i9 < LR.length := by omega
       obtain ⟨lR, hlR⟩ : ∃ u, LR[i9]? = some u := ⟨_, List.getElem?_eq_getElem hiR⟩
       obtain ⟨gRa, rRa, hgRa, hbRa, hrRa, haRa⟩ := hyRa.out i9 lR hlR
       subst hgRa
       obtain ⟨gRb, rRb, hgRb, hbRb, hrRb, haRb⟩ := hyRb.out i9 lR hlR
       subst hgRb
       obtain ⟨qRa, dRa, heRa, hdRa, hfRa⟩ := haRa.is
       subst heRa
       replace hfRa : Hid _ := hfRa
       obtain ⟨qRb, dRb, heRb, hdRb, hfRb⟩ := haRb.is
       subst heRb
       replace hfRb : Hid _ := hfRb
       refine Zw (Zc (Zf (Zs (Zf (Zb ?_)))))
       refine Za rfl (Zg rfl) (Ze (Zc (Zs (Xh (E' := (fun k9 : Nat => [(0, .pointer (some ⟨a, 0, none⟩)), (1, .pointer (some ⟨b, 0, none⟩)), (16, .int .i64 (i9 : Nat)), (17, .int .i64 (k9 : Nat))]) (0)) ⟨rfl, rfl, rfl, rfl, trivial⟩ (Yy (X := Nat) (fun k9 : Nat => [(0, .pointer (some ⟨a, 0, none⟩)), (1, .pointer (some ⟨b, 0, none⟩)), (16, .int .i64 (i9 : Nat)), (17, .int .i64 (k9 : Nat))]) _ _ (fun k9 : Nat => []) (fun k9 : Nat => Asr.none) (fun k9 : Nat => k9 ≤ lR.length) (fun k9 : Nat => lR.length - k9) (0) (Nat.zero_le _) ?_)))))
       intro k9 hI
       refine Zf (Zf (Zb (Za rfl (Zd rfl) (Za rfl (Zd rfl) (Za rfl (Ys rfl) ?_)))))
       refine Za rfl (Zh (ff rfl) rfl) ?_
       (first | refine Za rfl (Zj (t1 rfl) rfl (Zn (hac 5 _ rfl) hal)) ?_ | refine Za rfl (Zj (t1 rfl) rfl (Zn hrRa hbRa)) ?_)
       refine Za rfl (Zd rfl) (Za rfl (Xk (ts rfl) rfl rfl ?_) ?_)
       ·omega
       (first | refine Za rfl (Zj (t1 rfl) rfl (Zn (hac 5 _ rfl) hal)) ?_ | refine Za rfl (Zj (t1 rfl) rfl (Zn hrRa hbRa)) ?_)
       refine Za rfl (Yg (ts rfl) rfl) (Za rfl (Xb rfl rfl) (Ze (Zc (Yi rfl ?_ ?_))))
       ·intro c15
        try (first | replace c15 := dTr c15 | replace c15 := Zk c15)
        have hjR : k9 < lR.length := by omega
        obtain ⟨yR, hyR⟩ : ∃ u, lR[k9]? = some u := ⟨_, List.getElem?_eq_getElem hjR⟩
        obtain ⟨bRa, oRa, zRa, hpRa, hkRa, ⟨f1a, f2a, hzRa, hf1a, hf2a, -⟩, hcRa⟩ := hfRa.out k9 yR hyR
        subst hpRa; subst hzRa
        obtain ⟨bRb, oRb, zRb, hpRb, hkRb, ⟨f1b, f2b, hzRb, hf1b, hf2b, -⟩, hcRb⟩ := hfRb.out k9 yR hyR
        subst hpRb; subst hzRb
        refine Zw (Zc (Zf (Zs (Zf (WC_draw mixed (by kernel_rfl) ?_)))))
        refine Zm rfl (Zd rfl) (Zm rfl (Ys rfl) (Zm rfl (Zh (ff rfl) rfl) ?_))
        (first | refine Zm rfl (Zj (t1 rfl) rfl (Zn (hac 5 _ rfl) hal)) ?_ | refine Zm rfl (Zj (t1 rfl) rfl (Zn (hbc 5 _ rfl) hbl)) ?_ | refine Zm rfl (Zj (t1 rfl) rfl (Zn hrRa hbRa)) ?_ | refine Zm rfl (Zj (t1 rfl) rfl (Zn hrRb hbRb)) ?_ | refine Zm rfl (Zj (t1 rfl) rfl (Zn (hcRa 1 _ rfl) hkRa)) ?_ | refine Zm rfl (Zj (t1 rfl) rfl (Zn (hcRb 1 _ rfl) hkRb)) ?_)
        refine Zm rfl (Zd rfl) (Zm rfl (Xk (ts rfl) rfl rfl ?_) ?_)
        ·omega
        (first | refine Zm rfl (Zj (t1 rfl) rfl (Zn (hac 5 _ rfl) hal)) ?_ | refine Zm rfl (Zj (t1 rfl) rfl (Zn (hbc 5 _ rfl) hbl)) ?_ | refine Zm rfl (Zj (t1 rfl) rfl (Zn hrRa hbRa)) ?_ | refine Zm rfl (Zj (t1 rfl) rfl (Zn hrRb hbRb)) ?_ | refine Zm rfl (Zj (t1 rfl) rfl (Zn (hcRa 1 _ rfl) hkRa)) ?_ | refine Zm rfl (Zj (t1 rfl) rfl (Zn (hcRb 1 _ rfl) hkRb)) ?_)
        refine Zm rfl (Zd rfl) (Zm rfl (Xk (ts rfl) rfl rfl ?_) ?_)
        ·omega
        refine Zm rfl (Zh (ff rfl) rfl) ?_
        (first | refine Zm rfl (Zj (t1 rfl) rfl (Zn (hac 5 _ rfl) hal)) ?_ | refine Zm rfl (Zj (t1 rfl) rfl (Zn (hbc 5 _ rfl) hbl)) ?_ | refine Zm rfl (Zj (t1 rfl) rfl (Zn hrRa hbRa)) ?_ | refine Zm rfl (Zj (t1 rfl) rfl (Zn hrRb hbRb)) ?_ | refine Zm rfl (Zj (t1 rfl) rfl (Zn (hcRa 1 _ rfl) hkRa)) ?_ | refine Zm rfl (Zj (t1 rfl) rfl (Zn (hcRb 1 _ rfl) hkRb)) ?_)
        refine Zm rfl (Zd rfl) (Zm rfl (Ys rfl) (Zm rfl (Zh (ff rfl) rfl) ?_))
        (first | refine Zm rfl (Zj (t1 rfl) rfl (Zn (hac 5 _ rfl) hal)) ?_ | refine Zm rfl (Zj (t1 rfl) rfl (Zn (hbc 5 _ rfl) hbl)) ?_ | refine Zm rfl (Zj (t1 rfl) rfl (Zn hrRa hbRa)) ?_ | refine Zm rfl (Zj (t1 rfl) rfl (Zn hrRb hbRb)) ?_ | refine Zm rfl (Zj (t1 rfl) rfl (Zn (hcRa 1 _ rfl) hkRa)) ?_ | refine Zm rfl (Zj (t1 rfl) rfl (Zn (hcRb 1 _ rfl) hkRb)) ?_)
        refine Zm rfl (Zd rfl) (Zm rfl (Xk (ts rfl) rfl rfl ?_) ?_)
        ·omega
        (first | refine Zm rfl (Zj (t1 rfl) rfl (Zn (hac 5 _ rfl) hal)) ?_ | refine Zm rfl (Zj (t1 rfl) rfl (Zn (hbc 5 _ rfl) hbl)) ?_ | refine Zm rfl (Zj (t1 rfl) rfl (Zn hrRa hbRa)) ?_ | refine Zm rfl (Zj (t1 rfl) rfl (Zn hrRb hbRb)) ?_ | refine Zm rfl (Zj (t1 rfl) rfl (Zn (hcRa 1 _ rfl) hkRa)) ?_ | refine Zm rfl (Zj (t1 rfl) rfl (Zn (hcRb 1 _ rfl) hkRb)) ?_)
        refine Zm rfl (Zd rfl) (Zm rfl (Xk (ts rfl) rfl rfl ?_) ?_)
        ·omega
        refine Zm rfl (Zh (ff rfl) rfl) ?_
        (first | refine Zm rfl (Zj (t1 rfl) rfl (Zn (hac 5 _ rfl) hal)) ?_ | refine Zm rfl (Zj (t1 rfl) rfl (Zn (hbc 5 _ rfl) hbl)) ?_ | refine Zm rfl (Zj (t1 rfl) rfl (Zn hrRa hbRa)) ?_ | refine Zm rfl (Zj (t1 rfl) rfl (Zn hrRb hbRb)) ?_ | refine Zm rfl (Zj (t1 rfl) rfl (Zn (hcRa 1 _ rfl) hkRa)) ?_ | refine Zm rfl (Zj (t1 rfl) rfl (Zn (hcRb 1 _ rfl) hkRb)) ?_)
        refine WO_call fn79 rfl rfl (fun w hs => sameTypes_any _ _ yR.locals w (hf1a.mono (lowOf hs)) (hf1b.mono (lowOf hs))) ?_
        refine Zm rfl (Zg rfl) (WO_nil (Zc (Zf (WC_draw mixed (by kernel_rfl) ?_))))
        refine Zm rfl (Zd rfl) (Zm rfl (Ys rfl) (Zm rfl (Zh (ff rfl) rfl) ?_))
        (first | refine Zm rfl (Zj (t1 rfl) rfl (Zn (hac 5 _ rfl) hal)) ?_ | refine Zm rfl (Zj (t1 rfl) rfl (Zn (hbc 5 _ rfl) hbl)) ?_ | refine Zm rfl (Zj (t1 rfl) rfl (Zn hrRa hbRa)) ?_ | refine Zm rfl (Zj (t1 rfl) rfl (Zn hrRb hbRb)) ?_ | refine Zm rfl (Zj (t1 rfl) rfl (Zn (hcRa 2 _ rfl) hkRa)) ?_ | refine Zm rfl (Zj (t1 rfl) rfl (Zn (hcRb 2 _ rfl) hkRb)) ?_)
        refine Zm rfl (Zd rfl) (Zm rfl (Xk (ts rfl) rfl rfl ?_) ?_)
        ·omega
        (first | refine Zm rfl (Zj (t1 rfl) rfl (Zn (hac 5 _ rfl) hal)) ?_ | refine Zm rfl (Zj (t1 rfl) rfl (Zn (hbc 5 _ rfl) hbl)) ?_ | refine Zm rfl (Zj (t1 rfl) rfl (Zn hrRa hbRa)) ?_ | refine Zm rfl (Zj (t1 rfl) rfl (Zn hrRb hbRb)) ?_ | refine Zm rfl (Zj (t1 rfl) rfl (Zn (hcRa 2 _ rfl) hkRa)) ?_ | refine Zm rfl (Zj (t1 rfl) rfl (Zn (hcRb 2 _ rfl) hkRb)) ?_)
        refine Zm rfl (Zd rfl) (Zm rfl (Xk (ts rfl) rfl rfl ?_) ?_)
        ·omega
        refine Zm rfl (Zh (ff rfl) rfl) ?_
        (first | refine Zm rfl (Zj (t1 rfl) rfl (Zn (hac 5 _ rfl) hal)) ?_ | refine Zm rfl (Zj (t1 rfl) rfl (Zn (hbc 5 _ rfl) hbl)) ?_ | refine Zm rfl (Zj (t1 rfl) rfl (Zn hrRa hbRa)) ?_ | refine Zm rfl (Zj (t1 rfl) rfl (Zn hrRb hbRb)) ?_ | refine Zm rfl (Zj (t1 rfl) rfl (Zn (hcRa 2 _ rfl) hkRa)) ?_ | refine Zm rfl (Zj (t1 rfl) rfl (Zn (hcRb 2 _ rfl) hkRb)) ?_)
        refine Zm rfl (Zd rfl) (Zm rfl (Ys rfl) (Zm rfl (Zh (ff rfl) rfl) ?_))
        (first | refine Zm rfl (Zj (t1 rfl) rfl (Zn (hac 5 _ rfl) hal)) ?_ | refine Zm rfl (Zj (t1 rfl) rfl (Zn (hbc 5 _ rfl) hbl)) ?_ | refine Zm rfl (Zj (t1 rfl) rfl (Zn hrRa hbRa)) ?_ | refine Zm rfl (Zj (t1 rfl) rfl (Zn hrRb hbRb)) ?_ | refine Zm rfl (Zj (t1 rfl) rfl (Zn (hcRa 2 _ rfl) hkRa)) ?_ | refine Zm rfl (Zj (t1 rfl) rfl (Zn (hcRb 2 _ rfl) hkRb)) ?_)
        refine Zm rfl (Zd rfl) (Zm rfl (Xk (ts rfl) rfl rfl ?_) ?_)
        ·omega
        (first | refine Zm rfl (Zj (t1 rfl) rfl (Zn (hac 5 _ rfl) hal)) ?_ | refine Zm rfl (Zj (t1 rfl) rfl (Zn (hbc 5 _ rfl) hbl)) ?_ | refine Zm rfl (Zj (t1 rfl) rfl (Zn hrRa hbRa)) ?_ | refine Zm rfl (Zj (t1 rfl) rfl (Zn hrRb hbRb)) ?_ | refine Zm rfl (Zj (t1 rfl) rfl (Zn (hcRa 2 _ rfl) hkRa)) ?_ | refine Zm rfl (Zj (t1 rfl) rfl (Zn (hcRb 2 _ rfl) hkRb)) ?_)
        refine Zm rfl (Zd rfl) (Zm rfl (Xk (ts rfl) rfl rfl ?_) ?_)
        ·omega
        refine Zm rfl (Zh (ff rfl) rfl) ?_
        (first | refine Zm rfl (Zj (t1 rfl) rfl (Zn (hac 5 _ rfl) hal)) ?_ | refine Zm rfl (Zj (t1 rfl) rfl (Zn (hbc 5 _ rfl) hbl)) ?_ | refine Zm rfl (Zj (t1 rfl) rfl (Zn hrRa hbRa)) ?_ | refine Zm rfl (Zj (t1 rfl) rfl (Zn hrRb hbRb)) ?_ | refine Zm rfl (Zj (t1 rfl) rfl (Zn (hcRa 2 _ rfl) hkRa)) ?_ | refine Zm rfl (Zj (t1 rfl) rfl (Zn (hcRb 2 _ rfl) hkRb)) ?_)
        refine WO_call fn79 rfl rfl (fun w hs => sameTypes_any _ _ yR.stack w (hf2a.mono (lowOf hs)) (hf2b.mono (lowOf hs))) ?_
        refine Zm rfl (Zg rfl) (WO_nil (Zc (Zf (WC_draw mixed (by kernel_rfl) ?_))))
        refine Zm rfl (Zd rfl) (Zm rfl (Ex_not rfl) (Zm rfl (Zd rfl) (Yf rfl rfl rfl (Zd rfl) (Yf rfl rfl rfl (Ex_not rfl) (Zm rfl (Zz rfl rfl) ?_)))))
        refine Zm rfl (Zd rfl) (Yf rfl rfl rfl (Zd rfl) (Yf rfl rfl rfl (Ys rfl) (Yf rfl rfl rfl (Zh (ff rfl) rfl) ?_)))
        (first | refine Yf rfl rfl rfl (Zj (t1 rfl) rfl (Zn (hac 5 _ rfl) hal)) ?_ | refine Yf rfl rfl rfl (Zj (t1 rfl) rfl (Zn (hbc 5 _ rfl) hbl)) ?_ | refine Yf rfl rfl rfl (Zj (t1 rfl) rfl (Zn hrRa hbRa)) ?_ | refine Yf rfl rfl rfl (Zj (t1 rfl) rfl (Zn hrRb hbRb)) ?_ | refine Yf rfl rfl rfl (Zj (t1 rfl) rfl (Zn (hcRa 0 _ rfl) hkRa)) ?_ | refine Yf rfl rfl rfl (Zj (t1 rfl) rfl (Zn (hcRb 0 _ rfl) hkRb)) ?_)
        refine Yf rfl rfl rfl (Zd rfl) (Yf rfl rfl rfl (Xk (ts rfl) rfl rfl ?_) ?_)
        ·omega
        (first | refine Yf rfl rfl rfl (Zj (t1 rfl) rfl (Zn (hac 5 _ rfl) hal)) ?_ | refine Yf rfl rfl rfl (Zj (t1 rfl) rfl (Zn (hbc 5 _ rfl) hbl)) ?_ | refine Yf rfl rfl rfl (Zj (t1 rfl) rfl (Zn hrRa hbRa)) ?_ | refine Yf rfl rfl rfl (Zj (t1 rfl) rfl (Zn hrRb hbRb)) ?_ | refine Yf rfl rfl rfl (Zj (t1 rfl) rfl (Zn (hcRa 0 _ rfl) hkRa)) ?_ | refine Yf rfl rfl rfl (Zj (t1 rfl) rfl (Zn (hcRb 0 _ rfl) hkRb)) ?_)
        refine Yf rfl rfl rfl (Zd rfl) (Yf rfl rfl rfl (Xk (ts rfl) rfl rfl ?_) ?_)
        ·omega
        refine Yf rfl rfl rfl (Zh (ff rfl) rfl) ?_
        (first | refine Yf rfl rfl rfl (Zj (t1 rfl) rfl (Zn (hac 5 _ rfl) hal)) ?_ | refine Yf rfl rfl rfl (Zj (t1 rfl) rfl (Zn (hbc 5 _ rfl) hbl)) ?_ | refine Yf rfl rfl rfl (Zj (t1 rfl) rfl (Zn hrRa hbRa)) ?_ | refine Yf rfl rfl rfl (Zj (t1 rfl) rfl (Zn hrRb hbRb)) ?_ | refine Yf rfl rfl rfl (Zj (t1 rfl) rfl (Zn (hcRa 0 _ rfl) hkRa)) ?_ | refine Yf rfl rfl rfl (Zj (t1 rfl) rfl (Zn (hcRb 0 _ rfl) hkRb)) ?_)
        refine Yf rfl rfl rfl (Zd rfl) (Yf rfl rfl rfl (Ys rfl) (Yf rfl rfl rfl (Zh (ff rfl) rfl) ?_))
        (first | refine Yf rfl rfl rfl (Zj (t1 rfl) rfl (Zn (hac 5 _ rfl) hal)) ?_ | refine Yf rfl rfl rfl (Zj (t1 rfl) rfl (Zn (hbc 5 _ rfl) hbl)) ?_ | refine Yf rfl rfl rfl (Zj (t1 rfl) rfl (Zn hrRa hbRa)) ?_ | refine Yf rfl rfl rfl (Zj (t1 rfl) rfl (Zn hrRb hbRb)) ?_ | refine Yf rfl rfl rfl (Zj (t1 rfl) rfl (Zn (hcRa 0 _ rfl) hkRa)) ?_ | refine Yf rfl rfl rfl (Zj (t1 rfl) rfl (Zn (hcRb 0 _ rfl) hkRb)) ?_)
        refine Yf rfl rfl rfl (Zd rfl) (Yf rfl rfl rfl (Xk (ts rfl) rfl rfl ?_) ?_)
        ·omega
        (first | refine Yf rfl rfl rfl (Zj (t1 rfl) rfl (Zn (hac 5 _ rfl) hal)) ?_ | refine Yf rfl rfl rfl (Zj (t1 rfl) rfl (Zn (hbc 5 _ rfl) hbl)) ?_ | refine Yf rfl rfl rfl (Zj (t1 rfl) rfl (Zn hrRa hbRa)) ?_ | refine Yf rfl rfl rfl (Zj (t1 rfl) rfl (Zn hrRb hbRb)) ?_ | refine Yf rfl rfl rfl (Zj (t1 rfl) rfl (Zn (hcRa 0 _ rfl) hkRa)) ?_ | refine Yf rfl rfl rfl (Zj (t1 rfl) rfl (Zn (hcRb 0 _ rfl) hkRb)) ?_)
        refine Yf rfl rfl rfl (Zd rfl) (Yf rfl rfl rfl (Xk (ts rfl) rfl rfl ?_) ?_)
        ·omega
        refine Yf rfl rfl rfl (Zh (ff rfl) rfl) ?_
        (first | refine Yf rfl rfl rfl (Zj (t1 rfl) rfl (Zn (hac 5 _ rfl) hal)) ?_ | refine Yf rfl rfl rfl (Zj (t1 rfl) rfl (Zn (hbc 5 _ rfl) hbl)) ?_ | refine Yf rfl rfl rfl (Zj (t1 rfl) rfl (Zn hrRa hbRa)) ?_ | refine Yf rfl rfl rfl (Zj (t1 rfl) rfl (Zn hrRb hbRb)) ?_ | refine Yf rfl rfl rfl (Zj (t1 rfl) rfl (Zn (hcRa 0 _ rfl) hkRa)) ?_ | refine Yf rfl rfl rfl (Zj (t1 rfl) rfl (Zn (hcRb 0 _ rfl) hkRb)) ?_)
        refine Yf rfl rfl rfl (Ex_neqI0 rfl rfl) (Zm rfl (Zz rfl rfl) (WO_nil (Zc (WC_false rfl (Zw ?_)))))
        refine Zx (Zc (Zb (Za rfl (Zd rfl) ?_)))
        (first | (refine Za rfl (Xa rfl rfl ?_) ?_; omega) | (refine Za rfl (Yp rfl rfl ?_) ?_; omega) | refine Za rfl (Yz rfl rfl) ?_)
        refine Za rfl (Zg rfl) (Ze ?_)
        refine Yn (k9 + 1) ?_ (by omega) 0 rfl (rfl) ⟨rfl, rfl, rfl, rfl, trivial⟩
        omega
       ·intro c15
        try (first | replace c15 := dFa c15 | replace c15 := Zi c15)
        refine Yx (Yw (Yo (Yv (Zx (Zc ?_)))))
        refine Zb (Za rfl (Zd rfl) ?_)
        (first | (refine Za rfl (Xa rfl rfl ?_) ?_; omega) | (refine Za rfl (Yp rfl rfl ?_) ?_; omega) | refine Za rfl (Yz rfl rfl) ?_)
        refine Za rfl (Zg rfl) (Ze ?_)
        refine Yn (i9 + 1) ?_ (by omega) 0 rfl (rfl) ⟨rfl, rfl, rfl, trivial⟩
        omega
      ·intro c14
       try (first | replace c14 := dFa c14 | replace c14 := Zi c14)
       refine Yx (Yw (Yo (Yv (Zc (Zf ?_)))))
       refine Zb (Za rfl (Zg rfl) (Ze (Zc (Zv (Yh rfl rfl ?_)))))
       rfl
end Go.Proofs.YtpofmnfkdkmieaaGreat
