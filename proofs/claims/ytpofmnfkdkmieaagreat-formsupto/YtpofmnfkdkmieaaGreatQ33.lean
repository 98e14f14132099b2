/- What is proved here: the statement's looking: every list that was kept still reads as its owner wrote it. -/
import Derived.Test.YtpofmnfkdkmieaaGreatQ32
set_option linter.unusedVariables false
set_option linter.unusedSimpArgs false
namespace Go.Proofs.YtpofmnfkdkmieaaGreat.E
open Go Go.RowKit
theorem Ex_eqlFld1 {n : Nat} {E : Env} {w0 : World} {F : List Nat} {H : Hp} {R : Asr} {t' : TypeId} {x y : Operand} {m : ByteArray} {b : Bool} {a : Int} {s : ByteArray} (hx : ev E x = some (.agg #[.string m, .bool b, .int .i64 a, .string s])) (hy : ev E y = some (.agg #[.string m, .bool b, .int .i64 a, .string s])) : Ex Tryz.prog n E w0 F H R (.binOp .eql 128 x y t') (.bool true) :=
 Ex_eqlN (r := true) (by kernel_rfl) hx hy (fun w => teFd m b a s w)
end Go.Proofs.YtpofmnfkdkmieaaGreat.E
namespace Go.Proofs.YtpofmnfkdkmieaaGreat
open Go Go.RowKit At E
def markAt (w : World) (u : Value) (m : List Value) : Prop := ∃ p n c, u = .slice p n c ∧ n ≤ maxLen ∧ ∀ j, j < n → ∃ g, p = some ⟨g, 0, none⟩ ∧ g < w.heap.size ∧ ∀ t x, m[t]? = some x → w.cell? ⟨g, 0 + j * m.length + t, none⟩ = some x
theorem markAt_of {w : World} {u : Value} {m : List Value} {x0 : Value} (h0 : m[0]? = some x0) (h : marked w u m) : markAt w u m := by
 obtain ⟨p, n, c, rfl, hb, hn⟩ := h
 refine ⟨p, n, c, rfl, hb, fun j hj => ?_⟩
 obtain ⟨g, rfl, hc⟩ := hn (by omega)
 refine ⟨g, rfl, World.block_lt_of_cell? w ⟨g, j * m.length + 0, none⟩ (hc j 0 x0 hj h0), fun t x hx => ?_⟩
 rw [Nat.zero_add]; exact hc j t x hj hx
structure SortAt (w : World) (v : Value) (mk : Nat → List Value) (vs : List Value) : Prop where
 is : ∃ p c, v = .slice p vs.length c ∧ vs.length ≤ 1099511627776 ∧ ∀ i u, vs[i]? = some u → ∃ g, p = some ⟨g, 0, none⟩ ∧ g < w.heap.size ∧ w.cell? ⟨g, 0 + i * 1, none⟩ = some u ∧ markAt w u (mk (i / 4))
theorem sortAt_of {w : World} {e : Nat} {v : Value} {mk : Nat → List Value} {vs : List Value} (h : (sortA e mk v vs).A w) (hl : vs.length ≤ 1099511627776) (hm : ∀ q, ∃ x, (mk q)[0]? = some x) : SortAt w v mk vs := by
 obtain ⟨p, c, rfl, hp⟩ := owns_form h.1
 refine ⟨p, c, rfl, hl, fun i u hi => ?_⟩
 have hlt : i < vs.length := by
  rcases Nat.lt_or_ge i vs.length with h' | h'
  ·exact h'
  ·rw [List.getElem?_eq_none h'] at hi; cases hi
 obtain ⟨g, rfl⟩ := hp (by omega)
 have hc := h.1.cells (g := g) rfl i u hi
 rw [Addr.add_lit] at hc
 obtain ⟨x, hx⟩ := hm (i / 4)
 refine ⟨g, rfl, (h.1.lt g rfl).2, by rw [Nat.mul_one]; exact hc, markAt_of hx (h.2.1 i u hi)⟩
structure BookAt (w : World) (b : Nat) (k : Bk) : Prop where
 cells : ∀ j x, k.C[j]? = some x → w.cell? ⟨b, j, none⟩ = some x
 lt : b < w.heap.size
 t : SortAt w k.vT tyMk k.sT
 i : SortAt w k.vI inMk k.sI
 f : SortAt w k.vF fdMk k.sF
 m : SortAt w k.vM meMk k.sM
 h : SortAt w k.vH hdMk k.sH
 r : SortAt w k.vR frMk k.sR
theorem markAt.mono {w w' : World} {u : Value} {m : List Value} (h : markAt w u m) (hb : Below w.heap.size w w') : markAt w' u m := by
 obtain ⟨p, n, c, rfl, hn, hj⟩ := h
 refine ⟨p, n, c, rfl, hn, fun j hjn => ?_⟩
 obtain ⟨g, rfl, hg, hc⟩ := hj j hjn
 exact ⟨g, rfl, Nat.lt_of_lt_of_le hg hb.size, fun t x hx => by rw [hb.cell (p := ⟨g, 0 + j * m.length + t, none⟩) hg]; exact hc t x hx⟩
theorem SortAt.mono {w w' : World} {v : Value} {mk : Nat → List Value} {vs : List Value} (h : SortAt w v mk vs) (hb : Below w.heap.size w w') : SortAt w' v mk vs := by
 obtain ⟨p, c, hv, hl, hr⟩ := h.is
 refine ⟨p, c, hv, hl, fun i u hi => ?_⟩
 obtain ⟨g, hp, hg, hc, hm⟩ := hr i u hi
 exact ⟨g, hp, Nat.lt_of_lt_of_le hg hb.size, by rw [hb.cell (p := ⟨g, 0 + i * 1, none⟩) hg]; exact hc, hm.mono hb⟩
theorem BookAt.mono {w w' : World} {b : Nat} {k : Bk} (h : BookAt w b k) (hb : Below w.heap.size w w') : BookAt w' b k :=
 ⟨fun j x hx => by rw [hb.cell (p := ⟨b, j, none⟩) h.lt]; exact h.cells j x hx, Nat.lt_of_lt_of_le h.lt hb.size, h.t.mono hb, h.i.mono hb, h.f.mono hb, h.m.mono hb, h.h.mono hb, h.r.mono hb⟩
theorem bookAt_of {w0 w : World} {F : List Nat} {H : Hp} {R : Asr} {b i : Nat} {k : Bk} {N : Nat} (hs : Sat w0 F H R w) (hp : H[i]? = some (b, k.C)) (hR : (bookA k).A w) (hk : BkOk k N) (hN : N ≤ 1099511627776) : BookAt w b k := by
 have hc := own_cells hs hp
 have ht := hk.t; have hi := hk.i; have hf := hk.f; have hm := hk.m; have hh := hk.h; have hr := hk.r
 exact ⟨hc.1, hc.2, sortAt_of hR.1 (by omega) (fun q => ⟨_, rfl⟩), sortAt_of hR.2.1.1 (by omega) (fun q => ⟨_, rfl⟩), sortAt_of hR.2.1.2.1.1 (by omega) (fun q => ⟨_, rfl⟩),
  sortAt_of hR.2.1.2.1.2.1.1 (by omega) (fun q => ⟨_, rfl⟩), sortAt_of hR.2.1.2.1.2.1.2.1.1 (by omega) (fun q => ⟨_, rfl⟩), sortAt_of hR.2.1.2.1.2.1.2.1.2.1 (by omega) (fun q => ⟨_, rfl⟩)⟩
theorem num100 (i : Nat) (h : i ≤ 1099511627776) : IntKind.i64.wrap (100 + IntKind.i64.wrap (((i : Nat) : Int).tdiv 4)) = 100 + ((i / 4 : Nat) : Int) := by rw [quo4 _ h]; exact wrap_in _ (by omega)
theorem tysAt_nil (w : World) : TysAt w nilS [] := ⟨none, 0, rfl, ⟨by simp, by simp⟩, fun i x hi => by simp at hi⟩
set_option maxHeartbeats 4000000 in
theorem code_any (b : Nat) (bk : Bk) (w : World) (hk : BookAt w b bk) : Pure Tryz.prog 51 #[.pointer (some ⟨b, 0, none⟩)] w (.bool true) := by
 obtain ⟨vT, vI, vF, vM, vH, vR, sT, sI, sF, sM, sH, sR⟩ := bk
 have hbc := hk.cells
 have hblt := hk.lt
 obtain ⟨pT, cT, hvT, hnT, hyT⟩ := hk.t.is
 obtain ⟨pI, cI, hvI, hnI, hyI⟩ := hk.i.is
 obtain ⟨pF, cF, hvF, hnF, hyF⟩ := hk.f.is
 obtain ⟨pM, cM, hvM, hnM, hyM⟩ := hk.m.is
 obtain ⟨pH, cH, hvH, hnH, hyH⟩ := hk.h.is
 obtain ⟨pR, cR, hvR, hnR, hyR⟩ := hk.r.is
 clear hk
 dsimp only at hvT hnT hyT hvI hnI hyI hvF hnF hyF hvM hnM hyM hvH hnH hyH hvR hnR hyR hbc
 subst hvT
 subst hvI
 subst hvF
 subst hvM
 subst hvH
 subst hvR
 replace hyT : Hid _ := hyT
 replace hyI : Hid _ := hyI
 replace hyF : Hid _ := hyF
 replace hyM : Hid _ := hyM
 replace hyH : Hid _ := hyH
 replace hyR : Hid _ := hyR
 replace hbc : ∀ j x, (bkC (.slice pT sT.length cT) (.slice pI sI.length cI) (.slice pF sF.length cF) (.slice pM sM.length cM) (.slice pH sH.length cH) (.slice pR sR.length cR))[j]? = some x → w.cell? ⟨b, j, none⟩ = some x := hbc
 refine opens (args := [.pointer (some ⟨b, 0, none⟩)]) Tryz.func51 rfl Tryz.ntmps51 ?_
 refine Zf (Zb (Za rfl (Zg rfl) (Ze (Zc (Zf ?_)))))
 refine Zf (Zb (Za rfl (Zg rfl) (Ze (Zc (Zs ?_)))))
 refine Xh (E' := (fun i1 : Nat => [(0, .pointer (some ⟨b, 0, none⟩)), (3, .int .i64 (i1 : Nat))]) (0)) ⟨rfl, rfl, trivial⟩ (Yy (X := Nat) (fun i1 : Nat => [(0, .pointer (some ⟨b, 0, none⟩)), (3, .int .i64 (i1 : Nat))]) _ _ (fun i1 : Nat => []) (fun i1 : Nat => Asr.none) (fun i1 : Nat => i1 ≤ sT.length) (fun i1 : Nat => sT.length - i1) (0) (Nat.zero_le _) ?_)
 intro i1 hI
 refine Zf (Zf (Zb (Za rfl (Zd rfl) (Za rfl (Zd rfl) (Za rfl (Ys rfl) ?_)))))
 refine Za rfl (Zh (ff rfl) rfl) (Za rfl (Zh (ff rfl) rfl) (Za rfl (Zj (t1 rfl) rfl (Zn (hbc 0 _ rfl) hblt)) (Za rfl (Yg (ts rfl) rfl) (Za rfl (Xb rfl rfl) (Ze ?_)))))
 refine Zc (Yi rfl ?_ ?_)
 ·intro c1
  try (first | replace c1 := dTr c1 | replace c1 := Zk c1)
  have hiT : i1 < sT.length := by omega
  obtain ⟨uT, huT⟩ : ∃ u, sT[i1]? = some u := ⟨_, List.getElem?_eq_getElem hiT⟩
  obtain ⟨gT, hgT, hlT, hcT, puT, nuT, cuT, hueT, hubT, hmT⟩ := hyT.out i1 uT huT
  subst hgT; subst hueT
  unfold maxLen at hubT
  refine Zw (Zc (Zf (Zs (Zf (Zb ?_)))))
  refine Za rfl (Zg rfl) (Ze (Zc (Zs (Xh (E' := (fun k1 : Nat => [(0, .pointer (some ⟨b, 0, none⟩)), (3, .int .i64 (i1 : Nat)), (4, .int .i64 (k1 : Nat))]) (0)) ⟨rfl, rfl, rfl, trivial⟩ (Yy (X := Nat) (fun k1 : Nat => [(0, .pointer (some ⟨b, 0, none⟩)), (3, .int .i64 (i1 : Nat)), (4, .int .i64 (k1 : Nat))]) _ _ (fun k1 : Nat => []) (fun k1 : Nat => Asr.none) (fun k1 : Nat => k1 ≤ nuT) (fun k1 : Nat => nuT - k1) (0) (Nat.zero_le _) ?_)))))
  intro k1 hI
  refine Zf (Zf (Zb (Za rfl (Zd rfl) (Za rfl (Zd rfl) (Za rfl (Ys rfl) ?_)))))
  refine Za rfl (Zh (ff rfl) rfl) (Za rfl (Zh (ff rfl) rfl) ?_)
  (first | refine Za rfl (Zj (t1 rfl) rfl (Zn (hbc 0 _ rfl) hblt)) ?_ | refine Za rfl (Zj (t1 rfl) rfl (Zn hcT hlT)) ?_)
  refine Za rfl (Zd rfl) (Za rfl (Xk (ts rfl) rfl rfl ?_) ?_)
  ·omega
  (first | refine Za rfl (Zj (t1 rfl) rfl (Zn (hbc 0 _ rfl) hblt)) ?_ | refine Za rfl (Zj (t1 rfl) rfl (Zn hcT hlT)) ?_)
  refine Za rfl (Yg (ts rfl) rfl) (Za rfl (Xb rfl rfl) (Ze (Zc (Yi rfl ?_ ?_))))
  ·intro c2
   try (first | replace c2 := dTr c2 | replace c2 := Zk c2)
   obtain ⟨qT, hqT, hqlT, hqcT⟩ := hmT k1 (by omega)
   subst hqT
   refine Zw (Zc (Zf (Zs (Zf (Zb ?_)))))
   refine Za rfl (Zd rfl) (Za rfl (Ys rfl) (Za rfl (Zh (ff rfl) rfl) (Za rfl (Zh (ff rfl) rfl) ?_)))
   (first | refine Za rfl (Zj (t1 rfl) rfl (Zn (hbc 0 _ rfl) hblt)) ?_ | refine Za rfl (Zj (t1 rfl) rfl (Zn hcT hlT)) ?_ | refine Za rfl (Zj (t1 rfl) rfl (Yt hqcT hqlT)) ?_)
   refine Za rfl (Zd rfl) (Za rfl (Xk (ts rfl) rfl rfl ?_) ?_)
   ·omega
   (first | refine Za rfl (Zj (t1 rfl) rfl (Zn (hbc 0 _ rfl) hblt)) ?_ | refine Za rfl (Zj (t1 rfl) rfl (Zn hcT hlT)) ?_ | refine Za rfl (Zj (t1 rfl) rfl (Yt hqcT hqlT)) ?_)
   refine Za rfl (Zd rfl) (Za rfl (Xk (ts rfl) rfl rfl ?_) ?_)
   ·omega
   (first | refine Za rfl (Ym (tn rfl) rfl (Zn (hbc 0 _ rfl) hblt) rfl) ?_ | refine Za rfl (Ym (tn rfl) rfl (Zn hcT hlT) rfl) ?_ | refine Za rfl (Ym (tn rfl) rfl (Yt hqcT hqlT) rfl) ?_)
   refine Za rfl (Zd rfl) (Za rfl (Ex_quo rfl rfl rfl) ?_)
   (first | (refine Za rfl (Xa rfl rfl ?_) ?_; omega) | (refine Za rfl (Yp rfl rfl ?_) ?_; omega) | refine Za rfl (Yz rfl rfl) ?_)
   refine WL_same (s := 50) (v' := .int .i64 (100 + ((i1 / 4 : Nat) : Int))) rfl (congrArg (Value.int .i64) (num100 _ (by omega))) ?_
   refine Za rfl (Xs (tb rfl) rfl rfl) (Za rfl (Ex_neqTy0 rfl rfl) (Ze (Zc (WC_false rfl (Zw ?_)))))
   refine Zx (Zc (Zb (Za rfl (Zd rfl) ?_)))
   (first | (refine Za rfl (Xa rfl rfl ?_) ?_; omega) | (refine Za rfl (Yp rfl rfl ?_) ?_; omega) | refine Za rfl (Yz rfl rfl) ?_)
   refine Za rfl (Zg rfl) (Ze ?_)
   refine Yn (k1 + 1) ?_ (by omega) 0 rfl (rfl) ⟨rfl, rfl, rfl, trivial⟩
   omega
  ·intro c2
   try (first | replace c2 := dFa c2 | replace c2 := Zi c2)
   refine Yx (Yw (Yo (Yv (Zx (Zc ?_)))))
   refine Zb (Za rfl (Zd rfl) ?_)
   (first | (refine Za rfl (Xa rfl rfl ?_) ?_; omega) | (refine Za rfl (Yp rfl rfl ?_) ?_; omega) | refine Za rfl (Yz rfl rfl) ?_)
   refine Za rfl (Zg rfl) (Ze ?_)
   refine Yn (i1 + 1) ?_ (by omega) 0 rfl (rfl) ⟨rfl, rfl, trivial⟩
   omega
 ·intro c1
  try (first | replace c1 := dFa c1 | replace c1 := Zi c1)
  refine Yx (Yw (Yo (Yv (Zc (Zf ?_)))))
  refine Zf (Zb (Za rfl (Zg rfl) (Ze (Zc (Zs ?_)))))
  refine Xh (E' := (fun i2 : Nat => [(0, .pointer (some ⟨b, 0, none⟩)), (5, .int .i64 (i2 : Nat))]) (0)) ⟨rfl, rfl, trivial⟩ (Yy (X := Nat) (fun i2 : Nat => [(0, .pointer (some ⟨b, 0, none⟩)), (5, .int .i64 (i2 : Nat))]) _ _ (fun i2 : Nat => []) (fun i2 : Nat => Asr.none) (fun i2 : Nat => i2 ≤ sI.length) (fun i2 : Nat => sI.length - i2) (0) (Nat.zero_le _) ?_)
  intro i2 hI
  refine Zf (Zf (Zb (Za rfl (Zd rfl) (Za rfl (Zd rfl) (Za rfl (Ys rfl) ?_)))))
  refine Za rfl (Zh (ff rfl) rfl) (Za rfl (Zh (ff rfl) rfl) (Za rfl (Zj (t1 rfl) rfl (Zn (hbc 1 _ rfl) hblt)) (Za rfl (Yg (ts rfl) rfl) (Za rfl (Xb rfl rfl) (Ze ?_)))))
  refine Zc (Yi rfl ?_ ?_)
  ·intro c4
   try (first | replace c4 := dTr c4 | replace c4 := Zk c4)
   have hiI : i2 < sI.length := by omega
   obtain ⟨uI, huI⟩ : ∃ u, sI[i2]? = some u := ⟨_, List.getElem?_eq_getElem hiI⟩
   obtain ⟨gI, hgI, hlI, hcI, puI, nuI, cuI, hueI, hubI, hmI⟩ := hyI.out i2 uI huI
   subst hgI; subst hueI
   unfold maxLen at hubI
   refine Zw (Zc (Zf (Zs (Zf (Zb ?_)))))
   refine Za rfl (Zg rfl) (Ze (Zc (Zs (Xh (E' := (fun k2 : Nat => [(0, .pointer (some ⟨b, 0, none⟩)), (5, .int .i64 (i2 : Nat)), (6, .int .i64 (k2 : Nat))]) (0)) ⟨rfl, rfl, rfl, trivial⟩ (Yy (X := Nat) (fun k2 : Nat => [(0, .pointer (some ⟨b, 0, none⟩)), (5, .int .i64 (i2 : Nat)), (6, .int .i64 (k2 : Nat))]) _ _ (fun k2 : Nat => []) (fun k2 : Nat => Asr.none) (fun k2 : Nat => k2 ≤ nuI) (fun k2 : Nat => nuI - k2) (0) (Nat.zero_le _) ?_)))))
   intro k2 hI
   refine Zf (Zf (Zb (Za rfl (Zd rfl) (Za rfl (Zd rfl) (Za rfl (Ys rfl) ?_)))))
   refine Za rfl (Zh (ff rfl) rfl) (Za rfl (Zh (ff rfl) rfl) ?_)
   (first | refine Za rfl (Zj (t1 rfl) rfl (Zn (hbc 1 _ rfl) hblt)) ?_ | refine Za rfl (Zj (t1 rfl) rfl (Zn hcI hlI)) ?_)
   refine Za rfl (Zd rfl) (Za rfl (Xk (ts rfl) rfl rfl ?_) ?_)
   ·omega
   (first | refine Za rfl (Zj (t1 rfl) rfl (Zn (hbc 1 _ rfl) hblt)) ?_ | refine Za rfl (Zj (t1 rfl) rfl (Zn hcI hlI)) ?_)
   refine Za rfl (Yg (ts rfl) rfl) (Za rfl (Xb rfl rfl) (Ze (Zc (Yi rfl ?_ ?_))))
   ·intro c5
    try (first | replace c5 := dTr c5 | replace c5 := Zk c5)
    obtain ⟨qI, hqI, hqlI, hqcI⟩ := hmI k2 (by omega)
    subst hqI
    refine Zw (Zc (Zf (Zs (Zf (Zb ?_)))))
    refine Za rfl (Zd rfl) (Za rfl (Ys rfl) (Za rfl (Zh (ff rfl) rfl) (Za rfl (Zh (ff rfl) rfl) ?_)))
    (first | refine Za rfl (Zj (t1 rfl) rfl (Zn (hbc 1 _ rfl) hblt)) ?_ | refine Za rfl (Zj (t1 rfl) rfl (Zn hcI hlI)) ?_ | refine Za rfl (Zj (t1 rfl) rfl (Yt hqcI hqlI)) ?_)
    refine Za rfl (Zd rfl) (Za rfl (Xk (ts rfl) rfl rfl ?_) ?_)
    ·omega
    (first | refine Za rfl (Zj (t1 rfl) rfl (Zn (hbc 1 _ rfl) hblt)) ?_ | refine Za rfl (Zj (t1 rfl) rfl (Zn hcI hlI)) ?_ | refine Za rfl (Zj (t1 rfl) rfl (Yt hqcI hqlI)) ?_)
    refine Za rfl (Zd rfl) (Za rfl (Xk (ts rfl) rfl rfl ?_) ?_)
    ·omega
    (first | refine Za rfl (Ym (tn rfl) rfl (Zn (hbc 1 _ rfl) hblt) rfl) ?_ | refine Za rfl (Ym (tn rfl) rfl (Zn hcI hlI) rfl) ?_ | refine Za rfl (Ym (tn rfl) rfl (Yt hqcI hqlI) rfl) ?_)
    refine Xg rfl (tz rfl) ?_
    intro b0 hb0
    refine Yd (tn rfl) rfl rfl 0 rfl rfl rfl rfl (Ze (Zc (Zf (Zb (Za rfl (Zh (ff rfl) rfl) ?_)))))
    refine Za rfl (Yb (tn rfl) rfl 0 rfl rfl) (Za rfl (Xs (tb rfl) rfl rfl) (Xi fn92 rfl rfl (fun w _ => sameRef_any rf0 nilS nilS w (tysAt_nil w) (tysAt_nil w)) ?_))
    refine Za rfl (Zg rfl) (Ze (Zc (Zf (Zb (Za rfl (Zd rfl) ?_)))))
    refine Za rfl (Ex_not rfl) (Za rfl (Zd rfl) (Zo rfl rfl rfl (Zh (ff rfl) rfl) (Zo rfl rfl rfl (Zj (t1 rfl) rfl (Zl 0 rfl rfl)) (Zo rfl rfl rfl (Zd rfl) ?_))))
    try (refine WL_same (s := 98) (v' := .int .i64 (100 + ((i2 / 4 : Nat) : Int))) rfl (congrArg (Value.int .i64) (num100 _ (by omega))) ?_)
    refine Zo rfl rfl rfl (Ex_quo rfl rfl rfl) ?_
    try (refine WL_same (s := 98) (v' := .int .i64 (100 + ((i2 / 4 : Nat) : Int))) rfl (congrArg (Value.int .i64) (num100 _ (by omega))) ?_)
    (first | (refine Zo rfl rfl rfl (Xa rfl rfl ?_) ?_; omega) | (refine Zo rfl rfl rfl (Yp rfl rfl ?_) ?_; omega) | refine Zo rfl rfl rfl (Yz rfl rfl) ?_)
    try (refine WL_same (s := 98) (v' := .int .i64 (100 + ((i2 / 4 : Nat) : Int))) rfl (congrArg (Value.int .i64) (num100 _ (by omega))) ?_)
    refine Zo rfl rfl rfl (Ex_neqI0 rfl rfl) (Za rfl (Zz rfl rfl) (Za rfl (Zd rfl) (Zo rfl rfl rfl (Zh (ff rfl) rfl) (Zo rfl rfl rfl (Zj (t1 rfl) rfl (Zl 0 rfl rfl)) ?_))))
    try (refine WL_same (s := 98) (v' := .int .i64 (100 + ((i2 / 4 : Nat) : Int))) rfl (congrArg (Value.int .i64) (num100 _ (by omega))) ?_)
    refine Zo rfl rfl rfl (Ex_neqI0 rfl rfl) (Za rfl (Zz rfl rfl) (Ze (Zc (WC_false rfl (Zw ?_)))))
    refine Zx (Zc (Zb (Za rfl (Zd rfl) ?_)))
    (first | (refine Za rfl (Xa rfl rfl ?_) ?_; omega) | (refine Za rfl (Yp rfl rfl ?_) ?_; omega) | refine Za rfl (Yz rfl rfl) ?_)
    refine Za rfl (Zg rfl) (Ze ?_)
    refine Yn (k2 + 1) ?_ (by omega) 1 rfl (rfl) ⟨rfl, rfl, rfl, trivial⟩
    omega
   ·intro c5
    try (first | replace c5 := dFa c5 | replace c5 := Zi c5)
    refine Yx (Yw (Yo (Yv (Zx (Zc ?_)))))
    refine Zb (Za rfl (Zd rfl) ?_)
    (first | (refine Za rfl (Xa rfl rfl ?_) ?_; omega) | (refine Za rfl (Yp rfl rfl ?_) ?_; omega) | refine Za rfl (Yz rfl rfl) ?_)
    refine Za rfl (Zg rfl) (Ze ?_)
    refine Yn (i2 + 1) ?_ (by omega) 0 rfl (rfl) ⟨rfl, rfl, trivial⟩
    omega
  ·intro c4
   try (first | replace c4 := dFa c4 | replace c4 := Zi c4)
   refine Yx (Yw (Yo (Yv (Zc (Zf ?_)))))
   refine Zf (Zb (Za rfl (Zg rfl) (Ze (Zc (Zs ?_)))))
   refine Xh (E' := (fun i3 : Nat => [(0, .pointer (some ⟨b, 0, none⟩)), (9, .int .i64 (i3 : Nat))]) (0)) ⟨rfl, rfl, trivial⟩ (Yy (X := Nat) (fun i3 : Nat => [(0, .pointer (some ⟨b, 0, none⟩)), (9, .int .i64 (i3 : Nat))]) _ _ (fun i3 : Nat => []) (fun i3 : Nat => Asr.none) (fun i3 : Nat => i3 ≤ sH.length) (fun i3 : Nat => sH.length - i3) (0) (Nat.zero_le _) ?_)
   intro i3 hI
   refine Zf (Zf (Zb (Za rfl (Zd rfl) (Za rfl (Zd rfl) (Za rfl (Ys rfl) ?_)))))
   refine Za rfl (Zh (ff rfl) rfl) (Za rfl (Zh (ff rfl) rfl) (Za rfl (Zj (t1 rfl) rfl (Zn (hbc 4 _ rfl) hblt)) (Za rfl (Yg (ts rfl) rfl) (Za rfl (Xb rfl rfl) (Ze ?_)))))
   refine Zc (Yi rfl ?_ ?_)
   ·intro c7
    try (first | replace c7 := dTr c7 | replace c7 := Zk c7)
    have hiH : i3 < sH.length := by omega
    obtain ⟨uH, huH⟩ : ∃ u, sH[i3]? = some u := ⟨_, List.getElem?_eq_getElem hiH⟩
    obtain ⟨gH, hgH, hlH, hcH, puH, nuH, cuH, hueH, hubH, hmH⟩ := hyH.out i3 uH huH
    subst hgH; subst hueH
    unfold maxLen at hubH
    refine Zw (Zc (Zf (Zs (Zf (Zb ?_)))))
    refine Za rfl (Zg rfl) (Ze (Zc (Zs (Xh (E' := (fun k3 : Nat => [(0, .pointer (some ⟨b, 0, none⟩)), (9, .int .i64 (i3 : Nat)), (10, .int .i64 (k3 : Nat))]) (0)) ⟨rfl, rfl, rfl, trivial⟩ (Yy (X := Nat) (fun k3 : Nat => [(0, .pointer (some ⟨b, 0, none⟩)), (9, .int .i64 (i3 : Nat)), (10, .int .i64 (k3 : Nat))]) _ _ (fun k3 : Nat => []) (fun k3 : Nat => Asr.none) (fun k3 : Nat => k3 ≤ nuH) (fun k3 : Nat => nuH - k3) (0) (Nat.zero_le _) ?_)))))
    intro k3 hI
    refine Zf (Zf (Zb (Za rfl (Zd rfl) (Za rfl (Zd rfl) (Za rfl (Ys rfl) ?_)))))
    refine Za rfl (Zh (ff rfl) rfl) (Za rfl (Zh (ff rfl) rfl) ?_)
    (first | refine Za rfl (Zj (t1 rfl) rfl (Zn (hbc 4 _ rfl) hblt)) ?_ | refine Za rfl (Zj (t1 rfl) rfl (Zn hcH hlH)) ?_)
    refine Za rfl (Zd rfl) (Za rfl (Xk (ts rfl) rfl rfl ?_) ?_)
    ·omega
    (first | refine Za rfl (Zj (t1 rfl) rfl (Zn (hbc 4 _ rfl) hblt)) ?_ | refine Za rfl (Zj (t1 rfl) rfl (Zn hcH hlH)) ?_)
    refine Za rfl (Yg (ts rfl) rfl) (Za rfl (Xb rfl rfl) (Ze (Zc (Yi rfl ?_ ?_))))
    ·intro c8
     try (first | replace c8 := dTr c8 | replace c8 := Zk c8)
     obtain ⟨qH, hqH, hqlH, hqcH⟩ := hmH k3 (by omega)
     subst hqH
     refine Zw (Zc (Zf (Zs (Zf (Zb ?_)))))
     refine Za rfl (Zd rfl) (Za rfl (Ys rfl) (Za rfl (Zh (ff rfl) rfl) (Za rfl (Zh (ff rfl) rfl) ?_)))
     (first | refine Za rfl (Zj (t1 rfl) rfl (Zn (hbc 4 _ rfl) hblt)) ?_ | refine Za rfl (Zj (t1 rfl) rfl (Zn hcH hlH)) ?_ | refine Za rfl (Zj (t1 rfl) rfl (Yt hqcH hqlH)) ?_)
     refine Za rfl (Zd rfl) (Za rfl (Xk (ts rfl) rfl rfl ?_) ?_)
     ·omega
     (first | refine Za rfl (Zj (t1 rfl) rfl (Zn (hbc 4 _ rfl) hblt)) ?_ | refine Za rfl (Zj (t1 rfl) rfl (Zn hcH hlH)) ?_ | refine Za rfl (Zj (t1 rfl) rfl (Yt hqcH hqlH)) ?_)
     refine Za rfl (Zd rfl) (Za rfl (Xk (ts rfl) rfl rfl ?_) ?_)
     ·omega
     (first | refine Za rfl (Ym (tn rfl) rfl (Zn (hbc 4 _ rfl) hblt) rfl) ?_ | refine Za rfl (Ym (tn rfl) rfl (Zn hcH hlH) rfl) ?_ | refine Za rfl (Ym (tn rfl) rfl (Yt hqcH hqlH) rfl) ?_)
     refine Za rfl (Zd rfl) (Za rfl (Ex_quo rfl rfl rfl) ?_)
     (first | (refine Za rfl (Xa rfl rfl ?_) ?_; omega) | (refine Za rfl (Yp rfl rfl ?_) ?_; omega) | refine Za rfl (Yz rfl rfl) ?_)
     refine WL_same (s := 142) (v' := .int .i64 (100 + ((i3 / 4 : Nat) : Int))) rfl (congrArg (Value.int .i64) (num100 _ (by omega))) ?_
     refine Za rfl (Xs (tb rfl) rfl rfl) (Za rfl (Ex_neqHd0 rfl rfl) (Ze (Zc (WC_false rfl (Zw ?_)))))
     refine Zx (Zc (Zb (Za rfl (Zd rfl) ?_)))
     (first | (refine Za rfl (Xa rfl rfl ?_) ?_; omega) | (refine Za rfl (Yp rfl rfl ?_) ?_; omega) | refine Za rfl (Yz rfl rfl) ?_)
     refine Za rfl (Zg rfl) (Ze ?_)
     refine Yn (k3 + 1) ?_ (by omega) 0 rfl (rfl) ⟨rfl, rfl, rfl, trivial⟩
     omega
    ·intro c8
     try (first | replace c8 := dFa c8 | replace c8 := Zi c8)
     refine Yx (Yw (Yo (Yv (Zx (Zc ?_)))))
     refine Zb (Za rfl (Zd rfl) ?_)
     (first | (refine Za rfl (Xa rfl rfl ?_) ?_; omega) | (refine Za rfl (Yp rfl rfl ?_) ?_; omega) | refine Za rfl (Yz rfl rfl) ?_)
     refine Za rfl (Zg rfl) (Ze ?_)
     refine Yn (i3 + 1) ?_ (by omega) 0 rfl (rfl) ⟨rfl, rfl, trivial⟩
     omega
   ·intro c7
    try (first | replace c7 := dFa c7 | replace c7 := Zi c7)
    refine Yx (Yw (Yo (Yv (Zc (Zf ?_)))))
    refine Zf (Zb (Za rfl (Zg rfl) (Ze (Zc (Zs ?_)))))
    refine Xh (E' := (fun i4 : Nat => [(0, .pointer (some ⟨b, 0, none⟩)), (11, .int .i64 (i4 : Nat))]) (0)) ⟨rfl, rfl, trivial⟩ (Yy (X := Nat) (fun i4 : Nat => [(0, .pointer (some ⟨b, 0, none⟩)), (11, .int .i64 (i4 : Nat))]) _ _ (fun i4 : Nat => []) (fun i4 : Nat => Asr.none) (fun i4 : Nat => i4 ≤ sR.length) (fun i4 : Nat => sR.length - i4) (0) (Nat.zero_le _) ?_)
    intro i4 hI
    refine Zf (Zf (Zb (Za rfl (Zd rfl) (Za rfl (Zd rfl) (Za rfl (Ys rfl) ?_)))))
    refine Za rfl (Zh (ff rfl) rfl) (Za rfl (Zh (ff rfl) rfl) (Za rfl (Zj (t1 rfl) rfl (Zn (hbc 5 _ rfl) hblt)) (Za rfl (Yg (ts rfl) rfl) (Za rfl (Xb rfl rfl) (Ze ?_)))))
    refine Zc (Yi rfl ?_ ?_)
    ·intro c10
     try (first | replace c10 := dTr c10 | replace c10 := Zk c10)
     have hiR : i4 < sR.length := by omega
     obtain ⟨uR, huR⟩ : ∃ u, sR[i4]? = some u := ⟨_, List.getElem?_eq_getElem hiR⟩
     obtain ⟨gR, hgR, hlR, hcR, puR, nuR, cuR, hueR, hubR, hmR⟩ := hyR.out i4 uR huR
     subst hgR; subst hueR
     unfold maxLen at hubR
     refine Zw (Zc (Zf (Zs (Zf (Zb ?_)))))
     refine Za rfl (Zg rfl) (Ze (Zc (Zs (Xh (E' := (fun k4 : Nat => [(0, .pointer (some ⟨b, 0, none⟩)), (11, .int .i64 (i4 : Nat)), (12, .int .i64 (k4 : Nat))]) (0)) ⟨rfl, rfl, rfl, trivial⟩ (Yy (X := Nat) (fun k4 : Nat => [(0, .pointer (some ⟨b, 0, none⟩)), (11, .int .i64 (i4 : Nat)), (12, .int .i64 (k4 : Nat))]) _ _ (fun k4 : Nat => []) (fun k4 : Nat => Asr.none) (fun k4 : Nat => k4 ≤ nuR) (fun k4 : Nat => nuR - k4) (0) (Nat.zero_le _) ?_)))))
     intro k4 hI
     refine Zf (Zf (Zb (Za rfl (Zd rfl) (Za rfl (Zd rfl) (Za rfl (Ys rfl) ?_)))))
     refine Za rfl (Zh (ff rfl) rfl) (Za rfl (Zh (ff rfl) rfl) ?_)
     (first | refine Za rfl (Zj (t1 rfl) rfl (Zn (hbc 5 _ rfl) hblt)) ?_ | refine Za rfl (Zj (t1 rfl) rfl (Zn hcR hlR)) ?_)
     refine Za rfl (Zd rfl) (Za rfl (Xk (ts rfl) rfl rfl ?_) ?_)
     ·omega
     (first | refine Za rfl (Zj (t1 rfl) rfl (Zn (hbc 5 _ rfl) hblt)) ?_ | refine Za rfl (Zj (t1 rfl) rfl (Zn hcR hlR)) ?_)
     refine Za rfl (Yg (ts rfl) rfl) (Za rfl (Xb rfl rfl) (Ze (Zc (Yi rfl ?_ ?_))))
     ·intro c11
      try (first | replace c11 := dTr c11 | replace c11 := Zk c11)
      obtain ⟨qR, hqR, hqlR, hqcR⟩ := hmR k4 (by omega)
      subst hqR
      refine Zw (Zc (Zf (Zs (Zf (Zb ?_)))))
      refine Za rfl (Zd rfl) (Za rfl (Ys rfl) (Za rfl (Zh (ff rfl) rfl) (Za rfl (Zh (ff rfl) rfl) ?_)))
      (first | refine Za rfl (Zj (t1 rfl) rfl (Zn (hbc 5 _ rfl) hblt)) ?_ | refine Za rfl (Zj (t1 rfl) rfl (Zn hcR hlR)) ?_ | refine Za rfl (Zj (t1 rfl) rfl (Yt hqcR hqlR)) ?_)
      refine Za rfl (Zd rfl) (Za rfl (Xk (ts rfl) rfl rfl ?_) ?_)
      ·omega
      (first | refine Za rfl (Zj (t1 rfl) rfl (Zn (hbc 5 _ rfl) hblt)) ?_ | refine Za rfl (Zj (t1 rfl) rfl (Zn hcR hlR)) ?_ | refine Za rfl (Zj (t1 rfl) rfl (Yt hqcR hqlR)) ?_)
      refine Za rfl (Zd rfl) (Za rfl (Xk (ts rfl) rfl rfl ?_) ?_)
      ·omega
      (first | refine Za rfl (Ym (tn rfl) rfl (Zn (hbc 5 _ rfl) hblt) rfl) ?_ | refine Za rfl (Ym (tn rfl) rfl (Zn hcR hlR) rfl) ?_ | refine Za rfl (Ym (tn rfl) rfl (Yt hqcR hqlR) rfl) ?_)
      refine Xg rfl (tz rfl) ?_
      intro b0 hb0
      refine Yd (tn rfl) rfl rfl 0 rfl rfl rfl rfl (Ze (Zc (Zf (Zb (Za rfl (Zh (ff rfl) rfl) ?_)))))
      refine Za rfl (Zj (t1 rfl) rfl (Zl 0 rfl rfl)) (Za rfl (Zd rfl) ?_)
      try (refine WL_same (s := 183) (v' := .int .i64 (100 + ((i4 / 4 : Nat) : Int))) rfl (congrArg (Value.int .i64) (num100 _ (by omega))) ?_)
      refine Za rfl (Ex_quo rfl rfl rfl) ?_
      try (refine WL_same (s := 183) (v' := .int .i64 (100 + ((i4 / 4 : Nat) : Int))) rfl (congrArg (Value.int .i64) (num100 _ (by omega))) ?_)
      (first | (refine Za rfl (Xa rfl rfl ?_) ?_; omega) | (refine Za rfl (Yp rfl rfl ?_) ?_; omega) | refine Za rfl (Yz rfl rfl) ?_)
      try (refine WL_same (s := 183) (v' := .int .i64 (100 + ((i4 / 4 : Nat) : Int))) rfl (congrArg (Value.int .i64) (num100 _ (by omega))) ?_)
      refine Za rfl (Ex_neqI0 rfl rfl) (Za rfl (Zd rfl) (Zo rfl rfl rfl (Zh (ff rfl) rfl) (Zo rfl rfl rfl (Zj (t1 rfl) rfl (Zl 0 rfl rfl)) (Zo rfl rfl rfl (Yg (ts rfl) rfl) ?_))))
      try (refine WL_same (s := 183) (v' := .int .i64 (100 + ((i4 / 4 : Nat) : Int))) rfl (congrArg (Value.int .i64) (num100 _ (by omega))) ?_)
      refine Zo rfl rfl rfl (Ex_gtr rfl rfl) (Za rfl (Zz rfl rfl) (Za rfl (Zd rfl) (Yr rfl rfl rfl ?_ ?_)))
      ·intro h1
       try (first | replace h1 := dTr h1 | replace h1 := Zk h1)
       exfalso; omega
      ·intro h1
       try (first | replace h1 := dFa h1 | replace h1 := Zi h1)
       refine Zo rfl rfl rfl (Zh (ff rfl) rfl) (Zo rfl rfl rfl (Zj (t1 rfl) rfl (Zl 0 rfl rfl)) (Zo rfl rfl rfl (Yg (ts rfl) rfl) ?_))
       try (refine WL_same (s := 183) (v' := .int .i64 (100 + ((i4 / 4 : Nat) : Int))) rfl (congrArg (Value.int .i64) (num100 _ (by omega))) ?_)
       refine Zo rfl rfl rfl (Ex_gtr rfl rfl) (Za rfl (Zz rfl rfl) (Ze (Zc (Yi rfl ?_ ?_))))
       ·intro c12
        try (first | replace c12 := dTr c12 | replace c12 := Zk c12)
        exfalso; omega
       ·intro c12
        try (first | replace c12 := dFa c12 | replace c12 := Zi c12)
        refine Zw (Zx (Zc (Zb (Za rfl (Zd rfl) ?_))))
        (first | (refine Za rfl (Xa rfl rfl ?_) ?_; omega) | (refine Za rfl (Yp rfl rfl ?_) ?_; omega) | refine Za rfl (Yz rfl rfl) ?_)
        refine Za rfl (Zg rfl) (Ze ?_)
        refine Yn (k4 + 1) ?_ (by omega) 1 rfl (rfl) ⟨rfl, rfl, rfl, trivial⟩
        omega
     ·intro c11
      try (first | replace c11 := dFa c11 | replace c11 := Zi c11)
      refine Yx (Yw (Yo (Yv (Zx (Zc ?_)))))
      refine Zb (Za rfl (Zd rfl) ?_)
      (first | (refine Za rfl (Xa rfl rfl ?_) ?_; omega) | (refine Za rfl (Yp rfl rfl ?_) ?_; omega) | refine Za rfl (Yz rfl rfl) ?_)
      refine Za rfl (Zg rfl) (Ze ?_)
      refine Yn (i4 + 1) ?_ (by omega) 0 rfl (rfl) ⟨rfl, rfl, trivial⟩
      omega
    ·intro c10
     try (first | replace c10 := dFa c10 | replace c10 := Zi c10)
     refine Yx (Yw (Yo (Yv (Zc (Zf ?_)))))
     refine Zb (Za rfl (Zg rfl) (Ze (Zc (Zv (Yh rfl rfl ?_)))))
     rfl
end Go.Proofs.YtpofmnfkdkmieaaGreat
