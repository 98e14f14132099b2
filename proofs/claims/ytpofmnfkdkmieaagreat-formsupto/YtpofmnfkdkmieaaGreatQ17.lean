/- What is proved here: the document's own reading off a tape: methods. the statement's book keeps a list of one's own: it is written full with a mark, and kept four times. -/
import Derived.Test.YtpofmnfkdkmieaaGreatQ16
import Derived.Test.YtpofmnfkdkmieaaGreatQ04
set_option linter.unusedVariables false
set_option linter.unusedSimpArgs false
namespace Go.Proofs.YtpofmnfkdkmieaaGreat
open Go.RowKit At E
theorem goes_list {α β : Type} {p : Ps α} {K : List α → Ps β} {P : Ps β} {k most n : Nat} {σ σ1 σ2 : Option (List UInt8)} (h : Wa σ P σ1 (pThen (pList false k most p) K)) (hst : TpStep (pNum k) σ1 n σ2) : Wa σ P σ2 (pThen (pFrom p [] n) K) := by
 have h1 : pThen (pList false k most p) K = pThen (pNum k) fun n => pThen (pFrom p [] n) K := by
  unfold pList
  rw [pThen_assoc]
  refine congrArg (pThen (pNum k)) (funext fun n => ?_)
  rw [if_neg (by simp), pMany_from]
 exact (h.of h1).next hst
theorem goes_more {α β : Type} {p : Ps α} {K : List α → Ps β} {P : Ps β} {l : List α} {n : Nat} {x : α} {σ σ1 σ2 : Option (List UInt8)} (h : Wa σ P σ1 (pThen (pFrom p l (n + 1)) K)) (hst : TpStep p σ1 x σ2) : Wa σ P σ2 (pThen (pFrom p (l ++ [x]) n) K) := by
 rw [pFrom_succ, pThen_assoc] at h
 exact h.next hst
theorem goes_end {α β : Type} {p : Ps α} {K : List α → Ps β} {P : Ps β} {l : List α} {n : Nat} {σ σ1 : Option (List UInt8)} (h : Wa σ P σ1 (pThen (pFrom p l n) K)) (he : n = 0 ∨ σ1 = none) : Wa σ P σ1 (K l) := by
 rcases he with rfl | rfl
 ·rw [pFrom_zero, pRet_then] at h; exact h
 ·unfold Wa at h ⊢; rw [h]; rfl
theorem list_push (t o Rp : Asr) (L : List Asr) : (t.and (o.and ((bigA L).and Rp))).Imp (o.and ((bigA (L ++ [t])).and Rp)) :=
 (Asr.swap t o _).trans (Asr.Imp.right ((Asr.cossa t (bigA L) Rp).trans (Asr.Imp.left (bigA_snoc t L))))
theorem me_turn (A B H I T : Asr) : (A.and (B.and (H.and (I.and T)))).Imp (T.and (I.and (H.and (A.and B)))) :=
 (Asr.cossa A B _).trans ((Asr.comm _ _).trans (((Asr.comm H (I.and T)).trans (Asr.Imp.left (Asr.comm I T))).left.trans ((Asr.assoc _ _ _).trans (Asr.assoc T I _))))
theorem loop_yes {n : Nat} {σ : Option (List UInt8)} (h : (0 : Int) < (n : Int)) : ((!σ.isNone) = true → 0 < n ∧ σ.isNone = false) ∧ ((!σ.isNone) = false → n = 0 ∨ σ = none) :=
 ⟨fun hy => ⟨by omega, by simpa using hy⟩, fun hy => .inr (isNone_none (by simpa using hy))⟩
theorem loop_no {n : Nat} {σ : Option (List UInt8)} (h : ¬ (0 : Int) < (n : Int)) : (false = true → 0 < n ∧ σ.isNone = false) ∧ (false = false → n = 0 ∨ σ = none) :=
 ⟨(fun hy => by cases hy), fun _ => .inl (by omega)⟩
theorem own_one {w : World} {e size n : Nat} {v : Value} {xs : List Value} (h : w.ownsRow 0 e size v n xs) : v.oneCell' = true := by
 obtain ⟨p, l, c, rfl⟩ := Xl h
 rfl
def insA (p : Ins × Value) : Asr := tysA p.2 p.1.ref.params
def meH (nm : ByteArray) (st : Bool) (r : Ty) (lo sk : Int) (pv cv hv fv : Value) : List Value := [.string nm, .bool st, pv, .int .i64 r.kind, .string r.cls, .int .i64 lo, .int .i64 sk, cv, hv, fv]
theorem meH_one (nm : ByteArray) (st : Bool) (r : Ty) (lo sk : Int) {pv cv hv fv : Value} (h1 : pv.oneCell' = true) (h2 : cv.oneCell' = true) (h3 : hv.oneCell' = true) (h4 : fv.oneCell' = true) : (cut (meH nm st r lo sk pv cv hv fv) 0 10).all (·.oneCell') = true := by
 show (meH nm st r lo sk pv cv hv fv).all (·.oneCell') = true
 simp only [meH, List.all_cons, List.all_nil, h1, h2, h3, h4]
 rfl
def repMe : Me → Value → Asr → Prop := fun m v R' => ∃ k : MeM, v = .agg (meC (m, k)).toArray ∧ R'.Imp (meA (m, k)) ∧ MeFit (m, k)
def nilS : Value := .slice none 0 0
set_option maxHeartbeats 2000000 in
theorem tpMethod_any (u : World) (b : Nat) (s : ByteArray) (hs : s.size ≤ 4000000) : TpP 91 #[.pointer (some ⟨b, 0, none⟩)] u b s (pMe true false) repMe := by
 intro σ q hq hr w h0
 refine opensF (h0.sat) (args := [.pointer (some ⟨b, 0, none⟩)]) Tryz.func91 rfl Tryz.ntmps91 ?_
 refine Zf (Zb (Xg rfl (tz rfl) ?_))
 intro b1 hb1
 refine Ze (Zc (Zf (Zb (Za rfl (Xs (tb rfl) rfl rfl) (Xg rfl (tz rfl) ?_)))))
 intro b2 hb2
 refine Yd (tn rfl) rfl rfl 0 rfl rfl rfl rfl (Ze (Zc (Zf (Zb (Za rfl (Zd rfl) ?_)))))
 refine Yk fn87 rfl rfl 2 rfl h0.base (Rc_F h0) (tpName_any u b s hs σ q hq hr) (fun h => h.elim) ?_
 rintro v cs' ⟨R', nm, σ1, q1, ⟨rfl, hnm, -⟩, hq1, rfl, hr1, hst⟩
 have hS := (Wa.first σ (pMe true false)).next hst
 clear hst
 refine Za rfl (Zh (ff rfl) rfl) (Xd (t1 rfl) rfl rfl 0 rfl rfl rfl rfl (Ze (Zc (Zf (Zb ?_)))))
 refine Za rfl (Zd rfl) (Yk fn89 rfl rfl 2 rfl h0.base (Rc_F h0) (tpFlag_any u b s hs σ1 q1 hq1 hr1) (fun h => h.elim) ?_)
 rintro v cs' ⟨R', st, σ2, q2, ⟨rfl, -⟩, hq2, rfl, hr2, hst⟩
 replace hS := hS.next hst
 clear hst
 refine Za rfl (Zh (ff rfl) rfl) (Xd (t1 rfl) rfl rfl 0 rfl rfl rfl rfl (Ze (Zc (Zf (Zb ?_)))))
 refine Za rfl (Zd rfl) (WL_callR fn132 rfl rfl 2 rfl h0.base (Rc_F h0) (tpTypes_any u b s 6 hs σ2 q2 hq2 hr2) (fun h => h.elim) ?_)
 rintro pv cs' R' ⟨ps, σ3, q3, ⟨hR, hpl, hpo⟩, hq3, rfl, hr3, hst⟩
 replace hS := hS.next hst
 clear hst
 refine Xm (hR.left.trans (Asr.fst _ _)) (Xz (p := ∃ p l c, pv = .slice p l c) (fun w hs => Xl hs.res) ?_)
 rintro ⟨p1, l1, c1', hpv⟩
 subst hpv
 refine Za rfl (Zh (ff rfl) rfl) (Xd (t1 rfl) rfl rfl 0 rfl rfl rfl rfl (Ze (Zc (Zf (Zb ?_)))))
 refine Za rfl (Zd rfl) (Yk fn90 rfl rfl 2 rfl h0.base (Rc_F h0) (Xv u b s hs σ3 q3 hq3 hr3) (fun h => h.elim) ?_)
 rintro v cs' ⟨R', r, σ4, q4, ⟨rfl, hrr, -⟩, hq4, rfl, hr4, hst⟩
 replace hS := hS.next hst
 clear hst
 refine Za rfl (Zh (ff rfl) rfl) (Yd (tn rfl) rfl rfl 0 rfl rfl rfl rfl (Ze (Zc (Zf (Zb ?_)))))
 refine Za rfl (Zd rfl) (Yk fn88 rfl rfl 2 rfl h0.base (Rc_F h0) (tpInt_any u b s 1 hs (by omega) σ4 q4 hq4 hr4) (fun h => h.elim) ?_)
 rintro v cs' ⟨R', lo, σ5, q5, ⟨rfl, hlo, -, -⟩, hq5, rfl, hr5, hst⟩
 replace hS := hS.next hst
 clear hst
 refine Za rfl (Zh (ff rfl) rfl) (Xd (t1 rfl) rfl rfl 0 rfl rfl rfl rfl (Ze (Zc (Zf (Zb ?_)))))
 refine Za rfl (Zd rfl) (Yk fn88 rfl rfl 2 rfl h0.base (Rc_F h0) (tpInt_any u b s 1 hs (by omega) σ5 q5 hq5 hr5) (fun h => h.elim) ?_)
 rintro v cs' ⟨R', sk, σ6, q6, ⟨rfl, hsk, -, -⟩, hq6, rfl, hr6, hst⟩
 replace hS := hS.next hst
 clear hst
 refine Za rfl (Zh (ff rfl) rfl) (Xd (t1 rfl) rfl rfl 0 rfl rfl rfl rfl (Ze (Zc (Zf (Zf ?_)))))
 refine Zb (Za rfl (Zd rfl) (Yk fn88 rfl rfl 2 rfl h0.base (Rc_F h0) (tpLow_any u b s 2 hs (by omega) σ6 q6 hq6 hr6) (fun h => h.elim) ?_))
 rintro v cs' ⟨R', n, σ7, q7, ⟨rfl, hn, -⟩, hq7, rfl, hr7, hst⟩
 replace hS := goes_list hS hst
 clear hst
 rw [toI_small (show n < 9223372036854775808 by omega)]
 refine Za rfl (Zg rfl) (Ze (Zc (Zs (WC_own 75 7 (WC_imp (Asr.Imp.right (Asr.noneAdd _)) ?_)))))
 refine Xh (E' := (fun x : TpL (Ins × Value) => [(0, .pointer (some ⟨b, 0, none⟩)), (2, .pointer (some ⟨b1, 0, none⟩)), (3, .pointer (some ⟨b2, 0, none⟩)), (4, .int .i64 (x.n : Nat))]) (⟨n, σ7, q7, nilS, []⟩)) ⟨rfl, rfl, rfl, rfl, trivial⟩ (Yy (X := TpL (Ins × Value)) (fun x : TpL (Ins × Value) => [(0, .pointer (some ⟨b, 0, none⟩)), (2, .pointer (some ⟨b1, 0, none⟩)), (3, .pointer (some ⟨b2, 0, none⟩)), (4, .int .i64 (x.n : Nat))]) _ _ (fun x : TpL (Ins × Value) => [(b2, meH nm st r lo sk (.slice p1 l1 c1') x.v nilS nilS), (b1, meH mt false ⟨0, mt⟩ 0 0 nilS nilS nilS nilS), (b, tpC s x.q x.σ.isNone)]) (fun x : TpL (Ins × Value) => (ownA 75 7 x.v x.l.length (x.l.flatMap insC)).and ((bigA (x.l.map insA)).and (tysA (.slice p1 l1 c1') ps))) (fun x : TpL (Ins × Value) => (x.q ≤ s.size ∧ (∀ r, x.σ = some r → r = (dl s).drop x.q)) ∧ x.l.length + x.n ≤ 65535 ∧ (∀ p ∈ x.l, insOk p.1 ∧ tysOk p.1.ref.params) ∧ Wa σ (pMe true false) x.σ (pThen (pFrom (pIns true false) (x.l.map (·.1)) x.n) _)) (fun x : TpL (Ins × Value) => x.n) (⟨n, σ7, q7, nilS, []⟩) (⟨⟨hq7, hr7⟩, by simp only [List.length_nil]; omega, (fun t h => by cases h), hS⟩) ?_)
 intro x hI
 obtain ⟨⟨hxq, hxr⟩, hln, hok, hG⟩ := hI
 refine Zf (WC_join (Y := Bool) (fun y' : Bool => [(0, .pointer (some ⟨b, 0, none⟩)), (2, .pointer (some ⟨b1, 0, none⟩)), (3, .pointer (some ⟨b2, 0, none⟩)), (4, .int .i64 (x.n : Nat)), (39, .bool y')]) (fun y' : Bool => [(b2, meH nm st r lo sk (.slice p1 l1 c1') x.v nilS nilS), (b1, meH mt false ⟨0, mt⟩ 0 0 nilS nilS nilS nilS), (b, tpC s x.q x.σ.isNone)]) (fun y' : Bool => (ownA 75 7 x.v x.l.length (x.l.flatMap insC)).and ((bigA (x.l.map insA)).and (tysA (.slice p1 l1 c1') ps))) (fun y' : Bool => (y' = true → 0 < x.n ∧ x.σ.isNone = false) ∧ (y' = false → x.n = 0 ∨ x.σ = none)) ?_ ?_)
 ·skip
  refine Zb (Za rfl (Zd rfl) (Za rfl (Ex_gtr rfl rfl) (Za rfl (Zd rfl) (Yr rfl rfl rfl ?_ ?_))))
  ·intro h1
   try (first | replace h1 := dTr h1 | replace h1 := Zk h1)
   refine Zo rfl rfl rfl (Zd rfl) (Zo rfl rfl rfl (Ys rfl) (Zo rfl rfl rfl (Zh (ff rfl) rfl) (Zo rfl rfl rfl (Zj (t1 rfl) rfl (Zl 2 rfl rfl)) (Zo rfl rfl rfl (Ex_not rfl) (Za rfl (Zt rfl rfl) ?_)))))
   refine Ze (WQ_meet _ 0 rfl rfl ⟨rfl, rfl, rfl, rfl, rfl, trivial⟩ ?_)
   first | exact loop_yes (by assumption) | exact loop_no (by assumption)
  ·intro h1
   try (first | replace h1 := dFa h1 | replace h1 := Zi h1)
   refine Zp rfl rfl rfl (Zp rfl rfl rfl (Zp rfl rfl rfl (Zp rfl rfl rfl (Zp rfl rfl rfl (Za rfl (Zz rfl rfl) ?_)))))
   refine Ze (WQ_meet _ 0 rfl rfl ⟨rfl, rfl, rfl, rfl, rfl, trivial⟩ ?_)
   first | exact loop_yes (by assumption) | exact loop_no (by assumption)
 intro y' hJ
 refine Yi rfl ?_ ?_
 ·intro c1
  try (first | replace c1 := dTr c1 | replace c1 := Zk c1)
  have h0n := (hJ.1 c1).1
  obtain ⟨m, hm⟩ : ∃ m, x.n = m + 1 := ⟨x.n - 1, by omega⟩
  rw [hm] at hG
  refine Zw (Zc (Zf (Zs (Zf (Zb ?_)))))
  refine Za rfl (Zd rfl) (WL_callR fn133 rfl rfl 2 rfl h0.base (Rc_F h0) (tpInstr_any u b s hs x.σ x.q hxq hxr) (fun h => h.elim) ?_)
  rintro v cs' R' ⟨i, σ8, q8, ⟨qv, rfl, hR2, hio, hto⟩, hq8, rfl, hr8, hst⟩
  refine Xm ((hR2.left).trans (list_push _ _ _ _)) ?_
  refine Xz (p := ∃ p l c, qv = .slice p l c) (fun w hs => Xl (bigA_mem (g := insA) (ls := x.l ++ [(i, qv)]) (by rw [List.map_append]; exact hs.res.2.1.1) (i, qv) (by simp))) ?_
  rintro ⟨p2, l2, c2', hqv⟩
  subst hqv
  refine Xg rfl (tz rfl) ?_
  intro b3 hb3
  refine Yd (tn rfl) rfl rfl 0 rfl rfl rfl rfl (Ze (Zc (Zb (Za rfl (Zh (ff rfl) rfl) (Za rfl (Zj (t1 rfl) rfl (Zl 1 rfl rfl)) ?_)))))
  refine Za rfl (Yb (tn rfl) rfl 0 rfl rfl) (WL_bs rfl (ts rfl) (tz rfl) rfl rfl rfl rfl rfl ?_)
  intro b4 hb4
  refine WL_app rfl (ta rfl) rfl rfl (Yj 0 rfl) rfl rfl ?_ ?_ ?_
  ·unfold maxLen; omega
  ·omega
  intro v1
  refine Za rfl (Zh (ff rfl) rfl) (Xz (p := ∃ p l c, v1 = .slice p l c) (fun w hs => Xl hs.res.1) ?_)
  rintro ⟨p3, l3, c3', hv1⟩; subst hv1
  refine Xd (t1 rfl) rfl rfl 2 rfl rfl rfl rfl (Ze (Zx (Zc (Zb (Za rfl (Zd rfl) ?_)))))
  (first | (refine Za rfl (Ex_subB rfl rfl ?_) ?_; omega) | refine Za rfl (Ex_sub rfl rfl) ?_)
  refine Za rfl (Zg rfl) (Ze (WQ_same (s := 4) (v' := .int .i64 (m : Nat)) rfl (congrArg (Value.int .i64) (by omega)) ?_))
  refine Yn (⟨m, σ8, q8, .slice p3 l3 c3', x.l ++ [(i, .slice p2 l2 c2')]⟩) ?_ (⟨⟨hq8, hr8⟩, by rw [List.length_append]; simp only [List.length_singleton]; omega, ok_snoc hok ⟨hio, hto⟩, by rw [List.map_append]; exact goes_more hG hst⟩) 2 rfl (by show (ownA 75 7 _ _ _).and _ = _; rw [List.length_append, List.flatMap_append, List.map_append]; rfl) ⟨rfl, rfl, rfl, rfl, trivial⟩
  show m < x.n; omega
 ·intro c1
  try (first | replace c1 := dFa c1 | replace c1 := Zi c1)
  refine Yx (Yw (Yo (Yv (Zc (Zf ?_)))))
  refine Zf ?_
  replace hG := goes_end hG (hJ.2 c1)
  refine WC_imp (Asr.cossa _ _ _) (Zb (Za rfl (Zd rfl) (Yk fn88 rfl rfl 2 rfl h0.base (Rc_F h0) (tpLow_any u b s 1 hs (by omega) x.σ x.q hxq hxr) (fun h => h.elim) ?_)))
  rintro v cs' ⟨R', n2, σ9, q9, ⟨rfl, hn2, -⟩, hq9, rfl, hr9, hst⟩
  replace hG := goes_list hG hst
  clear hst
  rw [toI_small (show n2 < 9223372036854775808 by omega)]
  refine Za rfl (Zg rfl) (Ze (Zc (Zs (WC_own 169 4 ?_))))
  refine Xh (E' := (fun y : TpL Hd => [(0, .pointer (some ⟨b, 0, none⟩)), (2, .pointer (some ⟨b1, 0, none⟩)), (3, .pointer (some ⟨b2, 0, none⟩)), (6, .int .i64 (y.n : Nat))]) (⟨n2, σ9, q9, nilS, []⟩)) ⟨rfl, rfl, rfl, rfl, trivial⟩ (Yy (X := TpL Hd) (fun y : TpL Hd => [(0, .pointer (some ⟨b, 0, none⟩)), (2, .pointer (some ⟨b1, 0, none⟩)), (3, .pointer (some ⟨b2, 0, none⟩)), (6, .int .i64 (y.n : Nat))]) _ _ (fun y : TpL Hd => [(b2, meH nm st r lo sk (.slice p1 l1 c1') x.v y.v nilS), (b1, meH mt false ⟨0, mt⟩ 0 0 nilS nilS nilS nilS), (b, tpC s y.q y.σ.isNone)]) (fun y : TpL Hd => (ownA 169 4 y.v y.l.length (y.l.flatMap hdV)).and ((inssA x.v x.l).and (tysA (.slice p1 l1 c1') ps))) (fun y : TpL Hd => (y.q ≤ s.size ∧ (∀ r, y.σ = some r → r = (dl s).drop y.q)) ∧ y.l.length + y.n ≤ 255 ∧ (∀ p ∈ y.l, hdOk p) ∧ Wa σ (pMe true false) y.σ (pThen (pFrom pHd y.l y.n) _)) (fun y : TpL Hd => y.n) (⟨n2, σ9, q9, nilS, []⟩) (⟨⟨hq9, hr9⟩, by simp only [List.length_nil]; omega, (fun t h => by cases h), hG⟩) ?_)
  intro y hI
  obtain ⟨⟨hyq, hyr⟩, hln2, hok2, hG2⟩ := hI
  refine Zf (WC_join (Y := Bool) (fun y' : Bool => [(0, .pointer (some ⟨b, 0, none⟩)), (2, .pointer (some ⟨b1, 0, none⟩)), (3, .pointer (some ⟨b2, 0, none⟩)), (6, .int .i64 (y.n : Nat)), (60, .bool y')]) (fun y' : Bool => [(b2, meH nm st r lo sk (.slice p1 l1 c1') x.v y.v nilS), (b1, meH mt false ⟨0, mt⟩ 0 0 nilS nilS nilS nilS), (b, tpC s y.q y.σ.isNone)]) (fun y' : Bool => (ownA 169 4 y.v y.l.length (y.l.flatMap hdV)).and ((inssA x.v x.l).and (tysA (.slice p1 l1 c1') ps))) (fun y' : Bool => (y' = true → 0 < y.n ∧ y.σ.isNone = false) ∧ (y' = false → y.n = 0 ∨ y.σ = none)) ?_ ?_)
  ·skip
   refine Zb (Za rfl (Zd rfl) (Za rfl (Ex_gtr rfl rfl) (Za rfl (Zd rfl) (Yr rfl rfl rfl ?_ ?_))))
   ·intro h2
    try (first | replace h2 := dTr h2 | replace h2 := Zk h2)
    refine Zo rfl rfl rfl (Zd rfl) (Zo rfl rfl rfl (Ys rfl) (Zo rfl rfl rfl (Zh (ff rfl) rfl) (Zo rfl rfl rfl (Zj (t1 rfl) rfl (Zl 2 rfl rfl)) (Zo rfl rfl rfl (Ex_not rfl) (Za rfl (Zt rfl rfl) ?_)))))
    refine Ze (WQ_meet _ 0 rfl rfl ⟨rfl, rfl, rfl, rfl, rfl, trivial⟩ ?_)
    first | exact loop_yes (by assumption) | exact loop_no (by assumption)
   ·intro h2
    try (first | replace h2 := dFa h2 | replace h2 := Zi h2)
    refine Zp rfl rfl rfl (Zp rfl rfl rfl (Zp rfl rfl rfl (Zp rfl rfl rfl (Zp rfl rfl rfl (Za rfl (Zz rfl rfl) ?_)))))
    refine Ze (WQ_meet _ 0 rfl rfl ⟨rfl, rfl, rfl, rfl, rfl, trivial⟩ ?_)
    first | exact loop_yes (by assumption) | exact loop_no (by assumption)
  intro y' hJ
  refine Yi rfl ?_ ?_
  ·intro c2
   try (first | replace c2 := dTr c2 | replace c2 := Zk c2)
   have h0n := (hJ.1 c2).1
   obtain ⟨m, hm⟩ : ∃ m, y.n = m + 1 := ⟨y.n - 1, by omega⟩
   rw [hm] at hG2
   refine Zw (Zc (Zf (Zs (Zf (Zb ?_)))))
   refine Za rfl (Xs (tb rfl) rfl rfl) (Xg rfl (tz rfl) ?_)
   intro b3 hb3
   refine Yd (tn rfl) rfl rfl 0 rfl rfl rfl rfl (Ze (Zc (Zf (Zb (Za rfl (Zd rfl) ?_)))))
   refine Yk fn88 rfl rfl 3 rfl h0.base (Rc_F h0) (tpInt_any u b s 2 hs (by omega) y.σ y.q hyq hyr) (fun h => h.elim) ?_
   rintro v cs' ⟨R', ha, σa, qa, ⟨rfl, hha, -, -⟩, hqa, rfl, hra, hst⟩
   have hH := (Wa.first y.σ pHd).next hst
   clear hst
   refine Za rfl (Zh (ff rfl) rfl) (Xd (t1 rfl) rfl rfl 0 rfl rfl rfl rfl (Ze (Zc (Zf (Zb ?_)))))
   refine Za rfl (Zd rfl) (Yk fn88 rfl rfl 3 rfl h0.base (Rc_F h0) (tpInt_any u b s 2 hs (by omega) σa qa hqa hra) (fun h => h.elim) ?_)
   rintro v cs' ⟨R', hb', σb, qb, ⟨rfl, hhb, -, -⟩, hqb, rfl, hrb, hst⟩
   replace hH := hH.next hst
   clear hst
   refine Za rfl (Zh (ff rfl) rfl) (Xd (t1 rfl) rfl rfl 0 rfl rfl rfl rfl (Ze (Zc (Zf (Zb ?_)))))
   refine Za rfl (Zd rfl) (Yk fn88 rfl rfl 3 rfl h0.base (Rc_F h0) (tpInt_any u b s 2 hs (by omega) σb qb hqb hrb) (fun h => h.elim) ?_)
   rintro v cs' ⟨R', hc', σc, qc, ⟨rfl, hhc, -, -⟩, hqc, rfl, hrc, hst⟩
   replace hH := hH.next hst
   clear hst
   refine Za rfl (Zh (ff rfl) rfl) (Xd (t1 rfl) rfl rfl 0 rfl rfl rfl rfl (Ze (Zc (Zf (Zb ?_)))))
   refine Za rfl (Zd rfl) (Yk fn87 rfl rfl 3 rfl h0.base (Rc_F h0) (tpName_any u b s hs σc qc hqc hrc) (fun h => h.elim) ?_)
   rintro v cs' ⟨R', hd', σd, qd, ⟨rfl, hhd, -⟩, hqd, rfl, hrd, hst⟩
   replace hH := hH.next hst
   clear hst
   refine Za rfl (Zh (ff rfl) rfl) (Xd (t1 rfl) rfl rfl 0 rfl rfl rfl rfl (Ze (Zc (Zb (Za rfl (Zh (ff rfl) rfl) ?_)))))
   refine Za rfl (Zj (t1 rfl) rfl (Zl 1 rfl rfl)) (Za rfl (Yb (tn rfl) rfl 0 rfl rfl) (WL_bs rfl (ts rfl) (tz rfl) rfl rfl rfl rfl rfl ?_))
   intro b4 hb4
   refine WL_app rfl (ta rfl) rfl rfl (Yj 0 rfl) rfl rfl ?_ ?_ ?_
   ·unfold maxLen; omega
   ·omega
   intro v2
   refine Za rfl (Zh (ff rfl) rfl) (Xz (p := ∃ p l c, v2 = .slice p l c) (fun w hs => Xl hs.res.1) ?_)
   rintro ⟨p3, l3, c3', hv1⟩; subst hv1
   refine Xd (t1 rfl) rfl rfl 2 rfl rfl rfl rfl (Ze (Zx (Zc (Zb (Za rfl (Zd rfl) ?_)))))
   (first | (refine Za rfl (Ex_subB rfl rfl ?_) ?_; omega) | refine Za rfl (Ex_sub rfl rfl) ?_)
   refine Za rfl (Zg rfl) (Ze (WQ_same (s := 6) (v' := .int .i64 (m : Nat)) rfl (congrArg (Value.int .i64) (by omega)) ?_))
   refine Yn (⟨m, σd, qd, .slice p3 l3 c3', y.l ++ [⟨ha, hb', hc', hd'⟩]⟩) ?_ (⟨⟨hqd, hrd⟩, by rw [List.length_append]; simp only [List.length_singleton]; omega, ok_snoc hok2 ⟨hha, hhb, hhc, Zr hhd⟩, goes_more hG2 hH.done⟩) 2 rfl (by show (ownA 169 4 _ _ _).and _ = _; rw [List.length_append, List.flatMap_append]; rfl) ⟨rfl, rfl, rfl, rfl, trivial⟩
   show m < y.n; omega
  ·intro c2
   try (first | replace c2 := dFa c2 | replace c2 := Zi c2)
   refine Yx (Yw (Yo (Yv (Zc (Zf ?_)))))
   refine Zf ?_
   replace hG2 := goes_end hG2 (hJ.2 c2)
   refine Zb (Za rfl (Zd rfl) (Yk fn88 rfl rfl 2 rfl h0.base (Rc_F h0) (tpLow_any u b s 1 hs (by omega) y.σ y.q hyq hyr) (fun h => h.elim) ?_))
   rintro v cs' ⟨R', n3, σe, qe, ⟨rfl, hn3, -⟩, hqe, rfl, hre, hst⟩
   replace hG2 := goes_list hG2 hst
   clear hst
   rw [toI_small (show n3 < 9223372036854775808 by omega)]
   refine Za rfl (Zg rfl) (Ze (Zc (Zs (WC_own 176 3 (WC_imp (Asr.Imp.right (Asr.noneAdd _)) ?_)))))
   refine Xh (E' := (fun z : TpL (Fr × Value × Value) => [(0, .pointer (some ⟨b, 0, none⟩)), (2, .pointer (some ⟨b1, 0, none⟩)), (3, .pointer (some ⟨b2, 0, none⟩)), (8, .int .i64 (z.n : Nat))]) (⟨n3, σe, qe, nilS, []⟩)) ⟨rfl, rfl, rfl, rfl, trivial⟩ (Yy (X := TpL (Fr × Value × Value)) (fun z : TpL (Fr × Value × Value) => [(0, .pointer (some ⟨b, 0, none⟩)), (2, .pointer (some ⟨b1, 0, none⟩)), (3, .pointer (some ⟨b2, 0, none⟩)), (8, .int .i64 (z.n : Nat))]) _ _ (fun z : TpL (Fr × Value × Value) => [(b2, meH nm st r lo sk (.slice p1 l1 c1') x.v y.v z.v), (b1, meH mt false ⟨0, mt⟩ 0 0 nilS nilS nilS nilS), (b, tpC s z.q z.σ.isNone)]) (fun z : TpL (Fr × Value × Value) => (ownA 176 3 z.v z.l.length (z.l.flatMap frC)).and ((bigA (z.l.map frA)).and ((hdsA y.v y.l).and ((inssA x.v x.l).and (tysA (.slice p1 l1 c1') ps))))) (fun z : TpL (Fr × Value × Value) => (z.q ≤ s.size ∧ (∀ r, z.σ = some r → r = (dl s).drop z.q)) ∧ z.l.length + z.n ≤ 255 ∧ (∀ p ∈ z.l, frOk p.1) ∧ Wa σ (pMe true false) z.σ (pThen (pFrom (pFr true false) (z.l.map (·.1)) z.n) _)) (fun z : TpL (Fr × Value × Value) => z.n) (⟨n3, σe, qe, nilS, []⟩) (⟨⟨hqe, hre⟩, by simp only [List.length_nil]; omega, (fun t h => by cases h), hG2⟩) ?_)
   intro z hI
   obtain ⟨⟨hzq, hzr⟩, hln3, hok3, hG3⟩ := hI
   refine Zf (WC_join (Y := Bool) (fun y' : Bool => [(0, .pointer (some ⟨b, 0, none⟩)), (2, .pointer (some ⟨b1, 0, none⟩)), (3, .pointer (some ⟨b2, 0, none⟩)), (8, .int .i64 (z.n : Nat)), (92, .bool y')]) (fun y' : Bool => [(b2, meH nm st r lo sk (.slice p1 l1 c1') x.v y.v z.v), (b1, meH mt false ⟨0, mt⟩ 0 0 nilS nilS nilS nilS), (b, tpC s z.q z.σ.isNone)]) (fun y' : Bool => (ownA 176 3 z.v z.l.length (z.l.flatMap frC)).and ((bigA (z.l.map frA)).and ((hdsA y.v y.l).and ((inssA x.v x.l).and (tysA (.slice p1 l1 c1') ps))))) (fun y' : Bool => (y' = true → 0 < z.n ∧ z.σ.isNone = false) ∧ (y' = false → z.n = 0 ∨ z.σ = none)) ?_ ?_)
   ·skip
    refine Zb (Za rfl (Zd rfl) (Za rfl (Ex_gtr rfl rfl) (Za rfl (Zd rfl) (Yr rfl rfl rfl ?_ ?_))))
    ·intro h3
     try (first | replace h3 := dTr h3 | replace h3 := Zk h3)
     refine Zo rfl rfl rfl (Zd rfl) (Zo rfl rfl rfl (Ys rfl) (Zo rfl rfl rfl (Zh (ff rfl) rfl) (Zo rfl rfl rfl (Zj (t1 rfl) rfl (Zl 2 rfl rfl)) (Zo rfl rfl rfl (Ex_not rfl) (Za rfl (Zt rfl rfl) ?_)))))
     refine Ze (WQ_meet _ 0 rfl rfl ⟨rfl, rfl, rfl, rfl, rfl, trivial⟩ ?_)
     first | exact loop_yes (by assumption) | exact loop_no (by assumption)
    ·intro h3
     try (first | replace h3 := dFa h3 | replace h3 := Zi h3)
     refine Zp rfl rfl rfl (Zp rfl rfl rfl (Zp rfl rfl rfl (Zp rfl rfl rfl (Zp rfl rfl rfl (Za rfl (Zz rfl rfl) ?_)))))
     refine Ze (WQ_meet _ 0 rfl rfl ⟨rfl, rfl, rfl, rfl, rfl, trivial⟩ ?_)
     first | exact loop_yes (by assumption) | exact loop_no (by assumption)
   intro y' hJ
   refine Yi rfl ?_ ?_
   ·intro c3
    try (first | replace c3 := dTr c3 | replace c3 := Zk c3)
    have h0n := (hJ.1 c3).1
    obtain ⟨m, hm⟩ : ∃ m, z.n = m + 1 := ⟨z.n - 1, by omega⟩
    rw [hm] at hG3
    refine Zw (Zc (Zf (Zs (Zf (Zb ?_)))))
    refine Za rfl (Xs (tb rfl) rfl rfl) (Xg rfl (tz rfl) ?_)
    intro b3 hb3
    refine Yd (tn rfl) rfl rfl 0 rfl rfl rfl rfl (Ze (Zc (Zf (Zb (Za rfl (Zd rfl) ?_)))))
    refine Yk fn88 rfl rfl 3 rfl h0.base (Rc_F h0) (tpInt_any u b s 2 hs (by omega) z.σ z.q hzq hzr) (fun h => h.elim) ?_
    rintro v cs' ⟨R', fa, σa, qa, ⟨rfl, hfa, -, -⟩, hqa, rfl, hra, hst⟩
    have hH := (Wa.first z.σ (pFr true false)).next hst
    clear hst
    refine Za rfl (Zh (ff rfl) rfl) (Xd (t1 rfl) rfl rfl 0 rfl rfl rfl rfl (Ze (Zc (Zf (Zb ?_)))))
    refine Za rfl (Zd rfl) (WL_callR fn132 rfl rfl 3 rfl h0.base (Rc_F h0) (tpTypes_any u b s 20 hs σa qa hqa hra) (fun h => h.elim) ?_)
    rintro lv cs' R' ⟨ls, σb, qb, ⟨hR3, hll, hlo'⟩, hqb, rfl, hrb, hst⟩
    replace hH := hH.next hst
    clear hst
    refine Xm hR3.left (Xz (p := ∃ p l c, lv = .slice p l c) (fun w hs => Xl hs.res.1) ?_)
    rintro ⟨p4, l4, c4', hlv⟩
    subst hlv
    refine Za rfl (Zh (ff rfl) rfl) (Xd (t1 rfl) rfl rfl 0 rfl rfl rfl rfl (Ze (Zc (Zf (Zb ?_)))))
    refine Za rfl (Zd rfl) (WL_callR fn132 rfl rfl 3 rfl h0.base (Rc_F h0) (tpTypes_any u b s 20 hs σb qb hqb hrb) (fun h => h.elim) ?_)
    rintro sv cs' R'' ⟨ss, σc, qc, ⟨hR4, hsl, hso⟩, hqc, rfl, hrc, hst⟩
    replace hH := hH.next hst
    clear hst
    refine Xm hR4.left (Xz (p := ∃ p l c, sv = .slice p l c) (fun w hs => Xl hs.res.1) ?_)
    rintro ⟨p5, l5, c5', hsv⟩
    subst hsv
    refine Xm (((Asr.cossa _ _ _).trans (Asr.comm _ _).left).trans (list_push (frA (⟨fa, ls, ss⟩, .slice p4 l4 c4', .slice p5 l5 c5')) _ _ _)) ?_
    refine Za rfl (Zh (ff rfl) rfl) (Xd (t1 rfl) rfl rfl 0 rfl rfl rfl rfl (Ze (Zc (Zb (Za rfl (Zh (ff rfl) rfl) ?_)))))
    refine Za rfl (Zj (t1 rfl) rfl (Zl 1 rfl rfl)) (Za rfl (Yb (tn rfl) rfl 0 rfl rfl) (WL_bs rfl (ts rfl) (tz rfl) rfl rfl rfl rfl rfl ?_))
    intro b4 hb4
    refine WL_app rfl (ta rfl) rfl rfl (Yj 0 rfl) rfl rfl ?_ ?_ ?_
    ·unfold maxLen; omega
    ·omega
    intro v3
    refine Za rfl (Zh (ff rfl) rfl) (Xz (p := ∃ p l c, v3 = .slice p l c) (fun w hs => Xl hs.res.1) ?_)
    rintro ⟨p3, l3, c3', hv1⟩; subst hv1
    refine Xd (t1 rfl) rfl rfl 2 rfl rfl rfl rfl (Ze (Zx (Zc (Zb (Za rfl (Zd rfl) ?_)))))
    (first | (refine Za rfl (Ex_subB rfl rfl ?_) ?_; omega) | refine Za rfl (Ex_sub rfl rfl) ?_)
    refine Za rfl (Zg rfl) (Ze (WQ_same (s := 8) (v' := .int .i64 (m : Nat)) rfl (congrArg (Value.int .i64) (by omega)) ?_))
    refine Yn (⟨m, σc, qc, .slice p3 l3 c3', z.l ++ [(⟨fa, ls, ss⟩, .slice p4 l4 c4', .slice p5 l5 c5')]⟩) ?_ (⟨⟨hqc, hrc⟩, by rw [List.length_append]; simp only [List.length_singleton]; omega, ok_snoc hok3 ⟨hfa, tys_255 hll hlo', tys_255 hsl hso⟩, by rw [List.map_append]; exact goes_more hG3 hH.done⟩) 2 rfl (by show (ownA 176 3 _ _ _).and _ = _; rw [List.length_append, List.flatMap_append, List.map_append]; rfl) ⟨rfl, rfl, rfl, rfl, trivial⟩
    show m < z.n; omega
   ·intro c3
    try (first | replace c3 := dFa c3 | replace c3 := Zi c3)
    refine Yx (Yw (Yo (Yv (Zc (Zf ?_)))))
    replace hG3 := goes_end hG3 (hJ.2 c3)
    refine WC_know (p := x.v.oneCell' = true ∧ y.v.oneCell' = true ∧ z.v.oneCell' = true) (fun w hs => ⟨own_one hs.res.2.1.2.1.2.1.1.1, own_one hs.res.2.1.2.1.1, own_one hs.res.1⟩) ?_
    rintro ⟨hox, hoy, hoz⟩
    refine Zb (Za rfl (Yb (tn rfl) rfl 0 rfl rfl) (Yd (tn rfl) rfl rfl 1 rfl rfl (meH_one _ _ _ _ _ rfl hox hoy hoz) rfl (Ze (Zc (Zv ?_)))))
    refine Rc_endR (Res_1 rfl (Xo (tn rfl) rfl (Yj 1 rfl) rfl)) 2 rfl ?_
    exact ⟨⟨nm, st, ps, r, lo, sk, x.l.map (·.1), y.l, z.l.map (·.1)⟩, z.σ, z.q, ⟨⟨.slice p1 l1 c1', x.v, y.v, z.v, x.l, z.l⟩, rfl, me_turn _ _ _ _ _, ⟨rfl, rfl, ⟨Zr hnm, hrr, hlo, hsk⟩, tys_255 hpl hpo, ⟨by show x.l.length ≤ 1048576; omega, hok⟩, ⟨by show y.l.length ≤ 1048576; omega, hok2⟩, ⟨by show z.l.length ≤ 1048576; omega, hok3⟩⟩⟩, hzq, rfl, hzr, hG3.done⟩
end Go.Proofs.YtpofmnfkdkmieaaGreat
namespace Go.Proofs.YtpofmnfkdkmieaaGreat
open Go Go.RowKit At E
/-! ### A mark as a text -/
def txa (n : Int) : Int := IntKind.u8.wrap (IntKind.i64.wrap (97 + n.tmod 26))
def txb (d n : Int) : Int := IntKind.u8.wrap (IntKind.i64.wrap (97 + (IntKind.i64.wrap (n.tdiv d)).tmod 26))
def textS (n : Int) : ByteArray := ⟨#[109]⟩ ++ ⟨([txa n, txb 26 n, txb 676 n, txb 17576 n].map fun i => UInt8.ofNat i.toNat).toArray⟩
theorem foldl_pushI : ∀ (ns : List Int) (s : ByteArray), ns.foldl (fun r (n : Int) => r.push (UInt8.ofNat n.toNat)) s = s ++ ⟨(ns.map fun i => UInt8.ofNat i.toNat).toArray⟩
 | [], s => by
  cases s with
  | mk d => apply ByteArray.ext; rw [ByteArray.data_append]; simp
 | b :: r, s => by
  rw [List.foldl_cons, foldl_pushI r]
  apply ByteArray.ext
  rw [ByteArray.data_append, ByteArray.data_append, ByteArray.data_push]
  simp
theorem Ex_bytesH {P : Program} {n : Nat} {E : Env} {w0 : World} {F : List Nat} {H : Hp} {R : Asr} {s d : TypeId} {x : Operand} {e k c b i : Nat} {ns : List Int} (hs : P.underlying s = some (.slice e)) (hu : P.underlying e = some (.int .u8)) (hd : P.underlying d = some .string) (hx : ev E x = some (.slice (some ⟨b, 0, none⟩) k c)) (hp : H[i]? = some (b, ns.map (Value.int .u8))) (hk : ns.length = k) :
  Ex P n E w0 F H R (.convert s d x) (.string ⟨(ns.map fun i => UInt8.ofNat i.toNat).toArray⟩) := ⟨fun w hS a ha _ _ _ _ _ => by
 simp only [execOp]; rw [ha.eval hx]
 have h1 := run_convert_bytes_string (P := P) w s d e (some ⟨b, 0, none⟩) k c hs hu hd
 have hl : (loadCells ⟨b, 0, none⟩ k).run P w = .ok (ns.map (Value.int .u8)).toArray w := by
  have := run_loadCells_list (P := P) w ⟨b, 0, none⟩ (ns.map (Value.int .u8)) (fun j v hj => by rw [Addr.add_lit, Nat.zero_add, hS.mine (List.mem_of_getElem? hp)]; exact hj)
  rw [List.length_map, hk] at this
  exact this
 have h2 := run_bytesToString (P := P) w ⟨b, 0, none⟩ k c _ hl
 rw [foldl_pushI] at h2
 have e3 : (ByteArray.empty ++ ⟨(ns.map fun i => UInt8.ofNat i.toNat).toArray⟩ : ByteArray) = ⟨(ns.map fun i => UInt8.ofNat i.toNat).toArray⟩ := by apply ByteArray.ext; rw [ByteArray.data_append]; simp
 rw [e3] at h2
 simp [h1, h2]⟩
theorem text_any (n : Int) (w : World) : Pure Tryz.prog 52 #[.int .i64 n] w (.string (textS n)) := by
 refine opens (args := [.int .i64 n]) Tryz.func52 rfl Tryz.ntmps52 ?_
 refine Zf (Zb (Za rfl (Zg rfl) (Ze (Zc (Zf ?_)))))
 refine Zb (Za rfl (Zd rfl) (Za rfl (Ex_rem rfl rfl rfl) ?_))
 (first | (refine Za rfl (Xa rfl rfl ?_) ?_; omega) | (refine Za rfl (Yp rfl rfl ?_) ?_; omega) | refine Za rfl (Yz rfl rfl) ?_)
 refine Za rfl (Ex_conv (tint rfl) (tint rfl) rfl) (Za rfl (Zd rfl) (Za rfl (Ex_quo rfl rfl rfl) (Za rfl (Ex_rem rfl rfl rfl) ?_)))
 (first | (refine Za rfl (Xa rfl rfl ?_) ?_; omega) | (refine Za rfl (Yp rfl rfl ?_) ?_; omega) | refine Za rfl (Yz rfl rfl) ?_)
 refine Za rfl (Ex_conv (tint rfl) (tint rfl) rfl) (Za rfl (Zd rfl) (Za rfl (Ex_quo rfl rfl rfl) (Za rfl (Ex_rem rfl rfl rfl) ?_)))
 (first | (refine Za rfl (Xa rfl rfl ?_) ?_; omega) | (refine Za rfl (Yp rfl rfl ?_) ?_; omega) | refine Za rfl (Yz rfl rfl) ?_)
 refine Za rfl (Ex_conv (tint rfl) (tint rfl) rfl) (Za rfl (Zd rfl) (Za rfl (Ex_quo rfl rfl rfl) (Za rfl (Ex_rem rfl rfl rfl) ?_)))
 (first | (refine Za rfl (Xa rfl rfl ?_) ?_; omega) | (refine Za rfl (Yp rfl rfl ?_) ?_; omega) | refine Za rfl (Yz rfl rfl) ?_)
 refine Za rfl (Ex_conv (tint rfl) (tint rfl) rfl) (WL_bs rfl (ts rfl) (tz rfl) rfl rfl rfl rfl rfl ?_)
 intro b0 hb0
 refine Za rfl (Ex_bytesH (i := 0) (ns := [txa n, txb 26 n, txb 676 n, txb 17576 n]) (ta rfl).sl (tint rfl) (tstr rfl) rfl rfl rfl) (Za rfl (Ex_addS rfl rfl ?_) ?_)
 ·(have h9 : (⟨([txa n, txb 26 n, txb 676 n, txb 17576 n].map fun i => UInt8.ofNat i.toNat).toArray⟩ : ByteArray).size = 4 := rfl; have h8 : (⟨#[109]⟩ : ByteArray).size = 1 := rfl; omega)
 refine Za rfl (Zg rfl) (Ze (Zc (Zv (Yh rfl rfl ?_))))
 rfl
theorem owns_form {w : World} {e size n : Nat} {v : Value} {xs : List Value} (h : w.ownsRow 0 e size v n xs) : ∃ p c, v = .slice p n c ∧ (0 < n → ∃ g, p = some ⟨g, 0, none⟩) := by
 rcases h.2 with ⟨rfl, rfl⟩ | ⟨g, cap, cur, rfl, _⟩
 ·exact ⟨_, _, rfl, fun h => by omega⟩
 ·exact ⟨_, _, rfl, fun _ => ⟨g, rfl⟩⟩
theorem quo4 (n : Nat) (h : n ≤ 1099511627776) : IntKind.i64.wrap (((n : Nat) : Int).tdiv 4) = ((n / 4 : Nat) : Int) := by
 rw [wrap_in _ (by rw [Int.tdiv_eq_ediv_of_nonneg (by omega)]; omega), Int.tdiv_eq_ediv_of_nonneg (by omega)]; omega
/-- The cells of a book. -/
def bkC (vT vI vF vM vH vR : Value) : List Value := [vT, vI, vF, vM, vH, vR, nilS, nilS, nilS, nilS]
def tyMk (q : Nat) : List Value := [.int .i64 (100 + (q : Nat)), .string mt]
def inMk (q : Nat) : List Value := [.int .i64 (100 + (q : Nat)), .int .i64 0, .string mt, .string mt, nilS, .int .i64 0, .string mt]
def fdMk (q : Nat) : List Value := [.string (textS (q : Nat)), .bool false, .int .i64 0, .string mt]
def meMk (q : Nat) : List Value := meH (textS (q : Nat)) false ⟨0, mt⟩ 0 0 nilS nilS nilS nilS
def hdMk (q : Nat) : List Value := [.int .i64 0, .int .i64 0, .int .i64 (100 + (q : Nat)), .string mt]
def frMk (q : Nat) : List Value := [.int .i64 (100 + (q : Nat)), nilS, nilS]
/-- The fourfold keeping. -/
structure KpL where
 k : Nat
 l : Value
 v : Value
 us : List Value
/-- What keeping asks and gives, for one sort of lists. -/
def sortA (e : Nat) (mk : Nat → List Value) (v : Value) (vs : List Value) : Asr := (ownA e 1 v vs.length vs).and (keptA mk vs)
theorem keepTypes_any (b : Nat) (vT vI vF vM vH vR l : Value) (vs xs : List Value) (n : Nat) (h4 : vs.length % 4 = 0) (hb : vs.length ≤ 1099511627776) (hn : n ≤ 2000000) :
  RkP Tryz.prog 81 #[.pointer (some ⟨b, 0, none⟩), l] b (bkC vT vI vF vM vH vR) ((ownA 71 2 l n xs).and (sortA 69 tyMk vT vs))
   (fun v cs' R' => ∃ v' us, us.length = 4 ∧ cs' = bkC v' vI vF vM vH vR ∧ R'.Imp (sortA 69 tyMk v' (vs ++ us))) := by
 intro w hs0
 obtain ⟨pl, cl, rfl, hpl⟩ := owns_form hs0.res.1
 obtain ⟨pv, cv, rfl, -⟩ := owns_form hs0.res.2.1.1
 have hxl : xs.length = n * 2 := hs0.res.1.1
 replace hpl : Hid _ := hpl
 refine opensF (hs0) (args := [.pointer (some ⟨b, 0, none⟩), .slice pl n cl]) Tryz.func81 rfl Tryz.ntmps81 ?_
 refine Zf (Zb (Za rfl (Zd rfl) (Za rfl (Ys rfl) (Za rfl (Zh (ff rfl) rfl) (Za rfl (Zh (ff rfl) rfl) ?_)))))
 refine Za rfl (Zj (t1 rfl) rfl (Zl 0 rfl rfl)) (Za rfl (Yg (ts rfl) rfl) (Za rfl (Ex_quo rfl rfl rfl) ?_))
 (first | (refine Za rfl (Xa rfl rfl ?_) ?_; omega) | (refine Za rfl (Yp rfl rfl ?_) ?_; omega) | refine Za rfl (Yz rfl rfl) ?_)
 refine WL_same (s := 15) (v' := .int .i64 (100 + ((vs.length / 4 : Nat) : Int))) rfl (congrArg (Value.int .i64) (by rw [quo4 _ hb]; exact wrap_in _ (by omega))) ?_
 refine Za rfl (Xs (tb rfl) rfl rfl) (Xg rfl (tz rfl) ?_)
 intro b1 hb1
 refine Yd (tn rfl) rfl rfl 0 rfl rfl rfl rfl (Ze (Zc (Zf (Zf (Zb ?_)))))
 refine Za rfl (Zg rfl) (Ze (Zc (Zs (WC_res (congrArg (fun z => (ownA 71 2 (.slice pl n cl) n z).and (sortA 69 tyMk (.slice pv vs.length cv) vs)) (show xs = rep (tyMk (vs.length / 4)) 0 ++ xs.drop (0 * 2) from by simp [rep])) ?_))))
 refine Xh (E' := (fun i : Nat => [(0, .pointer (some ⟨b, 0, none⟩)), (1, .slice pl n cl), (4, .pointer (some ⟨b1, 0, none⟩)), (5, .int .i64 (i : Nat))]) (0)) ⟨rfl, rfl, rfl, rfl, trivial⟩ (Yy (X := Nat) (fun i : Nat => [(0, .pointer (some ⟨b, 0, none⟩)), (1, .slice pl n cl), (4, .pointer (some ⟨b1, 0, none⟩)), (5, .int .i64 (i : Nat))]) _ _ (fun i : Nat => [(b1, tyMk (vs.length / 4)), (b, bkC (.slice pv vs.length cv) vI vF vM vH vR)]) (fun i : Nat => (ownA 71 2 (.slice pl n cl) n (rep (tyMk (vs.length / 4)) i ++ xs.drop (i * 2))).and (sortA 69 tyMk (.slice pv vs.length cv) vs)) (fun i : Nat => i ≤ n) (fun i : Nat => n - i) (0) (Nat.zero_le _) ?_)
 intro i hI
 refine Zf (Zf (Zb (Za rfl (Zd rfl) (Za rfl (Zd rfl) (Za rfl (Yg (ts rfl) rfl) ?_)))))
 refine Za rfl (Xb rfl rfl) (Ze (Zc (Yi rfl ?_ ?_)))
 ·intro c1
  try (first | replace c1 := dTr c1 | replace c1 := Zk c1)
  obtain ⟨g, hg⟩ := hpl.out (by omega)
  subst hg
  refine Zw (Zc (Zf (Zs (Zb (Za rfl (Zd rfl) ?_)))))
  refine Za rfl (Zd rfl) (Za rfl (Yb (tn rfl) rfl 0 rfl rfl) (Za rfl (Xk (ts rfl) rfl rfl ?_) ?_))
  ·omega
  refine WL_storeRow (tn rfl) rfl rfl rfl rfl (by show 0 + i * 2 + 2 ≤ n * 2; omega) ?_
  refine Ze (Zx (Zc (Zb (Za rfl (Zd rfl) ?_))))
  (first | (refine Za rfl (Xa rfl rfl ?_) ?_; omega) | (refine Za rfl (Yp rfl rfl ?_) ?_; omega) | refine Za rfl (Yz rfl rfl) ?_)
  refine Za rfl (Zg rfl) (Ze ?_)
  refine Yn (i + 1) ?_ (by omega) 0 rfl (by show (ownA 71 2 _ _ _).and _ = (ownA 71 2 _ _ _).and _; rw [Nat.zero_add]; exact congrArg (fun z => (ownA 71 2 (.slice (some ⟨g, 0, none⟩) n cl) n z).and (sortA 69 tyMk (.slice pv vs.length cv) vs)) (put_rep (m := tyMk (vs.length / 4)) (by show (i + 1) * 2 ≤ xs.length; omega)).symm) ⟨rfl, rfl, rfl, rfl, trivial⟩
  omega
 ·intro c1
  try (first | replace c1 := dFa c1 | replace c1 := Zi c1)
  refine Yx (Yw (Yo (Yv (Zc (Zf ?_)))))
  refine WC_res (congrArg (fun z => (ownA 71 2 (.slice pl n cl) n z).and (sortA 69 tyMk (.slice pv vs.length cv) vs)) (show _ = rep (tyMk (vs.length / 4)) n from by rw [show i = n by omega, List.drop_of_length_le (by omega), List.append_nil])) ?_
  refine WC_imp (Asr.Imp.left grp_first) (Zb (Za rfl (Zg rfl) (Ze (Zc (Zs ?_)))))
  refine WC_res (R' := (grpA 71 2 (tyMk (vs.length / 4)) (.slice pl n cl) (n + 0) []).and ((ownA 69 1 (.slice pv vs.length cv) (vs.length + 0) (vs ++ [])).and (keptA tyMk vs))) (by rw [List.append_nil]; rfl) ?_
  refine Xh (E' := (fun x : KpL => [(0, .pointer (some ⟨b, 0, none⟩)), (1, x.l), (4, .pointer (some ⟨b1, 0, none⟩)), (6, .int .i64 (x.k : Nat))]) (⟨0, .slice pl n cl, .slice pv vs.length cv, []⟩)) ⟨rfl, rfl, rfl, rfl, trivial⟩ (Yy (X := KpL) (fun x : KpL => [(0, .pointer (some ⟨b, 0, none⟩)), (1, x.l), (4, .pointer (some ⟨b1, 0, none⟩)), (6, .int .i64 (x.k : Nat))]) _ _ (fun x : KpL => [(b1, tyMk (vs.length / 4)), (b, bkC x.v vI vF vM vH vR)]) (fun x : KpL => (grpA 71 2 (tyMk (vs.length / 4)) x.l (n + x.k) x.us).and ((ownA 69 1 x.v (vs.length + x.k) (vs ++ x.us)).and (keptA tyMk vs))) (fun x : KpL => x.k ≤ 4 ∧ x.us.length = x.k) (fun x : KpL => 4 - x.k) (⟨0, .slice pl n cl, .slice pv vs.length cv, []⟩) (⟨Nat.zero_le _, rfl⟩) ?_)
  intro x hI
  obtain ⟨zk, zl, zv, zu⟩ := x
  obtain ⟨hk4, hkl⟩ : zk ≤ 4 ∧ zu.length = zk := hI
  have hkk0 : (KpL.mk zk zl zv zu).k = zk := rfl
  have huu0 : (KpL.mk zk zl zv zu).us.length = zu.length := rfl
  refine Zf (Zf (Zb (Za rfl (Zd rfl) (Za rfl (Xb rfl rfl) (Ze ?_)))))
  refine Zc (Yi rfl ?_ ?_)
  ·intro c2
   try (first | replace c2 := dTr c2 | replace c2 := Zk c2)
   refine Zw (Zc (Zf (Zs (Zf (WC_know (p := ∃ p n c, zl = .slice p n c) (fun w hs => Xl hs.res.1.1) ?_)))))
   rintro ⟨pz, nz, cz, hzl⟩; subst hzl
   have hkk : (KpL.mk zk (.slice pz nz cz) zv zu).k = zk := rfl
   refine WC_imp (Asr.swap _ _ _) (Zb (Za rfl (Zd rfl) (Za rfl (Zd rfl) (Za rfl (Ys rfl) (Za rfl (Zh (ff rfl) rfl) ?_)))))
   refine Za rfl (Zh (ff rfl) rfl) (Za rfl (Zj (t1 rfl) rfl (Zl 1 rfl rfl)) (Za rfl (Zd rfl) (WL_bs rfl (ts rfl) (tz rfl) rfl rfl rfl rfl rfl ?_)))
   intro b2 hb2
   refine WL_app rfl (ta rfl) rfl rfl (Yj 0 rfl) rfl rfl (by unfold maxLen; omega) (by omega) ?_
   intro v1
   refine Za rfl (Ys rfl) (Za rfl (Zh (ff rfl) rfl) (Za rfl (Zh (ff rfl) rfl) (Xz (p := ∃ p l c, v1 = .slice p l c) (fun w hs => Xl hs.res.1) ?_)))
   rintro ⟨p3, l3, c3', hv1⟩; subst hv1
   refine Xd (t1 rfl) rfl rfl 2 rfl rfl rfl rfl (Ze (Zc (Zf (WC_imp (Asr.swap _ _ _) (Zb ?_)))))
   refine Za rfl (Zd rfl) (Za rfl (Yb (tn rfl) rfl 1 rfl rfl) (WL_bs rfl (ts rfl) (tz rfl) rfl rfl rfl rfl rfl ?_))
   intro b3 hb3
   refine WL_appG rfl (ta rfl) rfl rfl (Yj (cs := tyMk (vs.length / 4)) 0 rfl) rfl rfl (by unfold maxLen; omega) (by omega) ?_
   intro v2
   refine Za rfl (Zg rfl) (Ze (Zc (Zb (Za rfl (Zd rfl) (Za rfl (Zg rfl) ?_)))))
   refine Ze (Zx (Zc (Zb (Za rfl (Zd rfl) ?_))))
   (first | (refine Za rfl (Xa rfl rfl ?_) ?_; omega) | (refine Za rfl (Yp rfl rfl ?_) ?_; omega) | refine Za rfl (Yz rfl rfl) ?_)
   refine Za rfl (Zg rfl) (Ze ?_)
   refine Yn (⟨zk + 1, v2, .slice p3 l3 c3', zu ++ [.slice pz nz cz]⟩) ?_ (⟨by show zk + 1 ≤ 4; omega, by show (zu ++ [Value.slice pz nz cz]).length = zk + 1; rw [List.length_append, hkl]; rfl⟩) 2 rfl (by show (grpA 71 2 (tyMk (vs.length / 4)) v2 (n + (zk + 1)) _).and ((ownA 69 1 _ (vs.length + (zk + 1)) (vs ++ (zu ++ [Value.slice pz nz cz]))).and _) = _; rw [← List.append_assoc]; rfl) ⟨rfl, rfl, rfl, rfl, trivial⟩
   show 4 - (zk + 1) < 4 - zk; omega
  ·intro c2
   try (first | replace c2 := dFa c2 | replace c2 := Zi c2)
   refine Yx (Yw (Yo (Yv (WQ_imp ((Asr.swap _ _ _).trans (Asr.Imp.right (grp_last h4 (by omega)))) (Rk_end0 rfl 1 rfl ?_)))))
   exact ⟨zv, zu, by omega, rfl, by show ((ownA 69 1 zv (vs.length + zk) (vs ++ zu)).and _).Imp _; unfold sortA; rw [List.length_append, hkl]; exact .refl _⟩
end Go.Proofs.YtpofmnfkdkmieaaGreat
