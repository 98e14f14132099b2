/- What is proved here: the document's own Decode answers the class that the plain reading comes to, in memory of its own, or ErrForm. the program's Encode answers the bytes of a class, or ErrForm. -/
import Derived.Test.YtpofmnfkdkmieaaGreatQ17
import Derived.Test.YtpofmnfkdkmieaaGreatQ20
import Derived.Test.YtpofmnfkdkmieaaGreatQ30
set_option linter.unusedVariables false
set_option linter.unusedSimpArgs false
namespace Go.Proofs.YtpofmnfkdkmieaaGreat
open Go.RowKit At E
/-- What Decode hands back. -/
def decOk (o : Option Cl) : Value → Asr → Prop := fun v R' =>
 (∃ c k, o = some c ∧ v = .tuple #[.agg (clV c k.fv k.mv).toArray, .int .i64 0] ∧ R'.Imp (clA c k) ∧ ClFit c k) ∨ (o = none ∧ v = .tuple #[.agg zeroC.toArray, .int .i64 1])
theorem dec_end {s : ByteArray} {c : Cl} {σ : Option (List UInt8)} (hc : (dl s).take 4 = clas) (h : TpStep (pCl true false) (some ((dl s).drop 4)) c σ) : decL true false (dl s) = σ.bind fun r => if r = [] then some c else none := by
 unfold decL
 rw [if_pos hc]
 have h1 : pCl true false ((dl s).drop 4) = σ.map fun r => (c, r) := h
 rw [h1]
 cases σ <;> rfl
theorem take4 (s : ByteArray) : s.extract 0 4 = ⟨#[67, 76, 65, 83]⟩ ↔ (dl s).take 4 = clas := by
 have e := seg_text (s := s) (a := 0) (n := 4)
 rw [Nat.zero_add] at e
 rw [e]
 unfold seg clas
 rw [List.drop_zero]
 constructor
 ·intro h
  have h2 := congrArg (fun b : ByteArray => b.data.toList) h
  simpa using h2
 ·intro h
  rw [h]
theorem short4 {s : ByteArray} (h : s.size < 4) : ¬ (dl s).take 4 = clas := by
 intro e
 have := congrArg List.length e
 rw [List.length_take, dl_length] at this
 simp only [clas, List.length_cons, List.length_nil] at this
 omega
theorem no_class {s : ByteArray} (h : ¬ (dl s).take 4 = clas) : okOnly (decL true false (dl s)) = none := by unfold decL; rw [if_neg h]; rfl
theorem cl_turn (A B F : Asr) : (A.and (B.and F)).Imp (F.and (A.and B)) := (Asr.cossa A B F).trans (Asr.comm _ _)
def clH (nm sp : ByteArray) (fv mv : Value) : List Value := [.string nm, .string sp, fv, mv]
theorem clH_one (nm sp : ByteArray) {fv mv : Value} (h1 : fv.oneCell' = true) (h2 : mv.oneCell' = true) : (cut (clH nm sp fv mv) 0 4).all (·.oneCell') = true := by
 show (clH nm sp fv mv).all (·.oneCell') = true
 simp only [clH, List.all_cons, List.all_nil, h1, h2]
 rfl
theorem dec_more {s : ByteArray} {c : Cl} {σ : Option (List UInt8)} {q : Nat} (hE : decL true false (dl s) = σ.bind fun r => if r = [] then some c else none) (hr : ∀ r, σ = some r → r = (dl s).drop q) (_ : σ.isNone = false) (hq : ¬ ((q : Nat) : Int) = ((s.size : Nat) : Int)) (hqs : q ≤ s.size) : okOnly (decL true false (dl s)) = none := by
 rw [hE]
 cases σ with
 | none => rfl
 | some r =>
  have h1 := hr r rfl
  have hne : r ≠ [] := by
   intro e
   rw [e] at h1
   have h2 := congrArg List.length h1
   rw [List.length_drop, dl_length, List.length_nil] at h2
   omega
  simp [okOnly, hne]
theorem dec_all {s : ByteArray} {c : Cl} {σ : Option (List UInt8)} {q : Nat} (hE : decL true false (dl s) = σ.bind fun r => if r = [] then some c else none) (hr : ∀ r, σ = some r → r = (dl s).drop q) (hg : σ.isNone = false) (hq : ((q : Nat) : Int) = ((s.size : Nat) : Int)) : decL true false (dl s) = some c := by
 rw [hE]
 obtain ⟨r, rfl⟩ := isNone_some hg
 have h1 := hr r rfl
 have he : r = [] := by rw [h1, List.drop_eq_nil_iff, dl_length]; omega
 simp [he]
set_option maxHeartbeats 2000000 in
theorem refDecode_any (s : ByteArray) (w : World) (hs : s.size ≤ 4000000) : FnP Tryz.prog 49 #[.string s] w (decOk (okOnly (decL true false (dl s)))) False := by
 have hu : Below w.heap.size w w := Below.refl _ w
 refine opens (args := [.string s]) Tryz.func49 rfl Tryz.ntmps49 ?_
 refine Zf (Zb (Xg rfl (tz rfl) ?_))
 intro b0 hb0
 refine Za rfl (Zg rfl) (Ze (Zc (Zf (Zb (Za rfl (Xs (tb rfl) rfl rfl) ?_)))))
 refine Xg rfl (tz rfl) ?_
 intro b1 hb1
 refine Yd (tn rfl) rfl rfl 0 rfl rfl rfl rfl (Ze (Zc (Zf (Zf (Zb ?_)))))
 refine Za rfl (Zd rfl) (Za rfl (Ex_lenS (tstr rfl) rfl) (Za rfl (Xb rfl rfl) (Za rfl (Zd rfl) (Yr rfl rfl rfl ?_ ?_))))
 ·intro h1
  try (first | replace h1 := dTr h1 | replace h1 := Zk h1)
  refine Zp rfl rfl rfl (Zp rfl rfl rfl (Zp rfl rfl rfl (Za rfl (Zt rfl rfl) (Ze (Zc ?_)))))
  refine Xq rfl ?_
  have hno : okOnly (decL true false (dl s)) = none := no_class (by first | exact short4 (by omega) | exact fun h => c1 ((take4 s).2 h))
  refine Zf (Zb (Za rfl (Yb (tn rfl) rfl 0 rfl rfl) (Yd (tn rfl) rfl rfl 1 rfl rfl rfl rfl (Za rfl (Zg rfl) (Ze ?_)))))
  refine Zc (Zv (Zq (Fn_end (Res_2 rfl (Xo (tn rfl) rfl (Yj 1 rfl) rfl) (RV_tmp rfl)) ?_)))
  first | exact .inr ⟨hno, rfl⟩ | exact .inl ⟨⟨nm, sp, x.l, y.l.map (·.1)⟩, ⟨x.v, y.v, y.l⟩, hyes2, rfl, .refl _, hfit⟩
 ·intro h1
  try (first | replace h1 := dFa h1 | replace h1 := Zi h1)
  refine Zo rfl rfl rfl (Zd rfl) (Zo rfl rfl rfl (Ex_sliceTo (h := 4) (tstr rfl) rfl rfl (by omega)) ?_)
  refine Zo rfl rfl rfl (Ex_neqS rfl rfl) (Za rfl (Zz rfl rfl) (Ze (Zc (Yi rfl ?_ ?_))))
  ·intro c1
   try (first | replace c1 := dTr c1 | replace c1 := Zk c1)
   have hno : okOnly (decL true false (dl s)) = none := no_class (by first | exact short4 (by omega) | exact fun h => c1 ((take4 s).2 h))
   refine Zf (Zb (Za rfl (Yb (tn rfl) rfl 0 rfl rfl) (Yd (tn rfl) rfl rfl 1 rfl rfl rfl rfl (Za rfl (Zg rfl) (Ze ?_)))))
   refine Zc (Zv (Zq (Fn_end (Res_2 rfl (Xo (tn rfl) rfl (Yj 1 rfl) rfl) (RV_tmp rfl)) ?_)))
   first | exact .inr ⟨hno, rfl⟩ | exact .inl ⟨⟨nm, sp, x.l, y.l.map (·.1)⟩, ⟨x.v, y.v, y.l⟩, hyes2, rfl, .refl _, hfit⟩
  ·intro c1
   try (first | replace c1 := dFa c1 | replace c1 := Zi c1)
   have hcl : (dl s).take 4 = clas := (take4 s).1 c1
   refine Zw (Zc (Zf ?_))
   have hfour : 4 ≤ s.size := by rcases Nat.lt_or_ge s.size 4 with h9 | h9; exact absurd hcl (short4 h9); exact h9
   refine Zb (Za rfl (Zd rfl) (Za rfl (Xs (tb rfl) rfl rfl) (WL_box rfl rfl ?_)))
   intro b2 hb2
   refine Za rfl (Zg rfl) (Ze (Zc (Zf (Zb (Za rfl (Xs (tb rfl) rfl rfl) ?_)))))
   refine Xg rfl (tz rfl) ?_
   intro b3 hb3
   refine Yd (tn rfl) rfl rfl 0 rfl rfl rfl rfl (Ze (Zc (Zf (Zb (Za rfl (Zd rfl) ?_)))))
   refine Yk fn87 rfl rfl 1 rfl hu none_in (tpName_any w _ s hs (some ((dl s).drop 4)) 4 hfour (fun r h => by cases h; rfl)) (fun h => h.elim) ?_
   rintro v cs' ⟨R', nm, σ1, q1, ⟨rfl, hnm, -⟩, hq1, rfl, hr1, hst⟩
   have hS := (Wa.first (some ((dl s).drop 4)) (pCl true false)).next hst
   clear hst
   refine Za rfl (Zh (ff rfl) rfl) (Xd (t1 rfl) rfl rfl 0 rfl rfl rfl rfl (Ze (Zc (Zf (Zb ?_)))))
   refine Za rfl (Zd rfl) (Yk fn87 rfl rfl 1 rfl hu none_in (tpName_any w _ s hs σ1 q1 hq1 hr1) (fun h => h.elim) ?_)
   rintro v cs' ⟨R', sp, σ2, q2, ⟨rfl, hsp, -⟩, hq2, rfl, hr2, hst⟩
   replace hS := hS.next hst
   clear hst
   refine Za rfl (Zh (ff rfl) rfl) (Xd (t1 rfl) rfl rfl 0 rfl rfl rfl rfl (Ze (Zc (Zf (Zf ?_)))))
   refine Zb (Za rfl (Zd rfl) (Yk fn88 rfl rfl 1 rfl hu none_in (tpLow_any w _ s 1 hs (by omega) σ2 q2 hq2 hr2) (fun h => h.elim) ?_))
   rintro v cs' ⟨R', n, σ3, q3, ⟨rfl, hn, -⟩, hq3, rfl, hr3, hst⟩
   replace hS := goes_list hS hst
   clear hst
   rw [toI_small (show n < 9223372036854775808 by omega)]
   refine Za rfl (Zg rfl) (Ze (Zc (Zs (WC_own 128 4 ?_))))
   refine Xh (E' := (fun x : TpL Fld => [(0, .string s), (2, .pointer (some ⟨b0, 0, none⟩)), (4, .pointer (some ⟨b1, 0, none⟩)), (5, .pointer (some ⟨b2, 0, none⟩)), (6, .pointer (some ⟨b3, 0, none⟩)), (7, .int .i64 (x.n : Nat))]) (⟨n, σ3, q3, nilS, []⟩)) ⟨rfl, rfl, rfl, rfl, rfl, rfl, trivial⟩ (Yy (X := TpL Fld) (fun x : TpL Fld => [(0, .string s), (2, .pointer (some ⟨b0, 0, none⟩)), (4, .pointer (some ⟨b1, 0, none⟩)), (5, .pointer (some ⟨b2, 0, none⟩)), (6, .pointer (some ⟨b3, 0, none⟩)), (7, .int .i64 (x.n : Nat))]) _ _ (fun x : TpL Fld => [(b3, clH nm sp x.v nilS), (b2, tpC s x.q x.σ.isNone), (b1, zeroC), (b0, zeroC)]) (fun x : TpL Fld => (ownA 128 4 x.v x.l.length (x.l.flatMap fdV)).and Asr.none) (fun x : TpL Fld => (x.q ≤ s.size ∧ (∀ r, x.σ = some r → r = (dl s).drop x.q)) ∧ x.l.length + x.n ≤ 255 ∧ (∀ p ∈ x.l, fdOk p) ∧ Wa (some ((dl s).drop 4)) (pCl true false) x.σ (pThen (pFrom (pFd true) x.l x.n) _)) (fun x : TpL Fld => x.n) (⟨n, σ3, q3, nilS, []⟩) (⟨⟨hq3, hr3⟩, by simp only [List.length_nil]; omega, (fun t h => by cases h), hS⟩) ?_)
   intro x hI
   obtain ⟨⟨hxq, hxr⟩, hln, hok, hG⟩ := hI
   refine Zf (WC_join (Y := Bool) (fun y' : Bool => [(0, .string s), (2, .pointer (some ⟨b0, 0, none⟩)), (4, .pointer (some ⟨b1, 0, none⟩)), (5, .pointer (some ⟨b2, 0, none⟩)), (6, .pointer (some ⟨b3, 0, none⟩)), (7, .int .i64 (x.n : Nat)), (42, .bool y')]) (fun y' : Bool => [(b3, clH nm sp x.v nilS), (b2, tpC s x.q x.σ.isNone), (b1, zeroC), (b0, zeroC)]) (fun y' : Bool => (ownA 128 4 x.v x.l.length (x.l.flatMap fdV)).and Asr.none) (fun y' : Bool => (y' = true → 0 < x.n ∧ x.σ.isNone = false) ∧ (y' = false → x.n = 0 ∨ x.σ = none)) ?_ ?_)
   ·skip
    refine Zb (Za rfl (Zd rfl) (Za rfl (Ex_gtr rfl rfl) (Za rfl (Zd rfl) (Yr rfl rfl rfl ?_ ?_))))
    ·intro h2
     try (first | replace h2 := dTr h2 | replace h2 := Zk h2)
     refine Zo rfl rfl rfl (Zd rfl) (Zo rfl rfl rfl (Ys rfl) (Zo rfl rfl rfl (Zh (ff rfl) rfl) (Zo rfl rfl rfl (Zj (t1 rfl) rfl (Zl 1 rfl rfl)) (Zo rfl rfl rfl (Ex_not rfl) (Za rfl (Zt rfl rfl) ?_)))))
     refine Ze (WQ_meet _ 0 rfl rfl ⟨rfl, rfl, rfl, rfl, rfl, rfl, rfl, trivial⟩ ?_)
     first | exact loop_yes (by assumption) | exact loop_no (by assumption)
    ·intro h2
     try (first | replace h2 := dFa h2 | replace h2 := Zi h2)
     refine Zp rfl rfl rfl (Zp rfl rfl rfl (Zp rfl rfl rfl (Zp rfl rfl rfl (Zp rfl rfl rfl (Za rfl (Zz rfl rfl) ?_)))))
     refine Ze (WQ_meet _ 0 rfl rfl ⟨rfl, rfl, rfl, rfl, rfl, rfl, rfl, trivial⟩ ?_)
     first | exact loop_yes (by assumption) | exact loop_no (by assumption)
   intro y' hJ
   refine Yi rfl ?_ ?_
   ·intro c2
    try (first | replace c2 := dTr c2 | replace c2 := Zk c2)
    have h0n := (hJ.1 c2).1
    obtain ⟨m, hm⟩ : ∃ m, x.n = m + 1 := ⟨x.n - 1, by omega⟩
    rw [hm] at hG
    refine Zw (Zc (Zf (Zs (Zf (Zb ?_)))))
    refine Za rfl (Xs (tb rfl) rfl rfl) (Xg rfl (tz rfl) ?_)
    intro b4 hb4
    refine Yd (tn rfl) rfl rfl 0 rfl rfl rfl rfl (Ze (Zc (Zf (Zb (Za rfl (Zd rfl) ?_)))))
    refine Yk fn87 rfl rfl 2 rfl hu none_in (tpName_any w _ s hs x.σ x.q hxq hxr) (fun h => h.elim) ?_
    rintro v cs' ⟨R', fn', σa, qa, ⟨rfl, hfn, -⟩, hqa, rfl, hra, hst⟩
    have hH := (Wa.first x.σ (pFd true)).next hst
    clear hst
    refine Za rfl (Zh (ff rfl) rfl) (Xd (t1 rfl) rfl rfl 0 rfl rfl rfl rfl (Ze (Zc (Zf (Zb ?_)))))
    refine Za rfl (Zd rfl) (Yk fn89 rfl rfl 2 rfl hu none_in (tpFlag_any w _ s hs σa qa hqa hra) (fun h => h.elim) ?_)
    rintro v cs' ⟨R', ff', σb, qb, ⟨rfl, -⟩, hqb, rfl, hrb, hst⟩
    replace hH := hH.next hst
    clear hst
    refine Za rfl (Zh (ff rfl) rfl) (Xd (t1 rfl) rfl rfl 0 rfl rfl rfl rfl (Ze (Zc (Zf (Zb ?_)))))
    refine Za rfl (Zd rfl) (Yk fn90 rfl rfl 2 rfl hu none_in (Xv w _ s hs σb qb hqb hrb) (fun h => h.elim) ?_)
    rintro v cs' ⟨R', ft', σc, qc, ⟨rfl, hft, -⟩, hqc, rfl, hrc, hst⟩
    replace hH := hH.next hst
    clear hst
    refine Za rfl (Zh (ff rfl) rfl) (Yd (tn rfl) rfl rfl 0 rfl rfl rfl rfl (Ze (Zc (Zb (Za rfl (Zh (ff rfl) rfl) ?_)))))
    refine Za rfl (Zj (t1 rfl) rfl (Zl 1 rfl rfl)) (Za rfl (Yb (tn rfl) rfl 0 rfl rfl) (WL_bs rfl (ts rfl) (tz rfl) rfl rfl rfl rfl rfl ?_))
    intro b5 hb5
    refine WL_app rfl (ta rfl) rfl rfl (Yj 0 rfl) rfl rfl ?_ ?_ ?_
    ·unfold maxLen; omega
    ·omega
    intro v1
    refine Za rfl (Zh (ff rfl) rfl) (Xz (p := ∃ p l c, v1 = .slice p l c) (fun w hs => Xl hs.res.1) ?_)
    rintro ⟨p3, l3, c3', hv1⟩; subst hv1
    refine Xd (t1 rfl) rfl rfl 2 rfl rfl rfl rfl (Ze (Zx (Zc (Zb (Za rfl (Zd rfl) ?_)))))
    (first | (refine Za rfl (Ex_subB rfl rfl ?_) ?_; omega) | refine Za rfl (Ex_sub rfl rfl) ?_)
    refine Za rfl (Zg rfl) (Ze (WQ_same (s := 7) (v' := .int .i64 (m : Nat)) rfl (congrArg (Value.int .i64) (by omega)) ?_))
    refine Yn (⟨m, σc, qc, .slice p3 l3 c3', x.l ++ [⟨fn', ff', ft'⟩]⟩) ?_ (⟨⟨hqc, hrc⟩, by rw [List.length_append]; simp only [List.length_singleton]; omega, ok_snoc hok ⟨Zr hfn, hft⟩, goes_more hG hH.done⟩) 2 rfl (by show (ownA 128 4 _ _ _).and _ = _; rw [List.length_append, List.flatMap_append]; rfl) ⟨rfl, rfl, rfl, rfl, rfl, rfl, trivial⟩
    show m < x.n; omega
   ·intro c2
    try (first | replace c2 := dFa c2 | replace c2 := Zi c2)
    refine Yx (Yw (Yo (Yv (Zc (Zf ?_)))))
    refine Zf ?_
    replace hG := goes_end hG (hJ.2 c2)
    refine WC_imp (Asr.fst _ _) (Zb (Za rfl (Zd rfl) (Yk fn88 rfl rfl 1 rfl hu none_in (tpLow_any w _ s 1 hs (by omega) x.σ x.q hxq hxr) (fun h => h.elim) ?_)))
    rintro v cs' ⟨R', n2, σ9, q9, ⟨rfl, hn2, -⟩, hq9, rfl, hr9, hst⟩
    replace hG := goes_list hG hst
    clear hst
    rw [toI_small (show n2 < 9223372036854775808 by omega)]
    refine Za rfl (Zg rfl) (Ze (Zc (Zs (WC_own 134 10 (WC_imp (Asr.Imp.right (Asr.noneAdd _)) ?_)))))
    refine Xh (E' := (fun y : TpL (Me × MeM) => [(0, .string s), (2, .pointer (some ⟨b0, 0, none⟩)), (4, .pointer (some ⟨b1, 0, none⟩)), (5, .pointer (some ⟨b2, 0, none⟩)), (6, .pointer (some ⟨b3, 0, none⟩)), (9, .int .i64 (y.n : Nat))]) (⟨n2, σ9, q9, nilS, []⟩)) ⟨rfl, rfl, rfl, rfl, rfl, rfl, trivial⟩ (Yy (X := TpL (Me × MeM)) (fun y : TpL (Me × MeM) => [(0, .string s), (2, .pointer (some ⟨b0, 0, none⟩)), (4, .pointer (some ⟨b1, 0, none⟩)), (5, .pointer (some ⟨b2, 0, none⟩)), (6, .pointer (some ⟨b3, 0, none⟩)), (9, .int .i64 (y.n : Nat))]) _ _ (fun y : TpL (Me × MeM) => [(b3, clH nm sp x.v y.v), (b2, tpC s y.q y.σ.isNone), (b1, zeroC), (b0, zeroC)]) (fun y : TpL (Me × MeM) => (ownA 134 10 y.v y.l.length (y.l.flatMap meC)).and ((bigA (y.l.map meA)).and (fdsA x.v x.l))) (fun y : TpL (Me × MeM) => (y.q ≤ s.size ∧ (∀ r, y.σ = some r → r = (dl s).drop y.q)) ∧ y.l.length + y.n ≤ 255 ∧ (∀ p ∈ y.l, MeFit p) ∧ Wa (some ((dl s).drop 4)) (pCl true false) y.σ (pThen (pFrom (pMe true false) (y.l.map (·.1)) y.n) _)) (fun y : TpL (Me × MeM) => y.n) (⟨n2, σ9, q9, nilS, []⟩) (⟨⟨hq9, hr9⟩, by simp only [List.length_nil]; omega, (fun t h => by cases h), hG⟩) ?_)
    intro y hI
    obtain ⟨⟨hyq, hyr⟩, hln2, hok2, hG2⟩ := hI
    refine Zf (WC_join (Y := Bool) (fun y' : Bool => [(0, .string s), (2, .pointer (some ⟨b0, 0, none⟩)), (4, .pointer (some ⟨b1, 0, none⟩)), (5, .pointer (some ⟨b2, 0, none⟩)), (6, .pointer (some ⟨b3, 0, none⟩)), (9, .int .i64 (y.n : Nat)), (71, .bool y')]) (fun y' : Bool => [(b3, clH nm sp x.v y.v), (b2, tpC s y.q y.σ.isNone), (b1, zeroC), (b0, zeroC)]) (fun y' : Bool => (ownA 134 10 y.v y.l.length (y.l.flatMap meC)).and ((bigA (y.l.map meA)).and (fdsA x.v x.l))) (fun y' : Bool => (y' = true → 0 < y.n ∧ y.σ.isNone = false) ∧ (y' = false → y.n = 0 ∨ y.σ = none)) ?_ ?_)
    ·skip
     refine Zb (Za rfl (Zd rfl) (Za rfl (Ex_gtr rfl rfl) (Za rfl (Zd rfl) (Yr rfl rfl rfl ?_ ?_))))
     ·intro h3
      try (first | replace h3 := dTr h3 | replace h3 := Zk h3)
      refine Zo rfl rfl rfl (Zd rfl) (Zo rfl rfl rfl (Ys rfl) (Zo rfl rfl rfl (Zh (ff rfl) rfl) (Zo rfl rfl rfl (Zj (t1 rfl) rfl (Zl 1 rfl rfl)) (Zo rfl rfl rfl (Ex_not rfl) (Za rfl (Zt rfl rfl) ?_)))))
      refine Ze (WQ_meet _ 0 rfl rfl ⟨rfl, rfl, rfl, rfl, rfl, rfl, rfl, trivial⟩ ?_)
      first | exact loop_yes (by assumption) | exact loop_no (by assumption)
     ·intro h3
      try (first | replace h3 := dFa h3 | replace h3 := Zi h3)
      refine Zp rfl rfl rfl (Zp rfl rfl rfl (Zp rfl rfl rfl (Zp rfl rfl rfl (Zp rfl rfl rfl (Za rfl (Zz rfl rfl) ?_)))))
      refine Ze (WQ_meet _ 0 rfl rfl ⟨rfl, rfl, rfl, rfl, rfl, rfl, rfl, trivial⟩ ?_)
      first | exact loop_yes (by assumption) | exact loop_no (by assumption)
    intro y' hJ
    refine Yi rfl ?_ ?_
    ·intro c3
     try (first | replace c3 := dTr c3 | replace c3 := Zk c3)
     have h0n := (hJ.1 c3).1
     obtain ⟨m, hm⟩ : ∃ m, y.n = m + 1 := ⟨y.n - 1, by omega⟩
     rw [hm] at hG2
     refine Zw (Zc (Zf (Zs (Zf (Zb ?_)))))
     refine Za rfl (Zd rfl) (WL_callR fn91 rfl rfl 1 rfl hu none_in (tpMethod_any w _ s hs y.σ y.q hyq hyr) (fun h => h.elim) ?_)
     rintro v cs' R' ⟨me, σ8, q8, ⟨⟨kp, kc, kh, kf, kcs, kfs⟩, rfl, hR2, hfit⟩, hq8, rfl, hr8, hst⟩
     refine Xm hR2.left (Xz (p := (∃ p l c, kp = .slice p l c) ∧ (∃ p l c, kc = .slice p l c) ∧ (∃ p l c, kh = .slice p l c) ∧ (∃ p l c, kf = .slice p l c)) (fun w hs => ⟨Xl hs.res.1.1, Xl hs.res.1.2.1.1.1, Xl hs.res.1.2.1.2.1.1, Xl hs.res.1.2.1.2.1.2.1.1⟩) ?_)
     rintro ⟨⟨z1, z2, z3, hz1⟩, ⟨z4, z5, z6, hz2⟩, ⟨z7, z8, z9, hz3⟩, ⟨za, zb, zc, hz4⟩⟩
     subst hz1; subst hz2; subst hz3; subst hz4
     refine Xm (list_push _ _ _ _) (Xg rfl (tz rfl) ?_)
     intro b4 hb4
     refine Yd (tn rfl) rfl rfl 0 rfl rfl rfl rfl (Ze (Zc (Zb (Za rfl (Zh (ff rfl) rfl) (Za rfl (Zj (t1 rfl) rfl (Zl 1 rfl rfl)) ?_)))))
     refine Za rfl (Yb (tn rfl) rfl 0 rfl rfl) (WL_bs rfl (ts rfl) (tz rfl) rfl rfl rfl rfl rfl ?_)
     intro b5 hb5
     refine WL_app rfl (ta rfl) rfl rfl (Yj 0 rfl) rfl rfl ?_ ?_ ?_
     ·unfold maxLen; omega
     ·omega
     intro v2
     refine Za rfl (Zh (ff rfl) rfl) (Xz (p := ∃ p l c, v2 = .slice p l c) (fun w hs => Xl hs.res.1) ?_)
     rintro ⟨p3, l3, c3', hv1⟩; subst hv1
     refine Xd (t1 rfl) rfl rfl 2 rfl rfl rfl rfl (Ze (Zx (Zc (Zb (Za rfl (Zd rfl) ?_)))))
     (first | (refine Za rfl (Ex_subB rfl rfl ?_) ?_; omega) | refine Za rfl (Ex_sub rfl rfl) ?_)
     refine Za rfl (Zg rfl) (Ze (WQ_same (s := 9) (v' := .int .i64 (m : Nat)) rfl (congrArg (Value.int .i64) (by omega)) ?_))
     refine Yn (⟨m, σ8, q8, .slice p3 l3 c3', y.l ++ [(me, ⟨.slice z1 z2 z3, .slice z4 z5 z6, .slice z7 z8 z9, .slice za zb zc, kcs, kfs⟩)]⟩) ?_ (⟨⟨hq8, hr8⟩, by rw [List.length_append]; simp only [List.length_singleton]; omega, ok_snoc hok2 hfit, by rw [List.map_append]; exact goes_more hG2 hst⟩) 2 rfl (by show (ownA 134 10 _ _ _).and _ = _; rw [List.length_append, List.flatMap_append, List.map_append]; rfl) ⟨rfl, rfl, rfl, rfl, rfl, rfl, trivial⟩
     show m < y.n; omega
    ·intro c3
     try (first | replace c3 := dFa c3 | replace c3 := Zi c3)
     refine Yx (Yw (Yo (Yv (Zc (Zf ?_)))))
     refine Zf ?_
     have hE := dec_end hcl (goes_end hG2 (hJ.2 c3)).done
     have hfit : ClFit ⟨nm, sp, x.l, y.l.map (·.1)⟩ ⟨x.v, y.v, y.l⟩ := ⟨rfl, ⟨Zr hnm, Zr hsp⟩, ⟨by show x.l.length ≤ 1048576; omega, hok⟩, ⟨by show y.l.length ≤ 1048576; omega, hok2⟩⟩
     have hC : ∀ w', (clA ⟨nm, sp, x.l, y.l.map (·.1)⟩ ⟨x.v, y.v, y.l⟩).A w' → E.Pure Tryz.prog 54 #[.agg (clH nm sp x.v y.v).toArray] w' (.bool (isClassB ⟨nm, sp, x.l, y.l.map (·.1)⟩)) := fun w' h => isClass_any _ _ _ w' (clA_at h hfit)
     refine WC_imp (R' := clA ⟨nm, sp, x.l, y.l.map (·.1)⟩ ⟨x.v, y.v, y.l⟩) (cl_turn _ _ _) ?_
     refine WC_know (p := x.v.oneCell' = true ∧ y.v.oneCell' = true) (fun w hs => ⟨own_one hs.res.1, own_one hs.res.2.1.1⟩) ?_
     rintro ⟨hox, hoy⟩
     refine Zb (Za rfl (Zd rfl) (Za rfl (Ys rfl) (Za rfl (Zh (ff rfl) rfl) (Za rfl (Zj (t1 rfl) rfl (Zl 1 rfl rfl)) (Za rfl (Zd rfl) ?_)))))
     refine Yr rfl rfl rfl ?_ ?_
     ·intro h4
      try (first | replace h4 := dTr h4 | replace h4 := Zk h4)
      refine Zp rfl rfl rfl (Zp rfl rfl rfl (Zp rfl rfl rfl (Zp rfl rfl rfl (Zp rfl rfl rfl (Zp rfl rfl rfl ?_)))))
      refine Zp rfl rfl rfl (Za rfl (Zt rfl rfl) (Ze (Zc (Xq rfl ?_))))
      have hno : okOnly (decL true false (dl s)) = none := by first | (rw [hE, isNone_none (σ := y.σ) (by assumption)]; rfl) | exact dec_more hE hyr (by assumption) (by assumption) hyq
      refine Zf (Zb (Za rfl (Yb (tn rfl) rfl 2 rfl rfl) (Yd (tn rfl) rfl rfl 3 rfl rfl rfl rfl (Za rfl (Zg rfl) (Ze ?_)))))
      refine Zc (Zv (Zq (Fn_end (Res_2 rfl (Xo (tn rfl) rfl (Yj 3 rfl) rfl) (RV_tmp rfl)) ?_)))
      first | exact .inr ⟨hno, rfl⟩ | exact .inl ⟨⟨nm, sp, x.l, y.l.map (·.1)⟩, ⟨x.v, y.v, y.l⟩, hyes2, rfl, .refl _, hfit⟩
     ·intro h4
      try (first | replace h4 := dFa h4 | replace h4 := Zi h4)
      refine Zo rfl rfl rfl (Zd rfl) (Zo rfl rfl rfl (Ys rfl) (Zo rfl rfl rfl (Zh (ff rfl) rfl) (Zo rfl rfl rfl (Zj (t1 rfl) rfl (Zl 1 rfl rfl)) (Zo rfl rfl rfl (Zd rfl) (Zo rfl rfl rfl (Ex_lenS (tstr rfl) rfl) ?_)))))
      refine Zo rfl rfl rfl (Ex_neq rfl rfl) (Za rfl (Zz rfl rfl) (Ze (Zc (Yi rfl ?_ ?_))))
      ·intro c4
       try (first | replace c4 := dTr c4 | replace c4 := Zk c4)
       have hno : okOnly (decL true false (dl s)) = none := by first | (rw [hE, isNone_none (σ := y.σ) (by assumption)]; rfl) | exact dec_more hE hyr (by assumption) (by assumption) hyq
       refine Zf (Zb (Za rfl (Yb (tn rfl) rfl 2 rfl rfl) (Yd (tn rfl) rfl rfl 3 rfl rfl rfl rfl (Za rfl (Zg rfl) (Ze ?_)))))
       refine Zc (Zv (Zq (Fn_end (Res_2 rfl (Xo (tn rfl) rfl (Yj 3 rfl) rfl) (RV_tmp rfl)) ?_)))
       first | exact .inr ⟨hno, rfl⟩ | exact .inl ⟨⟨nm, sp, x.l, y.l.map (·.1)⟩, ⟨x.v, y.v, y.l⟩, hyes2, rfl, .refl _, hfit⟩
      ·intro c4
       try (first | replace c4 := dFa c4 | replace c4 := Zi c4)
       have hyes : decL true false (dl s) = some ⟨nm, sp, x.l, y.l.map (·.1)⟩ := dec_all hE hyr (by assumption) (by assumption)
       refine Zw (Zc (Zf (Zb (Za rfl (Yb (tn rfl) rfl 0 rfl rfl) (Xi fn54 rfl rfl (fun w' hs => hC w' hs.res) ?_)))))
       refine Za rfl (Zg rfl) (Ze (Zc (Zf (Zf (Zb ?_)))))
       refine Za rfl (Zd rfl) (Za rfl (Ex_not rfl) (Ze (Zc (Yi rfl ?_ ?_))))
       ·intro c5
        try (first | replace c5 := dTr c5 | replace c5 := Zk c5)
        have hno : okOnly (decL true false (dl s)) = none := by rw [hyes]; simp only [okOnly]; rw [if_neg (by simpa using c5)]
        refine Zf (Zb (Za rfl (Yb (tn rfl) rfl 2 rfl rfl) (Yd (tn rfl) rfl rfl 3 rfl rfl rfl rfl (Za rfl (Zg rfl) (Ze ?_)))))
        refine Zc (Zv (Zq (Fn_end (Res_2 rfl (Xo (tn rfl) rfl (Yj 3 rfl) rfl) (RV_tmp rfl)) ?_)))
        first | exact .inr ⟨hno, rfl⟩ | exact .inl ⟨⟨nm, sp, x.l, y.l.map (·.1)⟩, ⟨x.v, y.v, y.l⟩, hyes2, rfl, .refl _, hfit⟩
       ·intro c5
        try (first | replace c5 := dFa c5 | replace c5 := Zi c5)
        have hyes2 : okOnly (decL true false (dl s)) = some ⟨nm, sp, x.l, y.l.map (·.1)⟩ := by rw [hyes]; simp only [okOnly]; rw [if_pos (by simpa using c5)]
        refine Zw (Zc (Zf (Zb (Za rfl (Yb (tn rfl) rfl 0 rfl rfl) (Yd (tn rfl) rfl rfl 3 rfl rfl (clH_one _ _ hox hoy) rfl ?_)))))
        refine Za rfl (Zg rfl) (Ze (Zc (Zv (Fn_end (Res_2 rfl (Xo (tn rfl) rfl (Yj 3 rfl) rfl) (RV_tmp rfl)) ?_))))
        first | exact .inr ⟨hno, rfl⟩ | exact .inl ⟨⟨nm, sp, x.l, y.l.map (·.1)⟩, ⟨x.v, y.v, y.l⟩, hyes2, rfl, .refl _, hfit⟩
end Go.Proofs.YtpofmnfkdkmieaaGreat
namespace Go.Proofs.YtpofmnfkdkmieaaGreat
open Go Go.RowKit At E
section
variable {n : Nat} {E : Env} {w0 : World} {F : List Nat} {H : Hp} {R : Asr}
theorem Ex_isNil {x : Operand} (hx : ev E x = some .nilIface) : Ex Tryz.prog n E w0 F H R (.binOp .eql 20 x (.const .nilIface) 20) (.bool true) := ⟨fun w _ a ha _ _ _ _ _ => by
 simp only [execOp]; rw [ha.eval hx, show a.eval (.const Value.nilIface) = .nilIface from rfl, eqGuard_nil_constR]; kernel_rfl⟩
theorem Ex_isErr {x : Operand} (hx : ev E x = some errI) : Ex Tryz.prog n E w0 F H R (.binOp .eql 20 x (.const .nilIface) 20) (.bool false) := ⟨fun w _ a ha _ _ _ _ _ => by
 simp only [execOp]; rw [ha.eval hx, show a.eval (.const Value.nilIface) = .nilIface from rfl]; kernel_rfl⟩
theorem Ex_noWrong {x : Operand} (hx : ev E x = some errI) : Ex Tryz.prog n E w0 F H R (.typeAssert x 20 143 true) (.tuple #[.agg #[.int .i64 0, .int .i64 0], .bool false]) := ⟨fun w _ a ha _ _ _ _ _ => by
 simp only [execOp]; rw [ha.eval hx]; kernel_rfl⟩
end
theorem toldNil_any (w : World) : Pure Tryz.prog 59 #[.nilIface] w (.tuple #[.agg #[.int .i64 0, .int .i64 0], .int .i64 0]) := by
 refine opens (args := [.nilIface]) Tryz.func59 rfl Tryz.ntmps59 ?_
 refine Zf (Zb (Xg rfl (tz rfl) ?_))
 intro b0 hb0
 refine Za rfl (Zg rfl) (Ze (Zc (Zf (Zf (Zb ?_)))))
 refine Za rfl (Zd rfl) (Ze (Zc (Zs (Zf (Zb ?_)))))
 refine Za rfl (Ex_isNil rfl) (Ze (Zc (Yi rfl ?_ ?_)))
 ·intro c1
  try (first | replace c1 := dTr c1 | replace c1 := Zk c1)
  refine Zf (Zb (Za rfl (Zg rfl) (Ze (Zc (Zf ?_)))))
  refine Zb (Za rfl (Xs (tb rfl) rfl rfl) (Yd (tn rfl) rfl rfl 0 rfl rfl rfl rfl (Za rfl (Zg rfl) (Ze (Zc ?_)))))
  refine Zv (Zq (Zq (P_endR (Res_2 rfl (Xo (tn rfl) rfl (Yj 0 rfl) rfl) (RV_tmp rfl)) ?_)))
  rfl
 ·intro c1
  try (first | replace c1 := dFa c1 | replace c1 := Zi c1)
  cases c1
theorem toldErr_any (w : World) : Pure Tryz.prog 59 #[errI] w (.tuple #[.agg #[.int .i64 0, .int .i64 0], .int .i64 1]) := by
 refine opens (args := [errI]) Tryz.func59 rfl Tryz.ntmps59 ?_
 refine Zf (Zb (Xg rfl (tz rfl) ?_))
 intro b0 hb0
 refine Za rfl (Zg rfl) (Ze (Zc (Zf (Zf (Zb ?_)))))
 refine Za rfl (Zd rfl) (Ze (Zc (Zs (Zf (Zb ?_)))))
 refine Za rfl (Ex_isErr rfl) (Ze (Zc (Yi rfl ?_ ?_)))
 ·intro c1
  try (first | replace c1 := dTr c1 | replace c1 := Zk c1)
  cases c1
 ·intro c1
  try (first | replace c1 := dFa c1 | replace c1 := Zi c1)
  refine Zf (Zb (Za rfl (Ex_noWrong rfl) (Za rfl (Ex_ext rfl rfl) (Za rfl (Ex_ext rfl rfl) (Ze ?_)))))
  refine Zc (Yi rfl ?_ ?_)
  ·intro c2
   try (first | replace c2 := dTr c2 | replace c2 := Zk c2)
   cases c2
  ·intro c2
   try (first | replace c2 := dFa c2 | replace c2 := Zi c2)
   refine Zw (Zx (Zc (Zf (Zb (Za rfl (Xs (tb rfl) rfl rfl) ?_)))))
   refine Yd (tn rfl) rfl rfl 0 rfl rfl rfl rfl (Za rfl (Zg rfl) (Ze (Zc (Zv (P_endR (Res_2 rfl (Xo (tn rfl) rfl (Yj 0 rfl) rfl) (RV_tmp rfl)) ?_)))))
   rfl
theorem encode1_any (c : Cl) (fv mv : Value) (b : Nat) (u w : World) (hc0 : ClAt u c fv mv) (hu : Below u.heap.size u w) (hb : ∀ j v, (clV c fv mv)[j]? = some v → w.cell? ⟨b, j, none⟩ = some v) (hlt : b < w.heap.size) :
  PureQ Tryz.prog 70 #[.pointer (some ⟨b, 0, none⟩)] w (if isClassB c = true then some (.string (bytesS c)) else none) := by
 refine opens (args := [.pointer (some ⟨b, 0, none⟩)]) Tryz.func70 rfl Tryz.ntmps70 ?_
 refine Zf (Zb (Za rfl (Zg rfl) (Ze (Zc (Zf ?_)))))
 refine Zb ?_
 refine Za rfl (Ym (tn rfl) rfl (Yt (o := 0) (vs := clV c fv mv) (fun j v hj => by rw [Nat.zero_add]; exact hb j v hj) hlt) rfl) ?_
 refine WL_callQ fn71 rfl rfl (fun w' hs => write_any c fv mv w' (hc0.mono (below_then hu (lowOf hs)))) (fun hn => Ye (PQ_dies hn)) ?_
 intro v hv
 refine Za rfl (Zg rfl) (Ze (Zc (Zv ?_)))
 refine PQ_end1 rfl rfl hv
def encO (c : Cl) : Option Value := if isClassB c = true then some (.string (bytesS c)) else none
theorem own_cells {w0 w : World} {F : List Nat} {H : Hp} {R : Asr} (hs : Sat w0 F H R w) {i b : Nat} {cs : List Value} (hp : H[i]? = some (b, cs)) : (∀ j v, cs[j]? = some v → w.cell? ⟨b, j, none⟩ = some v) ∧ b < w.heap.size :=
 ⟨fun j v hj => by rw [hs.mine (List.mem_of_getElem? hp)]; exact hj, hs.lt (List.mem_of_getElem? hp)⟩
theorem encCaught_any (c : Cl) (fv mv : Value) (b : Nat) (u w : World) (hc0 : ClAt u c fv mv) (hu : Below u.heap.size u w) (hb : (∀ j v, (clV c fv mv)[j]? = some v → w.cell? ⟨b, j, none⟩ = some v) ∧ b < w.heap.size) :
  FnP Tryz.prog 69 #[.func (.func 70) #[] #[.pointer (some ⟨b, 0, none⟩)]] w (caughtOk (.string ⟨#[]⟩) (fun v R' => encO c = some v ∧ R' = Asr.none) (encO c = none)) False :=
 caughtString_any 70 _ w _ _ fn70 fun w2 hb2 => FnP.of_Q (encode1_any c fv mv b u w2 hc0 (below_then hu hb2) (fun j v hj => by rw [hb2.cell (p := ⟨b, j, none⟩) hb.2]; exact hb.1 j v hj) (Nat.lt_of_lt_of_le hb.2 hb2.size))
theorem encO_some {c : Cl} {v : Value} (h : encO c = some v) : isClassB c = true ∧ v = .string (bytesS c) := by
 unfold encO at h
 split at h
 ·cases h; exact ⟨by assumption, rfl⟩
 ·cases h
theorem encO_none {c : Cl} (h : encO c = none) : isClassB c = false := by
 unfold encO at h
 split at h
 ·cases h
 ·simpa using (by assumption : ¬ isClassB c = true)
theorem told_any (y : Value) (k : Int) (w : World) (hy : (y = .nilIface ∧ k = 0) ∨ (y = errI ∧ k = 1)) : Pure Tryz.prog 59 #[y] w (.tuple #[.agg #[.int .i64 0, .int .i64 0], .int .i64 k]) := by
 rcases hy with ⟨rfl, rfl⟩ | ⟨rfl, rfl⟩
 ·exact toldNil_any w
 ·exact toldErr_any w
theorem enc_know {c : Cl} {v : Value} {R' : Asr} (h : caughtOk (.string ⟨#[]⟩) (fun v R' => encO c = some v ∧ R' = Asr.none) (encO c = none) v R') :
  ∃ (x : ByteArray) (y : Value) (k : Int), v = .tuple #[.string x, y] ∧ x = (if isClassB c then bytesS c else ⟨#[]⟩) ∧ k = (if isClassB c then 0 else 1) ∧ ((y = .nilIface ∧ k = 0) ∨ (y = errI ∧ k = 1)) := by
 rcases h with ⟨x, ⟨hx, -⟩, rfl⟩ | ⟨hx, -, rfl⟩
 ·obtain ⟨h1, rfl⟩ := encO_some hx
  exact ⟨_, _, 0, rfl, by rw [h1]; rfl, by rw [h1]; rfl, .inl ⟨rfl, rfl⟩⟩
 ·have h1 := encO_none hx
  exact ⟨_, _, 1, rfl, by rw [h1]; rfl, by rw [h1]; rfl, .inr ⟨rfl, rfl⟩⟩
theorem encode_any (c : Cl) (fv mv : Value) (w : World) (hc0 : ClAt w c fv mv) :
  Pure Tryz.prog 26 #[.agg (clV c fv mv).toArray] w (.tuple #[.string (if isClassB c then bytesS c else ⟨#[]⟩), .int .i64 (if isClassB c then 0 else 1)]) := by
 obtain ⟨p1, e1, rfl, -, -⟩ := hc0.fs.is
 obtain ⟨p2, e2, rfl, -, -⟩ := hc0.ms.is
 refine opens (args := [.agg (clV c (.slice p1 c.fields.length e1) (.slice p2 c.methods.length e2)).toArray]) Tryz.func26 rfl Tryz.ntmps26 ?_
 refine Zf (Zb (WL_box rfl rfl ?_))
 intro b0 hb0
 refine Za rfl (Zg rfl) (Za rfl (Zg rfl) (Ze (Zc (Zf (Zb ?_)))))
 refine Za rfl (Ex_cap rfl) (WL_callF fn69 rfl rfl (fun w' hs => encCaught_any c _ _ b0 w w' hc0 (lowOf hs) (own_cells hs (i := 0) rfl)) (fun h => h.elim) ?_)
 intro v R' hv
 refine Xz (p := ∃ (x : ByteArray) (y : Value) (k : Int), v = .tuple #[.string x, y] ∧ x = (if isClassB c then bytesS c else ⟨#[]⟩) ∧ k = (if isClassB c then 0 else 1) ∧ ((y = .nilIface ∧ k = 0) ∨ (y = errI ∧ k = 1))) (fun _ _ => enc_know hv) ?_
 rintro ⟨x, y, k, rfl, hx, hk, hy⟩
 refine Za rfl (Zd rfl) (Za rfl (Ex_ext rfl rfl) (Za rfl (Ex_ext rfl rfl) (Za rfl (Zg rfl) (Za rfl (Zg rfl) (Ze ?_)))))
 refine Zc (Zf (Zb (Za rfl (Zd rfl) (Xi fn59 rfl rfl (fun w' _ => told_any y k w' hy) ?_))))
 refine Za rfl (Zd rfl) (Za rfl (Ex_ext rfl rfl) (Za rfl (Ex_ext rfl rfl) (Xg rfl (tz rfl) ?_)))
 intro b1 hb1
 refine Yd (tn rfl) rfl rfl 0 rfl rfl rfl rfl (Za rfl (Zg rfl) (Ze (Zc (Zf (Zb ?_)))))
 refine Za rfl (Zd rfl) (Za rfl (Zd rfl) (Za rfl (Zg rfl) (Za rfl (Zg rfl) (Ze (Zc ?_)))))
 refine Zv (P_end2 rfl rfl rfl ?_)
 rw [hx, hk]; rfl
end Go.Proofs.YtpofmnfkdkmieaaGreat
