/- What is proved here: the document's own reading off a tape: numbers, names, flags, types, lists of types. the document's own reading off a tape: types, lists of types, instructions. -/
import Derived.Test.YtpofmnfkdkmieaaGreatQ13
import Derived.Test.YtpofmnfkdkmieaaGreatQ14
import Derived.Test.YtpofmnfkdkmieaaGreatQ04
import Derived.Test.YtpofmnfkdkmieaaGreatQ08
set_option linter.unusedVariables false
set_option linter.unusedSimpArgs false
namespace Go.Proofs.YtpofmnfkdkmieaaGreat
open Go.RowKit At E
def tpC (s : ByteArray) (q : Nat) (bad : Bool) : List Value := [.string s, .int .i64 (q : Nat), .bool bad]
/-- What is asked of a call that reads by p. -/
def TpOk {α : Type} (s : ByteArray) (σ : Option (List UInt8)) (p : Ps α) (rep : α → Value → Asr → Prop) : Value → List Value → Asr → Prop := fun v cs' R' =>
 ∃ x σ' q, rep x v R' ∧ q ≤ s.size ∧ cs' = tpC s q σ'.isNone ∧ (∀ r, σ' = some r → r = (dl s).drop q) ∧ TpStep p σ x σ'
def TpP {α : Type} (f : FuncId) (args : Array Value) (u : World) (b : Nat) (s : ByteArray) (p : Ps α) (rep : α → Value → Asr → Prop) : Prop :=
 ∀ (σ : Option (List UInt8)) (q : Nat), q ≤ s.size → (∀ r, σ = some r → r = (dl s).drop q) → RcP Tryz.prog f args u b (tpC s q σ.isNone) (TpOk s σ p rep) False
theorem RcP.of_eq {P : Program} {f : FuncId} {args : Array Value} {u : World} {b : Nat} {cs cs' : List Value} {ok : Value → List Value → Asr → Prop} {may : Prop} (h : RcP P f args u b cs ok may) (e : cs = cs') : RcP P f args u b cs' ok may := e ▸ h
/-- A piece of a text. -/
def seg (s : ByteArray) (a n : Nat) : List UInt8 := ((dl s).drop a).take n
theorem seg_succ {s : ByteArray} {a n : Nat} (h : a < s.size) : seg s a (n + 1) = s[a] :: seg s (a + 1) n := by
 unfold seg
 have : a < (dl s).length := by rw [dl_length]; exact h
 rw [List.drop_eq_getElem_cons this, List.take_succ_cons]
 congr 1
theorem seg_text {s : ByteArray} {a n : Nat} : s.extract a (a + n) = ⟨(seg s a n).toArray⟩ := by
 apply ByteArray.ext
 rw [ByteArray.data_extract]
 unfold seg dl
 apply Array.ext'
 simp [Array.toList_extract, List.extract_eq_take_drop]
def repN (k : Nat) : Nat → Value → Asr → Prop := fun n v R' => v = .int .i64 (toI n) ∧ n < 256 ^ k ∧ R' = Asr.none
theorem u64_step (a c : Nat) (h : 256 * a + c < 18446744073709551616) : IntKind.u64.wrap (IntKind.u64.wrap (256 * (a : Int)) + IntKind.u64.wrap (c : Int)) = ((256 * a + c : Nat) : Int) := by
 rw [IntKind.wrap_u64, IntKind.wrap_u64, IntKind.wrap_u64]; omega
theorem leN_seg_lt (s : ByteArray) (a n k : Nat) (h : n ≤ k) : leN (seg s a n) < 256 ^ k :=
 Nat.lt_of_lt_of_le (leN_lt _) (Nat.pow_le_pow_right (by omega) (by unfold seg; rw [List.length_take]; omega))
theorem tpLow_bad (u : World) (b : Nat) (s : ByteArray) (q k : Nat) (hs : s.size ≤ 4000000) (hq : q ≤ s.size) (hk : k ≤ 8) : RcP Tryz.prog 88 #[.pointer (some ⟨b, 0, none⟩), .int .i64 (k : Nat)] u b (tpC s q true) (TpOk s none (pNum k) (repN k)) False := by
 intro w h0
 refine opensF (h0.sat) (args := [.pointer (some ⟨b, 0, none⟩), .int .i64 (k : Nat)]) Tryz.func88 rfl Tryz.ntmps88 ?_
 refine Zf (Zb (Za rfl (Zg rfl) (Ze (Zc (Zf ?_)))))
 refine Zf (WC_draw mixed (by kernel_rfl) ?_)
 refine Zm rfl (Zd rfl) (Zm rfl (Ys rfl) (Zm rfl (Zh (ff rfl) rfl) (Zm rfl (Zj (t1 rfl) rfl (Zl 0 rfl rfl)) (Zm rfl (Zd rfl) (WO_part rfl rfl ?_ ?_)))))
 ·intro h1
  try (first | replace h1 := dTr h1 | replace h1 := Zk h1)
  refine Xn rfl rfl rfl (Xn rfl rfl rfl (Xn rfl rfl rfl (Xn rfl rfl rfl (Xn rfl rfl rfl (Xn rfl rfl rfl ?_)))))
  refine Xn rfl rfl rfl (Xn rfl rfl rfl (Xn rfl rfl rfl (Xn rfl rfl rfl (Xn rfl rfl rfl (Xn rfl rfl rfl ?_)))))
  refine Zm rfl (Zt rfl rfl) (WO_nil (Zc (Xq rfl (Zf (Zb ?_)))))
  refine Za rfl (Zd rfl) (Za rfl (Ys rfl) (Za rfl (Zh (ff rfl) rfl) (Xd (t1 rfl) rfl rfl 0 rfl rfl rfl rfl (Ze (Zc ?_)))))
  refine Zf (Zb (Za rfl (Zg rfl) (Ze (Zc (Zv ?_)))))
  refine Zq (Rc_end1 rfl rfl 0 rfl ?_)
  exact ⟨0, none, q, ⟨rfl, Nat.pow_pos (by omega), rfl⟩, hq, rfl, (fun r h => by cases h), rfl⟩
 ·intro h1
  try (first | replace h1 := dFa h1 | replace h1 := Zi h1)
  cases h1
theorem tpLow_good (u : World) (b : Nat) (s : ByteArray) (q k : Nat) (hs : s.size ≤ 4000000) (hq : q ≤ s.size) (hk : k ≤ 8) : RcP Tryz.prog 88 #[.pointer (some ⟨b, 0, none⟩), .int .i64 (k : Nat)] u b (tpC s q false) (TpOk s (some ((dl s).drop q)) (pNum k) (repN k)) False := by
 intro w h0
 have hl : ((dl s).drop q).length = s.size - q := by rw [List.length_drop, dl_length]
 have h64 : (256 : Nat) ^ 8 = 18446744073709551616 := by decide
 refine opensF (h0.sat) (args := [.pointer (some ⟨b, 0, none⟩), .int .i64 (k : Nat)]) Tryz.func88 rfl Tryz.ntmps88 ?_
 refine Zf (Zb (Za rfl (Zg rfl) (Ze (Zc (Zf ?_)))))
 refine Zf (WC_draw mixed (by kernel_rfl) ?_)
 refine Zm rfl (Zd rfl) (Zm rfl (Ys rfl) (Zm rfl (Zh (ff rfl) rfl) (Zm rfl (Zj (t1 rfl) rfl (Zl 0 rfl rfl)) (Zm rfl (Zd rfl) (WO_part rfl rfl ?_ ?_)))))
 ·intro h1
  try (first | replace h1 := dTr h1 | replace h1 := Zk h1)
  cases h1
 ·intro h1
  try (first | replace h1 := dFa h1 | replace h1 := Zi h1)
  refine Yf rfl rfl rfl (Zd rfl) (Yf rfl rfl rfl (Ys rfl) (Yf rfl rfl rfl (Zh (ff rfl) rfl) (Yf rfl rfl rfl (Zj (t1 rfl) rfl (Zl 0 rfl rfl)) (Yf rfl rfl rfl (Zd rfl) ?_))))
  (first | (refine Yf rfl rfl rfl (Xa rfl rfl ?_) ?_; omega) | (refine Yf rfl rfl rfl (Yp rfl rfl ?_) ?_; omega) | refine Yf rfl rfl rfl (Yz rfl rfl) ?_)
  refine Yf rfl rfl rfl (Zd rfl) (Yf rfl rfl rfl (Ys rfl) (Yf rfl rfl rfl (Zh (ff rfl) rfl) (Yf rfl rfl rfl (Zj (t1 rfl) rfl (Zl 0 rfl rfl)) (Yf rfl rfl rfl (Ex_lenS (tstr rfl) rfl) (Yf rfl rfl rfl (Ex_gtr rfl rfl) ?_)))))
  refine Zm rfl (Zz rfl rfl) (WO_nil (Zc (Yi rfl ?_ ?_)))
  ·intro c1
   try (first | replace c1 := dTr c1 | replace c1 := Zk c1)
   refine Zf (Zb (Za rfl (Zd rfl) (Za rfl (Ys rfl) (Za rfl (Zh (ff rfl) rfl) (Xd (t1 rfl) rfl rfl 0 rfl rfl rfl rfl ?_)))))
   refine Ze (Zc (Zf (Zb (Za rfl (Zg rfl) (Ze ?_)))))
   refine Zc (Zv (Zq (Rc_end1 rfl rfl 0 rfl ?_)))
   exact ⟨0, none, q, ⟨rfl, Nat.pow_pos (by omega), rfl⟩, hq, rfl, (fun r h => by cases h), by show pNum k _ = none; exact pNum_no (by omega)⟩
  ·intro c1
   try (first | replace c1 := dFa c1 | replace c1 := Zi c1)
   refine Zw (Zc (Zf (Zb (Za rfl (Zg rfl) (Ze ?_)))))
   refine Zc (Zf (Zf (Zb (Za rfl (Zd rfl) ?_))))
   (first | (refine Za rfl (Ex_subB rfl rfl ?_) ?_; omega) | refine Za rfl (Ex_sub rfl rfl) ?_)
   refine Za rfl (Zg rfl) (Ze (Zc (Zs ?_)))
   have hqk : q + k ≤ s.size := by omega
   refine WC_same (s := 5) (v' := .int .u64 ((leN (seg s (q + k) (k - k)) : Nat) : Int)) rfl (by rw [Nat.sub_self]; rfl) ?_
   refine Xh (E' := (fun m : Nat => [(0, .pointer (some ⟨b, 0, none⟩)), (1, .int .i64 (k : Nat)), (5, .int .u64 ((leN (seg s (q + m) (k - m)) : Nat) : Int)), (6, .int .i64 ((m : Int) - 1))]) (k)) ⟨rfl, rfl, rfl, rfl, trivial⟩ (Yy (X := Nat) (fun m : Nat => [(0, .pointer (some ⟨b, 0, none⟩)), (1, .int .i64 (k : Nat)), (5, .int .u64 ((leN (seg s (q + m) (k - m)) : Nat) : Int)), (6, .int .i64 ((m : Int) - 1))]) _ _ (fun m : Nat => [(b, tpC s q false)]) (fun m : Nat => Asr.none) (fun m : Nat => m ≤ k) (fun m : Nat => m) (k) (Nat.le_refl _) ?_)
   intro m hI
   refine Zf (Zf (Zb (Za rfl (Zd rfl) (Za rfl (Ex_geq rfl rfl) (Ze ?_)))))
   refine Zc (Yi rfl ?_ ?_)
   ·intro c2
    try (first | replace c2 := dTr c2 | replace c2 := Zk c2)
    have hm : 1 ≤ m := by omega
    have hqm : q + (m - 1) < s.size := by omega
    refine Zw (Zc (Zf (Zs (WC_draw mixed (by kernel_rfl) ?_))))
    refine Zm rfl (Zd rfl) (Zm rfl (Ex_mul rfl rfl) (Zm rfl (Zd rfl) (Zm rfl (Ys rfl) (Zm rfl (Zh (ff rfl) rfl) (Zm rfl (Zj (t1 rfl) rfl (Zl 0 rfl rfl)) ?_)))))
    refine Zm rfl (Zd rfl) (Zm rfl (Ys rfl) (Zm rfl (Zh (ff rfl) rfl) (Zm rfl (Zj (t1 rfl) rfl (Zl 0 rfl rfl)) (Zm rfl (Zd rfl) ?_))))
    (first | (refine Zm rfl (Xa rfl rfl ?_) ?_; omega) | (refine Zm rfl (Yp rfl rfl ?_) ?_; omega) | refine Zm rfl (Yz rfl rfl) ?_)
    refine WO_same (s := 45) (v' := .int .i64 ((q + (m - 1) : Nat) : Int)) rfl (congrArg (Value.int .i64) (by omega)) ?_
    refine Zm rfl (Ex_indexS (tstr rfl) rfl rfl ?_) ?_
    ·exact hqm
    refine Zm rfl (Ex_conv (tint rfl) (tint rfl) rfl) (Zm rfl (Yz rfl rfl) (Zm rfl (Zg rfl) (WO_nil (Zx (Zc ?_)))))
    refine Zb (Za rfl (Zd rfl) ?_)
    (first | (refine Za rfl (Ex_subB rfl rfl ?_) ?_; omega) | refine Za rfl (Ex_sub rfl rfl) ?_)
    refine Za rfl (Zg rfl) (Ze ?_)
    refine WQ_same (s := 5) (v' := .int .u64 ((leN (seg s (q + (m - 1)) (k - (m - 1))) : Nat) : Int)) rfl (congrArg (Value.int .u64) (by have h9 := leN_seg_lt s (q + (m - 1)) (k - (m - 1)) 8 (by omega); rw [show k - (m - 1) = (k - m) + 1 by omega, seg_succ hqm, show q + (m - 1) + 1 = q + m by omega] at h9 ⊢; simp only [leN] at h9 ⊢; rw [u64_step _ _ (by omega)]; omega)) ?_
    refine WQ_same (s := 6) (v' := .int .i64 (((m - 1 : Nat) : Int) - 1)) rfl (congrArg (Value.int .i64) (by omega)) ?_
    refine Yn (m - 1) ?_ (by omega) 0 rfl (rfl) ⟨rfl, rfl, rfl, rfl, trivial⟩
    omega
   ·intro c2
    try (first | replace c2 := dFa c2 | replace c2 := Zi c2)
    refine Yx (Yw (Yo (Yv (Zc (Zf ?_)))))
    have hm0 : m = 0 := by omega
    subst hm0
    refine Zb (Za rfl (Zd rfl) (Za rfl (Zd rfl) (Za rfl (Ys rfl) (Za rfl (Zh (ff rfl) rfl) (Za rfl (Zj (t1 rfl) rfl (Zl 0 rfl rfl)) ?_)))))
    refine Za rfl (Zd rfl) ?_
    (first | (refine Za rfl (Xa rfl rfl ?_) ?_; omega) | (refine Za rfl (Yp rfl rfl ?_) ?_; omega) | refine Za rfl (Yz rfl rfl) ?_)
    refine Za rfl (Ys rfl) (Za rfl (Zh (ff rfl) rfl) (WL_same (s := 55) (v' := .int .i64 ((q + k : Nat) : Int)) rfl (congrArg (Value.int .i64) (by omega)) ?_))
    refine Xd (t1 rfl) rfl rfl 0 rfl rfl rfl rfl (Ze (Zc (Zf (Zb (Za rfl (Zd rfl) ?_)))))
    refine Za rfl (Ex_conv (tint rfl) (tint rfl) rfl) (Za rfl (Zg rfl) (Ze (Zc (Zv (Rc_end1 rfl rfl 0 rfl ?_)))))
    have h9 := leN_seg_lt s q k k (Nat.le_refl _); have h8 := leN_seg_lt s q k 8 hk; exact ⟨leN (seg s q k), some ((dl s).drop (q + k)), q + k, ⟨congrArg (Value.int .i64) (toI_wrap (by omega)), h9, rfl⟩, hqk, rfl, (fun r h => by cases h; rfl), by show pNum k _ = _; rw [pNum_ok (by omega), List.drop_drop]; rfl⟩
theorem tpLow_any (u : World) (b : Nat) (s : ByteArray) (k : Nat) (hs : s.size ≤ 4000000) (hk : k ≤ 8) : TpP 88 #[.pointer (some ⟨b, 0, none⟩), .int .i64 (k : Nat)] u b s (pNum k) (repN k) := by
 intro σ q hq hr
 cases σ with
 | none => exact tpLow_bad u b s q k hs hq hk
 | some r =>
  have := hr r rfl
  subst this
  exact tpLow_good u b s q k hs hq hk
def repS : ByteArray → Value → Asr → Prop := fun x v R' => v = .string x ∧ x.size ≤ 255 ∧ R' = Asr.none
theorem pName_no {n : Nat} {r : List UInt8} (h : ¬ n ≤ r.length) : (some r).bind (pThen (pTake n) fun l => pRet (⟨l.toArray⟩ : ByteArray)) = none := by
 show pThen _ _ r = none
 unfold pThen; rw [pTake_no h]
theorem pName_ok {n : Nat} {r : List UInt8} (h : n ≤ r.length) : TpStep (pThen (pTake n) fun l => pRet (⟨l.toArray⟩ : ByteArray)) (some r) ⟨(r.take n).toArray⟩ (some (r.drop n)) := by
 show pThen _ _ r = _
 unfold pThen; rw [pTake_ok h]; rfl
theorem tpName_any (u : World) (b : Nat) (s : ByteArray) (hs : s.size ≤ 4000000) : TpP 87 #[.pointer (some ⟨b, 0, none⟩)] u b s pName repS := by
 intro σ q hq hr w h0
 refine opensF (h0.sat) (args := [.pointer (some ⟨b, 0, none⟩)]) Tryz.func87 rfl Tryz.ntmps87 ?_
 refine Zf (Zb (Za rfl (Zg rfl) (Ze (Zc (Zf ?_)))))
 refine Zb (Za rfl (Zd rfl) (Yk fn88 rfl rfl 0 rfl h0.base (Rc_F h0) (tpLow_any u b s 1 hs (by omega) σ q hq hr) (fun h => h.elim) ?_))
 rintro v cs' ⟨R', n, σ1, q1, ⟨rfl, hn, -⟩, hq1, rfl, hr1, hst⟩
 have hS := (Wa.first σ pName).next hst
 rw [toI_small (show n < 9223372036854775808 by omega)]
 refine Za rfl (Zg rfl) (Ze (Zc (Zf (Zf (WC_draw mixed (by kernel_rfl) ?_)))))
 refine Zm rfl (Zd rfl) (Zm rfl (Ys rfl) (Zm rfl (Zh (ff rfl) rfl) (Zm rfl (Zj (t1 rfl) rfl (Zl 0 rfl rfl)) (Zm rfl (Zd rfl) (WO_part rfl rfl ?_ ?_)))))
 ·intro h1
  try (first | replace h1 := dTr h1 | replace h1 := Zk h1)
  have h2 := isNone_none h1; subst h2
  refine Xn rfl rfl rfl (Xn rfl rfl rfl (Xn rfl rfl rfl (Xn rfl rfl rfl (Xn rfl rfl rfl (Xn rfl rfl rfl ?_)))))
  refine Xn rfl rfl rfl (Xn rfl rfl rfl (Xn rfl rfl rfl (Xn rfl rfl rfl (Xn rfl rfl rfl (Xn rfl rfl rfl ?_)))))
  refine Zm rfl (Zt rfl rfl) (WO_nil (Zc (Xq rfl (Zf (Zb ?_)))))
  refine Za rfl (Zd rfl) (Za rfl (Ys rfl) (Za rfl (Zh (ff rfl) rfl) (Xd (t1 rfl) rfl rfl 0 rfl rfl rfl rfl (Ze (Zc ?_)))))
  refine Zf (Zb (Za rfl (Zg rfl) (Ze (Zc (Zv ?_)))))
  refine Zq (Rc_end1 rfl rfl 0 rfl ?_)
  exact ⟨⟨#[]⟩, none, q1, ⟨rfl, Nat.zero_le _, rfl⟩, hq1, rfl, (fun r h => by cases h), hS.bad _⟩
 ·intro h1
  try (first | replace h1 := dFa h1 | replace h1 := Zi h1)
  obtain ⟨r1, h2⟩ := isNone_some h1; subst h2; have h3 := hr1 r1 rfl; subst h3
  have hl : ((dl s).drop q1).length = s.size - q1 := by rw [List.length_drop, dl_length]
  refine Yf rfl rfl rfl (Zd rfl) (Yf rfl rfl rfl (Ys rfl) (Yf rfl rfl rfl (Zh (ff rfl) rfl) (Yf rfl rfl rfl (Zj (t1 rfl) rfl (Zl 0 rfl rfl)) (Yf rfl rfl rfl (Zd rfl) ?_))))
  (first | (refine Yf rfl rfl rfl (Xa rfl rfl ?_) ?_; omega) | (refine Yf rfl rfl rfl (Yp rfl rfl ?_) ?_; omega) | refine Yf rfl rfl rfl (Yz rfl rfl) ?_)
  refine Yf rfl rfl rfl (Zd rfl) (Yf rfl rfl rfl (Ys rfl) (Yf rfl rfl rfl (Zh (ff rfl) rfl) (Yf rfl rfl rfl (Zj (t1 rfl) rfl (Zl 0 rfl rfl)) (Yf rfl rfl rfl (Ex_lenS (tstr rfl) rfl) (Yf rfl rfl rfl (Ex_gtr rfl rfl) ?_)))))
  refine Zm rfl (Zz rfl rfl) (WO_nil (Zc (Yi rfl ?_ ?_)))
  ·intro c1
   try (first | replace c1 := dTr c1 | replace c1 := Zk c1)
   refine Zf (Zb (Za rfl (Zd rfl) (Za rfl (Ys rfl) (Za rfl (Zh (ff rfl) rfl) (Xd (t1 rfl) rfl rfl 0 rfl rfl rfl rfl ?_)))))
   refine Ze (Zc (Zf (Zb (Za rfl (Zg rfl) (Ze ?_)))))
   refine Zc (Zv (Zq (Rc_end1 rfl rfl 0 rfl ?_)))
   exact ⟨⟨#[]⟩, none, q1, ⟨rfl, Nat.zero_le _, rfl⟩, hq1, rfl, (fun r h => by cases h), hS.trans (pName_no (by omega))⟩
  ·intro c1
   try (first | replace c1 := dFa c1 | replace c1 := Zi c1)
   refine Zw (Zc (Zf (Zb (Za rfl (Zd rfl) (Za rfl (Zd rfl) ?_)))))
   refine Za rfl (Ys rfl) (Za rfl (Zh (ff rfl) rfl) (Za rfl (Zj (t1 rfl) rfl (Zl 0 rfl rfl)) (Za rfl (Zd rfl) ?_)))
   (first | (refine Za rfl (Xa rfl rfl ?_) ?_; omega) | (refine Za rfl (Yp rfl rfl ?_) ?_; omega) | refine Za rfl (Yz rfl rfl) ?_)
   refine Za rfl (Ys rfl) (Za rfl (Zh (ff rfl) rfl) (WL_same (s := 33) (v' := .int .i64 ((q1 + n : Nat) : Int)) rfl (congrArg (Value.int .i64) (by omega)) ?_))
   refine Xd (t1 rfl) rfl rfl 0 rfl rfl rfl rfl (Ze (Zc (Zf (WC_draw mixed (by kernel_rfl) ?_))))
   refine Zm rfl (Zd rfl) (Zm rfl (Ys rfl) (Zm rfl (Zh (ff rfl) rfl) (Zm rfl (Zj (t1 rfl) rfl (Zl 0 rfl rfl)) (Zm rfl (Zd rfl) (Zm rfl (Ys rfl) ?_)))))
   refine Zm rfl (Zh (ff rfl) rfl) (Zm rfl (Zj (t1 rfl) rfl (Zl 0 rfl rfl)) (Zm rfl (Zd rfl) ?_))
   (first | (refine Zm rfl (Ex_subB rfl rfl ?_) ?_; omega) | refine Zm rfl (Ex_sub rfl rfl) ?_)
   refine Zm rfl (Zd rfl) (Zm rfl (Ys rfl) (Zm rfl (Zh (ff rfl) rfl) (Zm rfl (Zj (t1 rfl) rfl (Zl 0 rfl rfl)) (WO_same (s := 45) (v' := .int .i64 (q1 : Nat)) rfl (congrArg (Value.int .i64) (by omega)) ?_))))
   refine Zm rfl (Ex_sliceS (tstr rfl) rfl rfl rfl ?_ ?_) ?_
   ·omega
   ·omega
   refine Zm rfl (Zg rfl) (WO_nil (Zc (Zv (Rc_end1 rfl rfl 0 rfl ?_))))
   exact ⟨_, some ((dl s).drop (q1 + n)), q1 + n, ⟨congrArg Value.string seg_text, by show (seg s q1 n).toArray.size ≤ 255; rw [List.size_toArray]; unfold seg; rw [List.length_take]; omega, rfl⟩, by omega, rfl, (fun r h => by cases h; rfl), hS.trans (by rw [← List.drop_drop]; exact pName_ok (by omega))⟩
def repB : Bool → Value → Asr → Prop := fun x v R' => v = .bool x ∧ R' = Asr.none
theorem flag_leaf {s : ByteArray} {σ : Option (List UInt8)} {q n : Nat} {r : List UInt8} (hq : q ≤ s.size) (hr : ∀ r', some r = some r' → r' = (dl s).drop q) (hS : Wa σ pFlag (some r) (if 1 < n then pNo else pRet (decide (n = 1)))) :
  TpOk s σ pFlag repB (.bool (decide ((n : Int) = 1))) (tpC s q (decide ((1 : Int) < (n : Int)))) Asr.none := by
 have e : decide ((n : Int) = 1) = decide (n = 1) := by rw [Bool.eq_iff_iff]; simp only [decide_eq_true_eq]; omega
 by_cases h : 1 < n
 ·rw [if_pos h] at hS
  exact ⟨_, none, q, ⟨rfl, rfl⟩, hq, by rw [decide_eq_true (by omega)]; rfl, (fun r h => by cases h), (Wa.ask (q := pNo) hS).bad _⟩
 ·rw [if_neg h] at hS
  exact ⟨_, some r, q, ⟨by rw [e], rfl⟩, hq, by rw [decide_eq_false (by omega)]; rfl, hr, hS.done⟩
theorem tpFlag_any (u : World) (b : Nat) (s : ByteArray) (hs : s.size ≤ 4000000) : TpP 89 #[.pointer (some ⟨b, 0, none⟩)] u b s pFlag repB := by
 intro σ q hq hr w h0
 refine opensF (h0.sat) (args := [.pointer (some ⟨b, 0, none⟩)]) Tryz.func89 rfl Tryz.ntmps89 ?_
 refine Zf (Zb (Za rfl (Zg rfl) (Ze (Zc (Zf ?_)))))
 refine Zb (Za rfl (Zd rfl) (Yk fn88 rfl rfl 0 rfl h0.base (Rc_F h0) (tpLow_any u b s 1 hs (by omega) σ q hq hr) (fun h => h.elim) ?_))
 rintro v cs' ⟨R', n, σ1, q1, ⟨rfl, hn, -⟩, hq1, rfl, hr1, hst⟩
 have hS := (Wa.first σ pFlag).next hst
 rw [toI_small (show n < 9223372036854775808 by omega)]
 refine Za rfl (Zg rfl) (Ze (Zc (Zf (Zb (Za rfl (Zd rfl) ?_)))))
 refine Za rfl (Zd rfl) (Za rfl (Ys rfl) (Za rfl (Zh (ff rfl) rfl) (Za rfl (Zj (t1 rfl) rfl (Zl 0 rfl rfl)) (Za rfl (Zd rfl) (Yr rfl rfl rfl ?_ ?_)))))
 ·intro h1
  try (first | replace h1 := dTr h1 | replace h1 := Zk h1)
  have h2 := isNone_none h1; subst h2
  refine Zp rfl rfl rfl (Zp rfl rfl rfl (Za rfl (Zt rfl rfl) (Za rfl (Ys rfl) (Za rfl (Zh (ff rfl) rfl) (Xd (t1 rfl) rfl rfl 0 rfl rfl rfl rfl ?_)))))
  refine Ze (Zc (Zf (Zb (Za rfl (Zd rfl) (Za rfl (Xc rfl rfl) ?_)))))
  refine Za rfl (Zg rfl) (Ze (Zc (Zv (Rc_end1 rfl rfl 0 rfl ?_))))
  exact ⟨_, none, q1, ⟨rfl, rfl⟩, hq1, rfl, (fun r h => by cases h), hS.bad _⟩
 ·intro h1
  try (first | replace h1 := dFa h1 | replace h1 := Zi h1)
  obtain ⟨r1, h2⟩ := isNone_some h1; subst h2
  refine Zo rfl rfl rfl (Zd rfl) (Zo rfl rfl rfl (Ex_gtr rfl rfl) (Za rfl (Zz rfl rfl) (Za rfl (Ys rfl) (Za rfl (Zh (ff rfl) rfl) (Xd (t1 rfl) rfl rfl 0 rfl rfl rfl rfl ?_)))))
  refine Ze (Zc (Zf (Zb (Za rfl (Zd rfl) (Za rfl (Xc rfl rfl) ?_)))))
  refine Za rfl (Zg rfl) (Ze (Zc (Zv (Rc_end1 rfl rfl 0 rfl ?_))))
  exact flag_leaf hq1 hr1 hS
end Go.Proofs.YtpofmnfkdkmieaaGreat
namespace Go.Proofs.YtpofmnfkdkmieaaGreat
open Go.RowKit At E
def repI (k : Nat) : Int → Value → Asr → Prop := fun x v R' => v = .int .i64 x ∧ intOk x ∧ (k ≤ 2 → 0 ≤ x ∧ x < 65536) ∧ R' = Asr.none
theorem tpInt_any (u : World) (b : Nat) (s : ByteArray) (k : Nat) (hs : s.size ≤ 4000000) (hk : k ≤ 8) : TpP 88 #[.pointer (some ⟨b, 0, none⟩), .int .i64 (k : Nat)] u b s (pInt k) (repI k) := by
 intro σ q hq hr w h0
 refine Calls.mono (tpLow_any u b s k hs hk σ q hq hr w h0) ?_
 rintro e w' (⟨v, cs', R', rfl, ⟨n, σ', q', ⟨rfl, hn, rfl⟩, hq', rfl, hr', hst⟩, hw⟩ | ⟨h, _⟩)
 ·have h8 : n < 18446744073709551616 := Nat.lt_of_lt_of_le hn (Nat.le_trans (Nat.pow_le_pow_right (by omega) hk) (by decide))
  refine .inl ⟨_, _, _, rfl, ⟨toI n, σ', q', ⟨rfl, toI_ok h8, fun h2 => ?_, rfl⟩, hq', rfl, hr', ((Wa.first σ (pInt k)).next hst).done⟩, hw⟩
  have h3 : n < 65536 := Nat.lt_of_lt_of_le hn (Nat.le_trans (Nat.pow_le_pow_right (by omega) h2) (by decide))
  rw [toI_small (by omega)]; omega
 ·exact h.elim
def repT : Ty → Value → Asr → Prop := fun t v R' => v = .agg (tyV t).toArray ∧ tyOk t ∧ R' = Asr.none
def tyF (chk : Bool) (k : Int) : Ps Ty := if (chk && decide (5 < k)) = true then pNo else if k = 3 then pThen pName fun c => pRet ⟨k, c⟩ else pRet ⟨k, mt⟩
theorem Xt : strOk mt := Nat.zero_le _
theorem Zr {s : ByteArray} (h : s.size ≤ 255) : strOk s := by unfold strOk; omega
/-- A kind that there is not: the tape has gone wrong. -/
def tyN (σ : Option (List UInt8)) (k : Int) : Option (List UInt8) := if 5 < k then none else σ
theorem tyN_next {σ σ1 : Option (List UInt8)} {k : Int} {P : Ps Ty} (h : Wa σ P σ1 (tyF true k)) : Wa σ P (tyN σ1 k) (if k = 3 then pThen pName fun c => pRet ⟨k, c⟩ else pRet ⟨k, mt⟩) := by
 unfold tyN
 by_cases h5 : 5 < k
 ·rw [if_pos h5]
  exact (Wa.of h (by unfold tyF; rw [if_pos (by simp [h5])])).ask
 ·rw [if_neg h5]
  exact Wa.of h (by unfold tyF; rw [if_neg (by simp [h5])])
theorem tyN_state {s : ByteArray} {σ1 : Option (List UInt8)} {q : Nat} {k : Int} (h : ∀ r, σ1 = some r → r = (dl s).drop q) : ∀ r, tyN σ1 k = some r → r = (dl s).drop q := by
 intro r hr
 unfold tyN at hr
 split at hr
 ·cases hr
 ·exact h r hr
theorem tyN_bad {σ : Option (List UInt8)} {k : Int} (h : σ.isNone = true) : true = (tyN σ k).isNone := by
 have := isNone_none h
 subst this
 unfold tyN; split <;> rfl
theorem tyN_good {σ : Option (List UInt8)} {k : Int} (h : σ.isNone = false) : decide (5 < k) = (tyN σ k).isNone := by
 unfold tyN
 split
 ·rename_i h5; rw [decide_eq_true h5]; rfl
 ·rename_i h5; rw [decide_eq_false h5, h]
set_option maxHeartbeats 1000000 in
theorem Xv (u : World) (b : Nat) (s : ByteArray) (hs : s.size ≤ 4000000) : TpP 90 #[.pointer (some ⟨b, 0, none⟩)] u b s (pTy true) repT := by
 intro σ q hq hr w h0
 refine opensF (h0.sat) (args := [.pointer (some ⟨b, 0, none⟩)]) Tryz.func90 rfl Tryz.ntmps90 ?_
 refine Zf (Zb (Xg rfl (tz rfl) ?_))
 intro b1 hb1
 refine Ze (Zc (Zf (Zb (Za rfl (Zd rfl) (Yk fn88 rfl rfl 1 rfl h0.base (Rc_F h0) (tpInt_any u b s 1 hs (by omega) σ q hq hr) (fun h => h.elim) ?_)))))
 rintro v cs' ⟨R', k, σ1, q1, ⟨rfl, hk, -, -⟩, hq1, rfl, hr1, hst⟩
 have hS : Wa σ (pTy true) (tyN σ1 k) _ := tyN_next ((Wa.first σ (pTy true)).next hst)
 refine Za rfl (Xs (tb rfl) rfl rfl) (Xg rfl (tz rfl) ?_)
 intro b2 hb2
 refine Yd (tn rfl) rfl rfl 0 rfl rfl rfl rfl (Ze (Zc (Zf (Zb (Za rfl (Zd rfl) ?_)))))
 refine Za rfl (Zd rfl) (Za rfl (Ys rfl) (Za rfl (Zh (ff rfl) rfl) (Za rfl (Zj (t1 rfl) rfl (Zl 2 rfl rfl)) (Za rfl (Zd rfl) (Yr rfl rfl rfl ?_ ?_)))))
 ·intro h1
  try (first | replace h1 := dTr h1 | replace h1 := Zk h1)
  refine Zp rfl rfl rfl (Zp rfl rfl rfl (Zp rfl rfl rfl (Za rfl (Zt rfl rfl) (Za rfl (Ys rfl) (Za rfl (Zh (ff rfl) rfl) ?_)))))
  refine WL_same (s := 16) (v' := .bool (tyN σ1 k).isNone) rfl (congrArg Value.bool (by first | exact tyN_bad h1 | exact tyN_good h1)) ?_
  refine Xd (t1 rfl) rfl rfl 2 rfl rfl rfl rfl (Ze (Zc (Zf (Zf (Zb ?_)))))
  refine Za rfl (Zh (ff rfl) rfl) (Za rfl (Zj (t1 rfl) rfl (Zl 0 rfl rfl)) (Za rfl (Xc rfl rfl) (Ze (Zc (Yi rfl ?_ ?_)))))
  ·intro c1
   try (first | replace c1 := dTr c1 | replace c1 := Zk c1)
   rw [if_pos c1] at hS
   refine Zb (Za rfl (Zd rfl) (Yk fn87 rfl rfl 2 rfl h0.base (Rc_F h0) (tpName_any u b s hs (tyN σ1 k) q1 hq1 (tyN_state hr1)) (fun h => h.elim) ?_))
   rintro v cs' ⟨R', c, σ2, q2, ⟨rfl, hc, -⟩, hq2, rfl, hr2, hst2⟩
   refine Za rfl (Zh (ff rfl) rfl) (Xd (t1 rfl) rfl rfl 0 rfl rfl rfl rfl (Ze (Zc (Zf (Zb ?_)))))
   refine Za rfl (Yb (tn rfl) rfl 0 rfl rfl) (Yd (tn rfl) rfl rfl 1 rfl rfl rfl rfl (Ze (Zc (Zv (Rc_endR (Res_1 rfl (Xo (tn rfl) rfl (Yj 1 rfl) rfl)) 2 rfl ?_)))))
   first | exact ⟨⟨k, c⟩, σ2, q2, ⟨rfl, ⟨hk, Zr hc⟩, rfl⟩, hq2, rfl, hr2, (hS.next hst2).done⟩ | exact ⟨⟨k, mt⟩, tyN σ1 k, q1, ⟨rfl, ⟨hk, Xt⟩, rfl⟩, hq1, rfl, tyN_state hr1, hS.done⟩
  ·intro c1
   try (first | replace c1 := dFa c1 | replace c1 := Zi c1)
   rw [if_neg c1] at hS
   refine Zw (Zc (Zf (Zb (Za rfl (Yb (tn rfl) rfl 0 rfl rfl) (Yd (tn rfl) rfl rfl 1 rfl rfl rfl rfl ?_)))))
   refine Ze (Zc (Zv (Rc_endR (Res_1 rfl (Xo (tn rfl) rfl (Yj 1 rfl) rfl)) 2 rfl ?_)))
   first | exact ⟨⟨k, c⟩, σ2, q2, ⟨rfl, ⟨hk, Zr hc⟩, rfl⟩, hq2, rfl, hr2, (hS.next hst2).done⟩ | exact ⟨⟨k, mt⟩, tyN σ1 k, q1, ⟨rfl, ⟨hk, Xt⟩, rfl⟩, hq1, rfl, tyN_state hr1, hS.done⟩
 ·intro h1
  try (first | replace h1 := dFa h1 | replace h1 := Zi h1)
  refine Zo rfl rfl rfl (Zh (ff rfl) rfl) (Zo rfl rfl rfl (Zj (t1 rfl) rfl (Zl 0 rfl rfl)) (Zo rfl rfl rfl (Ex_gtr rfl rfl) (Za rfl (Zz rfl rfl) (Za rfl (Ys rfl) (Za rfl (Zh (ff rfl) rfl) ?_)))))
  refine WL_same (s := 16) (v' := .bool (tyN σ1 k).isNone) rfl (congrArg Value.bool (by first | exact tyN_bad h1 | exact tyN_good h1)) ?_
  refine Xd (t1 rfl) rfl rfl 2 rfl rfl rfl rfl (Ze (Zc (Zf (Zf (Zb ?_)))))
  refine Za rfl (Zh (ff rfl) rfl) (Za rfl (Zj (t1 rfl) rfl (Zl 0 rfl rfl)) (Za rfl (Xc rfl rfl) (Ze (Zc (Yi rfl ?_ ?_)))))
  ·intro c1
   try (first | replace c1 := dTr c1 | replace c1 := Zk c1)
   rw [if_pos c1] at hS
   refine Zb (Za rfl (Zd rfl) (Yk fn87 rfl rfl 2 rfl h0.base (Rc_F h0) (tpName_any u b s hs (tyN σ1 k) q1 hq1 (tyN_state hr1)) (fun h => h.elim) ?_))
   rintro v cs' ⟨R', c, σ2, q2, ⟨rfl, hc, -⟩, hq2, rfl, hr2, hst2⟩
   refine Za rfl (Zh (ff rfl) rfl) (Xd (t1 rfl) rfl rfl 0 rfl rfl rfl rfl (Ze (Zc (Zf (Zb ?_)))))
   refine Za rfl (Yb (tn rfl) rfl 0 rfl rfl) (Yd (tn rfl) rfl rfl 1 rfl rfl rfl rfl (Ze (Zc (Zv (Rc_endR (Res_1 rfl (Xo (tn rfl) rfl (Yj 1 rfl) rfl)) 2 rfl ?_)))))
   first | exact ⟨⟨k, c⟩, σ2, q2, ⟨rfl, ⟨hk, Zr hc⟩, rfl⟩, hq2, rfl, hr2, (hS.next hst2).done⟩ | exact ⟨⟨k, mt⟩, tyN σ1 k, q1, ⟨rfl, ⟨hk, Xt⟩, rfl⟩, hq1, rfl, tyN_state hr1, hS.done⟩
  ·intro c1
   try (first | replace c1 := dFa c1 | replace c1 := Zi c1)
   rw [if_neg c1] at hS
   refine Zw (Zc (Zf (Zb (Za rfl (Yb (tn rfl) rfl 0 rfl rfl) (Yd (tn rfl) rfl rfl 1 rfl rfl rfl rfl ?_)))))
   refine Ze (Zc (Zv (Rc_endR (Res_1 rfl (Xo (tn rfl) rfl (Yj 1 rfl) rfl)) 2 rfl ?_)))
   first | exact ⟨⟨k, c⟩, σ2, q2, ⟨rfl, ⟨hk, Zr hc⟩, rfl⟩, hq2, rfl, hr2, (hS.next hst2).done⟩ | exact ⟨⟨k, mt⟩, tyN σ1 k, q1, ⟨rfl, ⟨hk, Xt⟩, rfl⟩, hq1, rfl, tyN_state hr1, hS.done⟩
/-- A loop that reads a list. -/
structure TpL (α : Type) where
 n : Nat
 σ : Option (List UInt8)
 q : Nat
 v : Value
 l : List α
def repTys : List Ty → Value → Asr → Prop := fun l v R' => R'.Imp (tysA v l) ∧ l.length ≤ 255 ∧ ∀ t ∈ l, tyOk t
theorem tys_end {l : List Ty} {n : Nat} {σ σ1 : Option (List UInt8)} {most : Nat} (h : Wa σ (pList false 1 most (pTy true)) σ1 (pFrom (pTy true) l n)) (he : n = 0 ∨ σ1 = none) : TpStep (pList false 1 most (pTy true)) σ l σ1 := by
 rcases he with rfl | rfl
 ·rw [pFrom_zero] at h; exact h.done
 ·exact h.bad l
theorem list_first {α : Type} {p : Ps α} {k most n : Nat} {σ σ1 : Option (List UInt8)} (h : TpStep (pNum k) σ n σ1) : Wa σ (pList false k most p) σ1 (pFrom p [] n) :=
 ((Wa.first σ (pList false k most p)).next h).of (by rw [if_neg (by simp), pMany_from])
theorem ok_snoc {α : Type} {ok : α → Prop} {l : List α} {t : α} (h : ∀ x ∈ l, ok x) (ht : ok t) : ∀ x ∈ l ++ [t], ok x := by
 intro x hx
 rcases List.mem_append.1 hx with hx | hx
 ·exact h x hx
 ·simp only [List.mem_singleton] at hx; subst hx; exact ht
theorem tpTypes_any (u : World) (b : Nat) (s : ByteArray) (most : Nat) (hs : s.size ≤ 4000000) : TpP 132 #[.pointer (some ⟨b, 0, none⟩)] u b s (pList false 1 most (pTy true)) repTys := by
 intro σ q hq hr w h0
 refine opensF (h0.sat) (args := [.pointer (some ⟨b, 0, none⟩)]) Tryz.func132 rfl Tryz.ntmps132 ?_
 refine Zf (Zb (Za rfl (Zg rfl) (Ze (Zc (Zf ?_)))))
 refine Zb (Za rfl (Zg rfl) (Ze (Zc (Zf (Zf ?_)))))
 refine Zb (Za rfl (Zd rfl) (Yk fn88 rfl rfl 0 rfl h0.base (Rc_F h0) (tpLow_any u b s 1 hs (by omega) σ q hq hr) (fun h => h.elim) ?_))
 rintro v cs' ⟨R', n, σ1, q1, ⟨rfl, hn, -⟩, hq1, rfl, hr1, hst⟩
 rw [toI_small (show n < 9223372036854775808 by omega)]
 refine Za rfl (Zg rfl) (Ze (Zc (Zs (WC_own 71 2 ?_))))
 refine Xh (E' := (fun x : TpL Ty => [(0, .pointer (some ⟨b, 0, none⟩)), (3, x.v), (4, .int .i64 (x.n : Nat))]) (⟨n, σ1, q1, .slice none 0 0, []⟩)) ⟨rfl, rfl, rfl, trivial⟩ (Yy (X := TpL Ty) (fun x : TpL Ty => [(0, .pointer (some ⟨b, 0, none⟩)), (3, x.v), (4, .int .i64 (x.n : Nat))]) _ _ (fun x : TpL Ty => [(b, tpC s x.q x.σ.isNone)]) (fun x : TpL Ty => (ownA 71 2 x.v x.l.length (x.l.flatMap tyV)).and Asr.none) (fun x : TpL Ty => x.q ≤ s.size ∧ (∀ r, x.σ = some r → r = (dl s).drop x.q) ∧ x.l.length + x.n ≤ 255 ∧ (∀ t ∈ x.l, tyOk t) ∧ Wa σ (pList false 1 most (pTy true)) x.σ (pFrom (pTy true) x.l x.n)) (fun x : TpL Ty => x.n) (⟨n, σ1, q1, .slice none 0 0, []⟩) (⟨hq1, hr1, by simp only [List.length_nil]; omega, (fun t h => by cases h), list_first hst⟩) ?_)
 intro x hI
 obtain ⟨hq2, hr2, hln, hok, hG⟩ := hI
 refine Zf (Zf (Zb (Za rfl (Zd rfl) (Za rfl (Ex_gtr rfl rfl) (Za rfl (Zd rfl) ?_)))))
 refine Yr rfl rfl rfl ?_ ?_
 ·intro h1
  try (first | replace h1 := dTr h1 | replace h1 := Zk h1)
  refine Zo rfl rfl rfl (Zd rfl) (Zo rfl rfl rfl (Ys rfl) (Zo rfl rfl rfl (Zh (ff rfl) rfl) (Zo rfl rfl rfl (Zj (t1 rfl) rfl (Zl 0 rfl rfl)) (Zo rfl rfl rfl (Ex_not rfl) (Za rfl (Zt rfl rfl) ?_)))))
  refine Ze (Zc (Yi rfl ?_ ?_))
  ·intro c1
   try (first | replace c1 := dTr c1 | replace c1 := Zk c1)
   obtain ⟨m, hm⟩ : ∃ m, x.n = m + 1 := ⟨x.n - 1, by omega⟩
   rw [hm, pFrom_succ] at hG
   refine Zw (Zc (Zf (Zs (Zf (Zb ?_)))))
   refine Za rfl (Zd rfl) (Yk fn90 rfl rfl 0 rfl h0.base (Rc_F h0) (Xv u b s hs x.σ x.q hq2 hr2) (fun h => h.elim) ?_)
   rintro v cs' ⟨R', t, σ2, q2, ⟨rfl, ht, -⟩, hq3, rfl, hr3, hst2⟩
   refine Xg rfl (tz rfl) ?_
   intro b1 hb1
   refine Yd (tn rfl) rfl rfl 0 rfl rfl rfl rfl (Ze (Zc (Zb (Za rfl (Zd rfl) (Za rfl (Yb (tn rfl) rfl 0 rfl rfl) ?_)))))
   refine WL_bs rfl (ts rfl) (tz rfl) rfl rfl rfl rfl rfl ?_
   intro b2 hb2
   refine WL_app rfl (ta rfl) rfl rfl (Yj 0 rfl) rfl rfl ?_ ?_ ?_
   ·unfold maxLen; omega
   ·omega
   intro v1
   refine Za rfl (Zg rfl) (Ze (Zx (Zc (Zb (Za rfl (Zd rfl) ?_)))))
   (first | (refine Za rfl (Ex_subB rfl rfl ?_) ?_; omega) | refine Za rfl (Ex_sub rfl rfl) ?_)
   refine Za rfl (Zg rfl) (Ze (WQ_same (s := 4) (v' := .int .i64 (m : Nat)) rfl (congrArg (Value.int .i64) (by omega)) ?_))
   refine Yn (⟨m, σ2, q2, v1, x.l ++ [t]⟩) ?_ (⟨hq3, hr3, by rw [List.length_append]; simp only [List.length_singleton]; omega, ok_snoc hok ht, hG.next hst2⟩) 2 rfl (by show (ownA 71 2 v1 _ _).and Asr.none = _; rw [List.length_append, List.flatMap_append]; rfl) ⟨rfl, rfl, rfl, trivial⟩
   show m < x.n; omega
  ·intro c1
   try (first | replace c1 := dFa c1 | replace c1 := Zi c1)
   refine Yx (Yw (Yo (Yv (Zc (Zf ?_)))))
   refine Zb (Za rfl (Zd rfl) (Za rfl (Zg rfl) (Ze (Zc (Zv ?_)))))
   refine Rc_end1 rfl rfl 0 rfl ?_
   exact ⟨x.l, x.σ, x.q, ⟨Asr.fst _ _, by omega, hok⟩, hq2, rfl, hr2, tys_end hG (by first | exact .inl (by omega) | exact .inr (isNone_none (by simpa using c1)) | (simp_all; done))⟩
 ·intro h1
  try (first | replace h1 := dFa h1 | replace h1 := Zi h1)
  refine Zp rfl rfl rfl (Zp rfl rfl rfl (Zp rfl rfl rfl (Zp rfl rfl rfl (Zp rfl rfl rfl (Za rfl (Zz rfl rfl) ?_)))))
  refine Ze (Zc (WC_false rfl (Yx (Yw (Yo ?_)))))
  refine Yv (Zc (Zf (Zb (Za rfl (Zd rfl) (Za rfl (Zg rfl) ?_)))))
  refine Ze (Zc (Zv (Rc_end1 rfl rfl 0 rfl ?_)))
  exact ⟨x.l, x.σ, x.q, ⟨Asr.fst _ _, by omega, hok⟩, hq2, rfl, hr2, tys_end hG (by first | exact .inl (by omega) | exact .inr (isNone_none (by simpa using c1)) | (simp_all; done))⟩
end Go.Proofs.YtpofmnfkdkmieaaGreat
