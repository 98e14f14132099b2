/- What is proved here: the program's own asking of names and types (package shape) goes through just where the plain functions say yes. -/
import Derived.Test.YtpofmnfkdkmieaaGreatQ06
import Derived.Test.YtpofmnfkdkmieaaGreatQ11
set_option linter.unusedVariables false
set_option linter.unusedSimpArgs false
namespace Go.Proofs.YtpofmnfkdkmieaaGreat
open Go.RowKit At E
theorem Xe (b : Bool) (w : World) : PureP Tryz.prog 111 #[.bool b] w b := by
 refine opens (args := [.bool b]) Tryz.func111 rfl Tryz.ntmps111 ?_
 refine Zf (Zb (Za rfl (Zd rfl) (Za rfl (Ex_not rfl) (Ze (Zc ?_)))))
 refine Yi rfl ?_ ?_
 ·intro c1
  try (first | replace c1 := dTr c1 | replace c1 := Zk c1)
  refine Zb (Za rfl (Ex_iface (tint rfl) rfl) (WL_panic rfl (Yu ?_)))
  simp_all
 ·intro c1
  try (first | replace c1 := dFa c1 | replace c1 := Zi c1)
  refine Zw (PP_end rfl ?_)
  simp_all
theorem isLetter_any (c : Int) (w : World) : Pure Tryz.prog 243 #[.int .u8 c] w (.bool (letB c)) := by
 refine opens (args := [.int .u8 c]) Tryz.func243 rfl Tryz.ntmps243 ?_
 refine Zf (Zb (Za rfl (Zg rfl) (Ze (Zc (Zf ?_)))))
 refine Zb (Za rfl (Zd rfl) (Za rfl (Ex_leq rfl rfl) (Za rfl (Zd rfl) (Yr rfl rfl rfl ?_ ?_))))
 ·intro h1
  try (first | replace h1 := dTr h1 | replace h1 := Zk h1)
  refine Zo rfl rfl rfl (Zd rfl) (Zo rfl rfl rfl (Ex_leq rfl rfl) (Za rfl (Zt rfl rfl) (Za rfl (Zd rfl) (Yr rfl rfl rfl ?_ ?_))))
  ·intro h2
   try (first | replace h2 := dTr h2 | replace h2 := Zk h2)
   refine Zp rfl rfl rfl (Zp rfl rfl rfl (Zp rfl rfl rfl (WL_und rfl rfl rfl (WL_und rfl rfl rfl (Zp rfl rfl rfl ?_)))))
   refine Za rfl (Zt rfl rfl) (Za rfl (Zg rfl) (Ze (Zc (Zv (Yh rfl rfl ?_)))))
   congr 1; rw [Bool.eq_iff_iff]; simp [letB]; omega
  ·intro h2
   try (first | replace h2 := dFa h2 | replace h2 := Zi h2)
   refine Zo rfl rfl rfl (Zd rfl) (Zo rfl rfl rfl (Ex_leq rfl rfl) (Zo rfl rfl rfl (Zd rfl) (Yr rfl rfl rfl ?_ ?_)))
   ·intro h3
    try (first | replace h3 := dTr h3 | replace h3 := Zk h3)
    refine Zo rfl rfl rfl (Zd rfl) (Zo rfl rfl rfl (Ex_leq rfl rfl) (Zo rfl rfl rfl (Zt rfl rfl) (Za rfl (Zz rfl rfl) (Za rfl (Zg rfl) (Ze ?_)))))
    refine Zc (Zv (Yh rfl rfl ?_))
    congr 1; rw [Bool.eq_iff_iff]; simp [letB]; omega
   ·intro h3
    try (first | replace h3 := dFa h3 | replace h3 := Zi h3)
    refine Zp rfl rfl rfl (Zp rfl rfl rfl (Zo rfl rfl rfl (Zz rfl rfl) (Za rfl (Zz rfl rfl) (Za rfl (Zg rfl) (Ze ?_)))))
    refine Zc (Zv (Yh rfl rfl ?_))
    congr 1; rw [Bool.eq_iff_iff]; simp [letB]; omega
 ·intro h1
  try (first | replace h1 := dFa h1 | replace h1 := Zi h1)
  refine Zp rfl rfl rfl (Zp rfl rfl rfl (Za rfl (Zz rfl rfl) (Za rfl (Zd rfl) (Zo rfl rfl rfl (Zd rfl) (Zo rfl rfl rfl (Ex_leq rfl rfl) ?_)))))
  refine Zo rfl rfl rfl (Zd rfl) (Yr rfl rfl rfl ?_ ?_)
  ·intro h4
   try (first | replace h4 := dTr h4 | replace h4 := Zk h4)
   refine Zo rfl rfl rfl (Zd rfl) (Zo rfl rfl rfl (Ex_leq rfl rfl) (Zo rfl rfl rfl (Zt rfl rfl) (Za rfl (Zz rfl rfl) (Za rfl (Zg rfl) (Ze ?_)))))
   refine Zc (Zv (Yh rfl rfl ?_))
   congr 1; rw [Bool.eq_iff_iff]; simp [letB]; omega
  ·intro h4
   try (first | replace h4 := dFa h4 | replace h4 := Zi h4)
   refine Zp rfl rfl rfl (Zp rfl rfl rfl (Zo rfl rfl rfl (Zz rfl rfl) (Za rfl (Zz rfl rfl) (Za rfl (Zg rfl) (Ze ?_)))))
   refine Zc (Zv (Yh rfl rfl ?_))
   congr 1; rw [Bool.eq_iff_iff]; simp [letB]; omega
theorem isDigit_any (c : Int) (w : World) : Pure Tryz.prog 244 #[.int .u8 c] w (.bool (digB c)) := by
 refine opens (args := [.int .u8 c]) Tryz.func244 rfl Tryz.ntmps244 ?_
 refine Zf (Zb (Za rfl (Zg rfl) (Ze (Zc (Zf ?_)))))
 refine Zb (Za rfl (Zd rfl) (Za rfl (Ex_leq rfl rfl) (Za rfl (Zd rfl) (Yr rfl rfl rfl ?_ ?_))))
 ·intro h1
  try (first | replace h1 := dTr h1 | replace h1 := Zk h1)
  refine Zo rfl rfl rfl (Zd rfl) (Zo rfl rfl rfl (Ex_leq rfl rfl) (Za rfl (Zt rfl rfl) (Za rfl (Zg rfl) (Ze (Zc ?_)))))
  refine Zv (Yh rfl rfl ?_)
  congr 1; rw [Bool.eq_iff_iff]; simp [digB]; omega
 ·intro h1
  try (first | replace h1 := dFa h1 | replace h1 := Zi h1)
  refine Zp rfl rfl rfl (Zp rfl rfl rfl (Za rfl (Zz rfl rfl) (Za rfl (Zg rfl) (Ze (Zc ?_)))))
  refine Zv (Yh rfl rfl ?_)
  congr 1; rw [Bool.eq_iff_iff]; simp [digB]; omega
theorem okAt_of {s : ByteArray} {k : Nat} (h : k < s.size) : okAt s k = (letB (s[k].toNat : Int) || (!(k == 0) && digB (s[k].toNat : Int))) := by unfold okAt; rw [byteAt_of h]
theorem name_no0 {s : ByteArray} (h0 : 0 < s.size) (h : letB (s[0].toNat : Int) = false) : isNameB s = false := isNameB_false h0 (by rw [okAt_of h0, h]; rfl)
theorem mustBeName_any (s : ByteArray) (w : World) (hs : strOk s) : PureP Tryz.prog 139 #[.string s] w (isNameB s) := by
 unfold strOk at hs
 refine opens (args := [.string s]) Tryz.func139 rfl Tryz.ntmps139 ?_
 refine Zf (Zb (Za rfl (Zd rfl) (Za rfl (Ex_lenS (tstr rfl) rfl) (Za rfl (Xb rfl rfl) (Za rfl (Zd rfl) ?_)))))
 refine Yr rfl rfl rfl ?_ ?_
 ·intro h1
  try (first | replace h1 := dTr h1 | replace h1 := Zk h1)
  refine Zo rfl rfl rfl (Zd rfl) (Zo rfl rfl rfl (Ex_lenS (tstr rfl) rfl) (Zo rfl rfl rfl (Ex_leq rfl rfl) (Za rfl (Zt rfl rfl) (Yl fn111 rfl rfl (fun w _ => Xe _ w) ?_ ?_))))
  rotate_left
  ·intro o2
   try (first | replace o2 := dFa o2 | replace o2 := Zi o2)
   have hF := isNameB_short (s := s) (by omega)
   refine Ye (Yu ?_)
   exact hF
  intro o2
  try (first | replace o2 := dTr o2 | replace o2 := Zk o2)
  have hlen : 0 < s.size ∧ s.size ≤ 12 := by omega
  refine Ze (Zc (Zf (Zb (Za rfl (Zd rfl) (Za rfl (Ex_indexS (tstr rfl) rfl rfl ?_) ?_)))))
  ·first | omega | (show 0 < s.size; omega)
  refine Xi fn243 rfl rfl (fun w _ => isLetter_any _ w) ?_
  refine Yl fn111 rfl rfl (fun w _ => Xe _ w) ?_ ?_
  rotate_left
  ·intro o3
   try (first | replace o3 := dFa o3 | replace o3 := Zi o3)
   have hF := name_no0 (s := s) (by omega) (by assumption)
   refine Ye (Yu ?_)
   exact hF
  intro o3
  try (first | replace o3 := dTr o3 | replace o3 := Zk o3)
  have hlet : letB (s[0].toNat : Int) = true := by assumption
  refine Ze (Zc (Zf (Zb (Za rfl (Zd rfl) (Za rfl (Ex_lenS (tstr rfl) rfl) ?_)))))
  refine Za rfl (Zd rfl) (Ze (Zc (Zs (Xh (E' := (fun k : Nat => [(0, .string s), (17, .int .i64 (s.size : Nat)), (18, .int .i64 (k : Nat))]) (0)) ⟨rfl, rfl, rfl, trivial⟩ (Yy (X := Nat) (fun k : Nat => [(0, .string s), (17, .int .i64 (s.size : Nat)), (18, .int .i64 (k : Nat))]) _ _ (fun k : Nat => []) (fun k : Nat => Asr.none) (fun k : Nat => k ≤ s.size ∧ ∀ j, j < k → okAt s j = true) (fun k : Nat => s.size - k) (0) (⟨Nat.zero_le _, fun j hj => absurd hj (Nat.not_lt_zero j)⟩) ?_)))))
  intro k hI
  refine Zf (Zb (Za rfl (Xb rfl rfl) (Ze (Zc (Zf ?_)))))
  refine Yi rfl ?_ ?_
  ·intro c1
   try (first | replace c1 := dTr c1 | replace c1 := Zk c1)
   have hk : k < s.size := by omega
   refine Zw (Zc (Zf (Zs (Zf (Zb ?_)))))
   refine Za rfl (Zd rfl) (Za rfl (Zg rfl) (Ze (Zc (Zb (Za rfl (Zd rfl) ?_)))))
   refine Za rfl (Zd rfl) (Za rfl (Ex_indexS (tstr rfl) rfl rfl ?_) ?_)
   ·first | omega | (show 0 < s.size; omega)
   refine Xi fn243 rfl rfl (fun w _ => isLetter_any _ w) ?_
   refine Za rfl (Zd rfl) (Yr rfl rfl rfl ?_ ?_)
   ·intro h4
    try (first | replace h4 := dTr h4 | replace h4 := Zk h4)
    refine Zp rfl rfl rfl (Zp rfl rfl rfl (Zp rfl rfl rfl (Zp rfl rfl rfl (Za rfl (Zt rfl rfl) (Yl fn111 rfl rfl (fun w _ => Xe _ w) ?_ ?_)))))
    rotate_left
    ·intro o5; cases o5
    intro _
    refine Ze (Zx (Zc (Zb ?_)))
    (first | (refine Za rfl (Xa rfl rfl ?_) ?_; omega) | (refine Za rfl (Yp rfl rfl ?_) ?_; omega) | refine Za rfl (Yz rfl rfl) ?_)
    refine Za rfl (Zd rfl) (Ze ?_)
    refine Yn (k + 1) ?_ (⟨hk, okAt_next hI.2 (by rw [okAt_of hk]; by_cases h0 : k = 0 <;> simp_all [digB])⟩) 0 rfl (rfl) ⟨rfl, rfl, rfl, trivial⟩
    omega
   ·intro h4
    try (first | replace h4 := dFa h4 | replace h4 := Zi h4)
    refine Zo rfl rfl rfl (Zd rfl) (Zo rfl rfl rfl (Zd rfl) (Zo rfl rfl rfl (Ex_indexS (tstr rfl) rfl rfl ?_) ?_))
    ·first | omega | (show 0 < s.size; omega)
    refine WL_callYes fn244 rfl rfl rfl rfl (fun w _ => isDigit_any _ w) ?_
    refine Za rfl (Zz rfl rfl) (Yl fn111 rfl rfl (fun w _ => Xe _ w) ?_ ?_)
    rotate_left
    ·intro o6
     try (first | replace o6 := dFa o6 | replace o6 := Zi o6)
     have hF := isNameB_false hk (by rw [okAt_of hk]; simp_all [digB])
     refine Ye (Ye (Ye (Ye (Yu ?_))))
     exact hF
    intro o6
    try (first | replace o6 := dTr o6 | replace o6 := Zk o6)
    refine Ze (Zx (Zc (Zb ?_)))
    (first | (refine Za rfl (Xa rfl rfl ?_) ?_; omega) | (refine Za rfl (Yp rfl rfl ?_) ?_; omega) | refine Za rfl (Yz rfl rfl) ?_)
    refine Za rfl (Zd rfl) (Ze ?_)
    refine Yn (k + 1) ?_ (⟨hk, okAt_next hI.2 (by rw [okAt_of hk]; by_cases h0 : k = 0 <;> simp_all [digB])⟩) 0 rfl (rfl) ⟨rfl, rfl, rfl, trivial⟩
    omega
  ·intro c1
   try (first | replace c1 := dFa c1 | replace c1 := Zi c1)
   refine Yx (Yw (Yo (Yv (PP_end rfl ?_))))
   exact isNameB_true (by omega) (by omega) (fun j hj => hI.2 j (by omega))
 ·intro h1
  try (first | replace h1 := dFa h1 | replace h1 := Zi h1)
  refine Zp rfl rfl rfl (Zp rfl rfl rfl (Zp rfl rfl rfl (Za rfl (Zz rfl rfl) (Yl fn111 rfl rfl (fun w _ => Xe _ w) ?_ ?_))))
  ·intro o7; cases o7
  intro _
  have hF := isNameB_short (s := s) (by omega)
  refine Ye (Yu ?_)
  exact hF
def valB (k : Int) : Bool := decide (k = 1 ∨ k = 2 ∨ k = 3)
theorem isOfValue_any (k : Int) (w : World) : Pure Tryz.prog 246 #[.int .i64 k] w (.bool (valB k)) := by
 refine opens (args := [.int .i64 k]) Tryz.func246 rfl Tryz.ntmps246 ?_
 refine Zf (Zb (Za rfl (Zg rfl) (Ze (Zc (Zf ?_)))))
 refine Zb (Za rfl (Zd rfl) (Za rfl (Xc rfl rfl) (Za rfl (Zd rfl) (Yr rfl rfl rfl ?_ ?_))))
 ·intro h1
  try (first | replace h1 := dTr h1 | replace h1 := Zk h1)
  refine Zp rfl rfl rfl (Zp rfl rfl rfl (Za rfl (Zt rfl rfl) (Za rfl (Zd rfl) (Zp rfl rfl rfl (Zp rfl rfl rfl ?_)))))
  refine Za rfl (Zt rfl rfl) (Za rfl (Zg rfl) (Ze (Zc (Zv (Yh rfl rfl ?_)))))
  congr 1; rw [Bool.eq_iff_iff]; simp [valB]; omega
 ·intro h1
  try (first | replace h1 := dFa h1 | replace h1 := Zi h1)
  refine Zo rfl rfl rfl (Zd rfl) (Zo rfl rfl rfl (Xc rfl rfl) (Za rfl (Zz rfl rfl) (Za rfl (Zd rfl) (Yr rfl rfl rfl ?_ ?_))))
  ·intro h2
   try (first | replace h2 := dTr h2 | replace h2 := Zk h2)
   refine Zp rfl rfl rfl (Zp rfl rfl rfl (Za rfl (Zt rfl rfl) (Za rfl (Zg rfl) (Ze (Zc ?_)))))
   refine Zv (Yh rfl rfl ?_)
   congr 1; rw [Bool.eq_iff_iff]; simp [valB]; omega
  ·intro h2
   try (first | replace h2 := dFa h2 | replace h2 := Zi h2)
   refine Zo rfl rfl rfl (Zd rfl) (Zo rfl rfl rfl (Xc rfl rfl) (Za rfl (Zz rfl rfl) (Za rfl (Zg rfl) (Ze (Zc ?_)))))
   refine Zv (Yh rfl rfl ?_)
   congr 1; rw [Bool.eq_iff_iff]; simp [valB]; omega
def resB (k : Int) : Bool := valB k || decide (k = 0)
theorem isOfResult_any (k : Int) (w : World) : Pure Tryz.prog 319 #[.int .i64 k] w (.bool (resB k)) := by
 refine opens (args := [.int .i64 k]) Tryz.func319 rfl Tryz.ntmps319 ?_
 refine Zf (Zb (Za rfl (Zg rfl) (Ze (Zc (Zf ?_)))))
 refine Zb (Za rfl (Zd rfl) (Xi fn246 rfl rfl (fun w _ => isOfValue_any _ w) ?_))
 refine Za rfl (Zd rfl) (Yr rfl rfl rfl ?_ ?_)
 ·intro h1
  try (first | replace h1 := dTr h1 | replace h1 := Zk h1)
  refine Zp rfl rfl rfl (Zp rfl rfl rfl (Za rfl (Zt rfl rfl) (Za rfl (Zg rfl) (Ze (Zc ?_)))))
  refine Zv (Yh rfl rfl ?_)
  congr 1; rw [Bool.eq_iff_iff]; simp [resB, valB]; omega
 ·intro h1
  try (first | replace h1 := dFa h1 | replace h1 := Zi h1)
  refine Zo rfl rfl rfl (Zd rfl) (Zo rfl rfl rfl (Xc rfl rfl) (Za rfl (Zz rfl rfl) (Za rfl (Zg rfl) (Ze (Zc ?_)))))
  refine Zv (Yh rfl rfl ?_)
  congr 1; rw [Bool.eq_iff_iff]; simp [resB, valB]; omega
def fraB (k : Int) : Bool := valB k || decide (k = 4) || decide (k = 5)
theorem isOfFrame_any (k : Int) (w : World) : Pure Tryz.prog 358 #[.int .i64 k] w (.bool (fraB k)) := by
 refine opens (args := [.int .i64 k]) Tryz.func358 rfl Tryz.ntmps358 ?_
 refine Zf (Zb (Za rfl (Zg rfl) (Ze (Zc (Zf ?_)))))
 refine Zb (Za rfl (Zd rfl) (Xi fn246 rfl rfl (fun w _ => isOfValue_any _ w) ?_))
 refine Za rfl (Zd rfl) (Yr rfl rfl rfl ?_ ?_)
 ·intro h1
  try (first | replace h1 := dTr h1 | replace h1 := Zk h1)
  refine Zp rfl rfl rfl (Zp rfl rfl rfl (Za rfl (Zt rfl rfl) (Za rfl (Zd rfl) (Zp rfl rfl rfl (Zp rfl rfl rfl ?_)))))
  refine Za rfl (Zt rfl rfl) (Za rfl (Zg rfl) (Ze (Zc (Zv (Yh rfl rfl ?_)))))
  congr 1; rw [Bool.eq_iff_iff]; simp [fraB, valB]; omega
 ·intro h1
  try (first | replace h1 := dFa h1 | replace h1 := Zi h1)
  refine Zo rfl rfl rfl (Zd rfl) (Zo rfl rfl rfl (Xc rfl rfl) (Za rfl (Zz rfl rfl) (Za rfl (Zd rfl) (Yr rfl rfl rfl ?_ ?_))))
  ·intro h2
   try (first | replace h2 := dTr h2 | replace h2 := Zk h2)
   refine Zp rfl rfl rfl (Zp rfl rfl rfl (Za rfl (Zt rfl rfl) (Za rfl (Zg rfl) (Ze (Zc ?_)))))
   refine Zv (Yh rfl rfl ?_)
   congr 1; rw [Bool.eq_iff_iff]; simp [fraB, valB]; omega
  ·intro h2
   try (first | replace h2 := dFa h2 | replace h2 := Zi h2)
   refine Zo rfl rfl rfl (Zd rfl) (Zo rfl rfl rfl (Xc rfl rfl) (Za rfl (Zz rfl rfl) (Za rfl (Zg rfl) (Ze (Zc ?_)))))
   refine Zv (Yh rfl rfl ?_)
   congr 1; rw [Bool.eq_iff_iff]; simp [fraB, valB]; omega
/-- A type whose kind may be so. -/
def mayB (B : Int → Bool) (t : Ty) : Bool := B t.kind && (if t.kind = 3 then isNameB t.cls else decide (t.cls = ⟨#[]⟩))
theorem mayB_val (t : Ty) : mayB valB t = isTypeB t false false := by
 rw [Bool.eq_iff_iff]
 unfold mayB isTypeB valB
 by_cases h0 : t.kind = 0
 ·simp [h0]
 by_cases h1 : t.kind = 1
 ·simp [h1]
 by_cases h2 : t.kind = 2
 ·simp [h2]
 by_cases h3 : t.kind = 3
 ·simp [h3]
 ·simp [h0, h1, h2, h3]
theorem mayB_res (t : Ty) : mayB resB t = isTypeB t true false := by
 rw [Bool.eq_iff_iff]
 unfold mayB isTypeB resB valB
 by_cases h0 : t.kind = 0
 ·simp [h0]
 by_cases h1 : t.kind = 1
 ·simp [h1]
 by_cases h2 : t.kind = 2
 ·simp [h2]
 by_cases h3 : t.kind = 3
 ·simp [h3]
 ·simp [h0, h1, h2, h3]
theorem mayB_fra (t : Ty) : mayB fraB t = isTypeB t false true := by
 rw [Bool.eq_iff_iff]
 unfold mayB isTypeB fraB valB
 by_cases h0 : t.kind = 0
 ·simp [h0]
 by_cases h1 : t.kind = 1
 ·simp [h1]
 by_cases h2 : t.kind = 2
 ·simp [h2]
 by_cases h3 : t.kind = 3
 ·simp [h3]
 by_cases h4 : t.kind = 4
 ·simp [h4]
 by_cases h5 : t.kind = 5
 ·simp [h5]
 ·simp [h0, h1, h2, h3, h4, h5]
theorem mustBeType_any (g : Nat) (B : Int → Bool) (hg : IsFn Tryz.prog g) (hB : ∀ k w, Pure Tryz.prog g #[.int .i64 k] w (.bool (B k))) (t : Ty) (w : World) (ht : tyOk t) :
  PureP Tryz.prog 245 #[.agg (tyV t).toArray, .func (.func g) #[] #[]] w (mayB B t) := by
 refine opens (args := [.agg (tyV t).toArray, .func (.func g) #[] #[]]) Tryz.func245 rfl Tryz.ntmps245 ?_
 refine Zf (Zb (WL_box rfl rfl ?_))
 intro b0 hb0
 refine Ze (Zc (Zf (Zb (Za rfl (Zd rfl) (Za rfl (Zh (ff rfl) rfl) ?_)))))
 refine Za rfl (Zj (t1 rfl) rfl (Zl 0 rfl rfl)) (WL_callV hg rfl rfl rfl (fun w _ => hB _ w) ?_)
 refine Yl fn111 rfl rfl (fun w _ => Xe _ w) ?_ ?_
 rotate_left
 ·intro o1
  try (first | replace o1 := dFa o1 | replace o1 := Zi o1)
  refine Ye (Yu ?_)
  simp_all [mayB, eqS]
 intro o1
 try (first | replace o1 := dTr o1 | replace o1 := Zk o1)
 refine Ze (Zc (Zf (Zf (Zb (Za rfl (Zh (ff rfl) rfl) ?_)))))
 refine Za rfl (Zj (t1 rfl) rfl (Zl 0 rfl rfl)) (Za rfl (Xc rfl rfl) (Ze (Zc (Yi rfl ?_ ?_))))
 ·intro c1
  try (first | replace c1 := dTr c1 | replace c1 := Zk c1)
  refine Zf (Zb (Za rfl (Zh (ff rfl) rfl) (Za rfl (Zj (t1 rfl) rfl (Zl 0 rfl rfl)) (Yl fn139 rfl rfl (fun w _ => mustBeName_any _ w ht.2) ?_ ?_))))
  rotate_left
  ·intro o2
   try (first | replace o2 := dFa o2 | replace o2 := Zi o2)
   refine Ye (Ye (Yu ?_))
   simp_all [mayB, eqS]
  intro o2
  try (first | replace o2 := dTr o2 | replace o2 := Zk o2)
  refine Ze (Zc (Zv (Zq (PP_endr rfl ?_))))
  simp_all [mayB, eqS]
 ·intro c1
  try (first | replace c1 := dFa c1 | replace c1 := Zi c1)
  refine Zw (Zc (Zb (Za rfl (Zh (ff rfl) rfl) (Za rfl (Zj (t1 rfl) rfl (Zl 0 rfl rfl)) (Za rfl (Ex_eqlS rfl rfl) ?_)))))
  refine Yl fn111 rfl rfl (fun w _ => Xe _ w) ?_ ?_
  rotate_left
  ·intro o3
   try (first | replace o3 := dFa o3 | replace o3 := Zi o3)
   refine Yu ?_
   simp_all [mayB, eqS]
  intro o3
  try (first | replace o3 := dTr o3 | replace o3 := Zk o3)
  refine Ze (PP_end rfl ?_)
  simp_all [mayB, eqS]
theorem mustBeTypes_any (g : Nat) (B : Int → Bool) (hg : IsFn Tryz.prog g) (hB : ∀ k w, Pure Tryz.prog g #[.int .i64 k] w (.bool (B k))) (v : Value) (l : List Ty) (w : World) (hv : TysAt w v l) :
  PureP Tryz.prog 354 #[v, .func (.func g) #[] #[]] w (l.all (mayB B)) := by
 obtain ⟨p, c, rfl, hl, hr⟩ := hv.parts
 replace hr : Hid _ := hr
 refine opens (args := [.slice p l.length c, .func (.func g) #[] #[]]) Tryz.func354 rfl Tryz.ntmps354 ?_
 refine Zf (Zb (Za rfl (Zd rfl) (Za rfl (Yg (ts rfl) rfl) (Za rfl (Zd rfl) (Ze ?_)))))
 refine Zc (Zs (Xh (E' := (fun k : Nat => [(1, .func (.func g) #[] #[]), (6, .slice p l.length c), (7, .int .i64 (l.length : Nat)), (8, .int .i64 (k : Nat))]) (0)) ⟨rfl, rfl, rfl, rfl, trivial⟩ (Yy (X := Nat) (fun k : Nat => [(1, .func (.func g) #[] #[]), (6, .slice p l.length c), (7, .int .i64 (l.length : Nat)), (8, .int .i64 (k : Nat))]) _ _ (fun k : Nat => []) (fun k : Nat => Asr.none) (fun k : Nat => k ≤ l.length ∧ (l.take k).all (mayB B) = true) (fun k : Nat => l.length - k) (0) (⟨Nat.zero_le _, rfl⟩) ?_)))
 intro k hI
 refine Zf (Zb (Za rfl (Xb rfl rfl) (Ze (Zc (Zf ?_)))))
 refine Yi rfl ?_ ?_
 ·intro c1
  try (first | replace c1 := dTr c1 | replace c1 := Zk c1)
  have hk : k < l.length := by omega
  obtain ⟨b, o, hp, hb, hc⟩ := hr.out k l[k] (List.getElem?_eq_getElem hk)
  subst hp
  refine Zw (Zc (Zf (Zs (Zf (Zb ?_)))))
  refine Za rfl (Xk (ts rfl) rfl rfl ?_) ?_
  ·omega
  refine Za rfl (Ym (tn rfl) rfl (Yt hc hb) rfl) (Xg rfl (tz rfl) ?_)
  intro b0 hb0
  refine Yd (tn rfl) rfl rfl 0 rfl rfl rfl rfl (Ze (Zc (Zb (Za rfl (Yb (tn rfl) rfl 0 rfl rfl) (Za rfl (Zd rfl) ?_)))))
  refine Yl fn245 rfl rfl (fun w _ => mustBeType_any g B hg hB _ w (hv.ok _ (List.getElem_mem hk))) ?_ ?_
  rotate_left
  ·intro o1
   try (first | replace o1 := dFa o1 | replace o1 := Zi o1)
   have hF := all_no hk (f := mayB B) (by assumption)
   refine Ye (Ye (Ye (Ye (Yu ?_))))
   exact hF
  intro o1
  try (first | replace o1 := dTr o1 | replace o1 := Zk o1)
  have hY : mayB B l[k] = true := by assumption
  refine Ze (Zx (Zc (Zb ?_)))
  (first | (refine Za rfl (Xa rfl rfl ?_) ?_; omega) | (refine Za rfl (Yp rfl rfl ?_) ?_; omega) | refine Za rfl (Yz rfl rfl) ?_)
  refine Za rfl (Zd rfl) (Ze ?_)
  refine Yn (k + 1) ?_ (⟨hk, all_snoc hk hI.2 hY⟩) 1 rfl (rfl) ⟨rfl, rfl, rfl, rfl, trivial⟩
  omega
 ·intro c1
  try (first | replace c1 := dFa c1 | replace c1 := Zi c1)
  refine Yx (Yw (Yo (Yv (PP_end rfl ?_))))
  exact all_end (by omega) hI.2
theorem mustBeParams_any (v : Value) (l : List Ty) (w : World) (hv : TysAt w v l) : PureP Tryz.prog 318 #[v] w (decide ((l.length : Int) ≤ 6) && areTypesB l false) := by
 have hv0 := hv
 obtain ⟨p, c, rfl, hl, -⟩ := hv.parts
 refine opens (args := [.slice p l.length c]) Tryz.func318 rfl Tryz.ntmps318 ?_
 refine Zf (Zb (Za rfl (Zd rfl) (Za rfl (Yg (ts rfl) rfl) (Za rfl (Ex_leq rfl rfl) (Yl fn111 rfl rfl (fun w _ => Xe _ w) ?_ ?_)))))
 rotate_left
 ·intro o1
  try (first | replace o1 := dFa o1 | replace o1 := Zi o1)
  refine Ye (Yu ?_)
  first | (simp_all; done) | (simp_all; omega)
 intro o1
 try (first | replace o1 := dTr o1 | replace o1 := Zk o1)
 refine Ze (Zc (Zb (Za rfl (Zd rfl) ?_)))
 refine Yl fn354 rfl rfl (fun w hs => (mustBeTypes_any 246 valB fn246 isOfValue_any _ l w (hv0.mono (lowOf hs))).of_eq (b := areTypesB l false) (by unfold areTypesB; congr 1; funext t; exact mayB_val t)) ?_ ?_
 rotate_left
 ·intro o2
  try (first | replace o2 := dFa o2 | replace o2 := Zi o2)
  refine Yu ?_
  first | (simp_all; done) | (simp_all; omega)
 intro o2
 try (first | replace o2 := dTr o2 | replace o2 := Zk o2)
 refine Ze (PP_end rfl ?_)
 first | (simp_all; done) | (simp_all; omega)
end Go.Proofs.YtpofmnfkdkmieaaGreat
