/- What is proved here: the program's own asking of instructions, handlers and frames (package shape). the program's writer (package wire) writes the bytes that the plain functions name: numbers, names, types, instructions. -/
import Derived.Test.YtpofmnfkdkmieaaGreatQ12
import Derived.Test.YtpofmnfkdkmieaaGreatQ06
set_option linter.unusedVariables false
set_option linter.unusedSimpArgs false
namespace Go.Proofs.YtpofmnfkdkmieaaGreat
open Go.RowKit At E
/-- What an operation has beside itself. -/
def opdB (op : Int) : Int :=
 if op = 1 then 1 else if op = 2 ∨ op = 3 then 2 else if op = 10 ∨ op = 11 ∨ op = 12 ∨ op = 13 then 3 else if op = 15 ∨ op = 25 ∨ op = 26 then 4
 else if op = 16 ∨ op = 17 ∨ op = 18 ∨ op = 19 then 5 else if op = 20 ∨ op = 21 then 6 else 0
theorem operandOf_any (op : Int) (w : World) : Pure Tryz.prog 284 #[.int .i64 op] w (.int .i64 (opdB op)) := by
 refine opens (args := [.int .i64 op]) Tryz.func284 rfl Tryz.ntmps284 ?_
 refine Zf (Zb (Za rfl (Zg rfl) (Ze (Zc (Zf ?_)))))
 refine Zf (Zb (Za rfl (Zd rfl) (Ze (Zc (Zs ?_)))))
 refine Zf (Zb (Za rfl (Xc rfl rfl) (Za rfl (Zg rfl) (Ze (Zc ?_)))))
 refine Yi rfl ?_ ?_
 ·intro c1
  try (first | replace c1 := dTr c1 | replace c1 := Zk c1)
  refine Zf (Zb (Za rfl (Zg rfl) (Ze (Zc (Zv ?_)))))
  refine Zq (Zq (Yh rfl rfl ?_))
  simp_all [opdB]
 ·intro c1
  try (first | replace c1 := dFa c1 | replace c1 := Zi c1)
  refine Zf (Zf (Zb (Za rfl (Xc rfl rfl) (Za rfl (Zg rfl) (Ze ?_)))))
  refine Zc (Yi rfl ?_ ?_)
  ·intro c2
   try (first | replace c2 := dTr c2 | replace c2 := Zk c2)
   refine Zw (Zc (Xq rfl (Zf (Zb (Za rfl (Zg rfl) ?_)))))
   refine Ze (Zc (Zv (Zq (Zq (Yh rfl rfl ?_)))))
   simp_all [opdB]
  ·intro c2
   try (first | replace c2 := dFa c2 | replace c2 := Zi c2)
   refine Zb (Za rfl (Xc rfl rfl) (Za rfl (Zg rfl) (Ze (Zc (Yi rfl ?_ ?_)))))
   ·intro c3
    try (first | replace c3 := dTr c3 | replace c3 := Zk c3)
    refine Zf (Zb (Za rfl (Zg rfl) (Ze (Zc (Zv ?_)))))
    refine Zq (Zq (Yh rfl rfl ?_))
    simp_all [opdB]
   ·intro c3
    try (first | replace c3 := dFa c3 | replace c3 := Zi c3)
    refine Zf (Zf (Zb (Za rfl (Xc rfl rfl) (Za rfl (Zg rfl) (Ze ?_)))))
    refine Zc (Yi rfl ?_ ?_)
    ·intro c4
     try (first | replace c4 := dTr c4 | replace c4 := Zk c4)
     refine Zw (Zc (Xq rfl (Zf (Zb (Za rfl (Zg rfl) ?_)))))
     refine Ze (Zc (Zv (Zq (Zq (Yh rfl rfl ?_)))))
     simp_all [opdB]
    ·intro c4
     try (first | replace c4 := dFa c4 | replace c4 := Zi c4)
     refine Zf (Zb (Za rfl (Xc rfl rfl) (Za rfl (Zg rfl) (Ze (Zc ?_)))))
     refine Yi rfl ?_ ?_
     ·intro c5
      try (first | replace c5 := dTr c5 | replace c5 := Zk c5)
      refine Zw (Zc (Xq rfl (Zf (Zb (Za rfl (Zg rfl) ?_)))))
      refine Ze (Zc (Zv (Zq (Zq (Yh rfl rfl ?_)))))
      simp_all [opdB]
     ·intro c5
      try (first | replace c5 := dFa c5 | replace c5 := Zi c5)
      refine Zf (Zb (Za rfl (Xc rfl rfl) (Za rfl (Zg rfl) (Ze (Zc ?_)))))
      refine Yi rfl ?_ ?_
      ·intro c6
       try (first | replace c6 := dTr c6 | replace c6 := Zk c6)
       refine Zw (Zc (Xq rfl (Zf (Zb (Za rfl (Zg rfl) ?_)))))
       refine Ze (Zc (Zv (Zq (Zq (Yh rfl rfl ?_)))))
       simp_all [opdB]
      ·intro c6
       try (first | replace c6 := dFa c6 | replace c6 := Zi c6)
       refine Zb (Za rfl (Xc rfl rfl) (Za rfl (Zg rfl) (Ze (Zc (Yi rfl ?_ ?_)))))
       ·intro c7
        try (first | replace c7 := dTr c7 | replace c7 := Zk c7)
        refine Zf (Zb (Za rfl (Zg rfl) (Ze (Zc (Zv ?_)))))
        refine Zq (Zq (Yh rfl rfl ?_))
        simp_all [opdB]
       ·intro c7
        try (first | replace c7 := dFa c7 | replace c7 := Zi c7)
        refine Zf (Zf (Zb (Za rfl (Xc rfl rfl) (Za rfl (Zg rfl) (Ze ?_)))))
        refine Zc (Yi rfl ?_ ?_)
        ·intro c8
         try (first | replace c8 := dTr c8 | replace c8 := Zk c8)
         refine Zw (Zc (Xq rfl (Zf (Zb (Za rfl (Zg rfl) ?_)))))
         refine Ze (Zc (Zv (Zq (Zq (Yh rfl rfl ?_)))))
         simp_all [opdB]
        ·intro c8
         try (first | replace c8 := dFa c8 | replace c8 := Zi c8)
         refine Zf (Zb (Za rfl (Xc rfl rfl) (Za rfl (Zg rfl) (Ze (Zc ?_)))))
         refine Yi rfl ?_ ?_
         ·intro c9
          try (first | replace c9 := dTr c9 | replace c9 := Zk c9)
          refine Zw (Zc (Xq rfl (Zf (Zb (Za rfl (Zg rfl) ?_)))))
          refine Ze (Zc (Zv (Zq (Zq (Yh rfl rfl ?_)))))
          simp_all [opdB]
         ·intro c9
          try (first | replace c9 := dFa c9 | replace c9 := Zi c9)
          refine Zb (Za rfl (Xc rfl rfl) (Za rfl (Zg rfl) (Ze (Zc (Yi rfl ?_ ?_)))))
          ·intro c10
           try (first | replace c10 := dTr c10 | replace c10 := Zk c10)
           refine Zf (Zb (Za rfl (Zg rfl) (Ze (Zc (Zv ?_)))))
           refine Zq (Zq (Yh rfl rfl ?_))
           simp_all [opdB]
          ·intro c10
           try (first | replace c10 := dFa c10 | replace c10 := Zi c10)
           refine Zf (Zf (Zb (Za rfl (Xc rfl rfl) (Za rfl (Zg rfl) (Ze ?_)))))
           refine Zc (Yi rfl ?_ ?_)
           ·intro c11
            try (first | replace c11 := dTr c11 | replace c11 := Zk c11)
            refine Zw (Zc (Xq rfl (Zf (Zb (Za rfl (Zg rfl) ?_)))))
            refine Ze (Zc (Zv (Zq (Zq (Yh rfl rfl ?_)))))
            simp_all [opdB]
           ·intro c11
            try (first | replace c11 := dFa c11 | replace c11 := Zi c11)
            refine Zf (Zb (Za rfl (Xc rfl rfl) (Za rfl (Zg rfl) (Ze (Zc ?_)))))
            refine Yi rfl ?_ ?_
            ·intro c12
             try (first | replace c12 := dTr c12 | replace c12 := Zk c12)
             refine Zw (Zc (Xq rfl (Zf (Zb (Za rfl (Zg rfl) ?_)))))
             refine Ze (Zc (Zv (Zq (Zq (Yh rfl rfl ?_)))))
             simp_all [opdB]
            ·intro c12
             try (first | replace c12 := dFa c12 | replace c12 := Zi c12)
             refine Zf (Zb (Za rfl (Xc rfl rfl) (Za rfl (Zg rfl) (Ze (Zc ?_)))))
             refine Yi rfl ?_ ?_
             ·intro c13
              try (first | replace c13 := dTr c13 | replace c13 := Zk c13)
              refine Zw (Zc (Xq rfl (Zf (Zb (Za rfl (Zg rfl) ?_)))))
              refine Ze (Zc (Zv (Zq (Zq (Yh rfl rfl ?_)))))
              simp_all [opdB]
             ·intro c13
              try (first | replace c13 := dFa c13 | replace c13 := Zi c13)
              refine Zb (Za rfl (Xc rfl rfl) (Za rfl (Zg rfl) (Ze (Zc (Yi rfl ?_ ?_)))))
              ·intro c14
               try (first | replace c14 := dTr c14 | replace c14 := Zk c14)
               refine Zf (Zb (Za rfl (Zg rfl) (Ze (Zc (Zv ?_)))))
               refine Zq (Zq (Yh rfl rfl ?_))
               simp_all [opdB]
              ·intro c14
               try (first | replace c14 := dFa c14 | replace c14 := Zi c14)
               refine Zf (Zf (Zb (Za rfl (Xc rfl rfl) (Za rfl (Zg rfl) (Ze ?_)))))
               refine Zc (Yi rfl ?_ ?_)
               ·intro c15
                try (first | replace c15 := dTr c15 | replace c15 := Zk c15)
                refine Zw (Zc (Xq rfl (Zf (Zb (Za rfl (Zg rfl) ?_)))))
                refine Ze (Zc (Zv (Zq (Zq (Yh rfl rfl ?_)))))
                simp_all [opdB]
               ·intro c15
                try (first | replace c15 := dFa c15 | replace c15 := Zi c15)
                refine Zb (Za rfl (Xc rfl rfl) (Za rfl (Zg rfl) (Ze (Zc (Yi rfl ?_ ?_)))))
                ·intro c16
                 try (first | replace c16 := dTr c16 | replace c16 := Zk c16)
                 refine Zf (Zb (Za rfl (Zg rfl) (Ze (Zc (Zv ?_)))))
                 refine Zq (Zq (Yh rfl rfl ?_))
                 simp_all [opdB]
                ·intro c16
                 try (first | replace c16 := dFa c16 | replace c16 := Zi c16)
                 refine Zw (Zx (Zc (Zf (Zb (Za rfl (Zg rfl) ?_)))))
                 refine Ze (Zc (Zv (Yh rfl rfl ?_)))
                 simp_all [opdB]
theorem isPlace_any (x : Int) (m : Me) (pv hv fv : Value) (p : Option Addr) (c : Nat) (w : World) : Pure Tryz.prog 357 #[.int .i64 x, .agg (meV m pv (.slice p m.code.length c) hv fv).toArray] w (.bool (decide (0 ≤ x) && decide (x < (m.code.length : Int)))) := by
 refine opens (args := [.int .i64 x, .agg (meV m pv (.slice p m.code.length c) hv fv).toArray]) Tryz.func357 rfl Tryz.ntmps357 ?_
 refine Zf (Zb (WL_box rfl rfl ?_))
 intro b0 hb0
 refine Za rfl (Zg rfl) (Ze (Zc (Zf (Zb (Za rfl (Zd rfl) ?_)))))
 refine Za rfl (Ex_leq rfl rfl) (Za rfl (Zd rfl) (Yr rfl rfl rfl ?_ ?_))
 ·intro h1
  try (first | replace h1 := dTr h1 | replace h1 := Zk h1)
  refine Zo rfl rfl rfl (Zd rfl) (Zo rfl rfl rfl (Zh (ff rfl) rfl) (Zo rfl rfl rfl (Zj (t1 rfl) rfl (Zl 0 rfl rfl)) (Zo rfl rfl rfl (Yg (ts rfl) rfl) (Zo rfl rfl rfl (Xb rfl rfl) (Za rfl (Zt rfl rfl) ?_)))))
  refine Za rfl (Zg rfl) (Ze (Zc (Zv (Yh rfl rfl ?_))))
  first | (simp_all; done) | (simp_all; omega)
 ·intro h1
  try (first | replace h1 := dFa h1 | replace h1 := Zi h1)
  refine Zp rfl rfl rfl (Zp rfl rfl rfl (Zp rfl rfl rfl (Zp rfl rfl rfl (Zp rfl rfl rfl (Za rfl (Zz rfl rfl) ?_)))))
  refine Za rfl (Zg rfl) (Ze (Zc (Zv (Yh rfl rfl ?_))))
  first | (simp_all; done) | (simp_all; omega)
theorem neededLocals_any (m : Me) (p : Option Addr) (c : Nat) (cv hv fv : Value) (w : World) (hl : m.params.length ≤ 1048576) : Pure Tryz.prog 320 #[.agg (meV m (.slice p m.params.length c) cv hv fv).toArray] w (.int .i64 (leastB m)) := by
 refine opens (args := [.agg (meV m (.slice p m.params.length c) cv hv fv).toArray]) Tryz.func320 rfl Tryz.ntmps320 ?_
 refine Zf (Zb (WL_box rfl rfl ?_))
 intro b0 hb0
 refine Za rfl (Zg rfl) (Ze (Zc (Zf (Zf (Zb ?_)))))
 refine Za rfl (Zh (ff rfl) rfl) (Za rfl (Zj (t1 rfl) rfl (Zl 0 rfl rfl)) (Ze (Zc (Yi rfl ?_ ?_))))
 ·intro c1
  try (first | replace c1 := dTr c1 | replace c1 := Zk c1)
  refine Zf (Zb (Za rfl (Zh (ff rfl) rfl) (Za rfl (Zj (t1 rfl) rfl (Zl 0 rfl rfl)) (Za rfl (Yg (ts rfl) rfl) (Za rfl (Zg rfl) ?_)))))
  refine Ze (Zc (Zv (Zq (Yh rfl rfl ?_))))
  simp_all [leastB]
 ·intro c1
  try (first | replace c1 := dFa c1 | replace c1 := Zi c1)
  refine Zw (Zc (Zf (Zb (Za rfl (Zh (ff rfl) rfl) (Za rfl (Zj (t1 rfl) rfl (Zl 0 rfl rfl)) ?_)))))
  refine Za rfl (Yg (ts rfl) rfl) ?_
  (first | (refine Za rfl (Xa rfl rfl ?_) ?_; omega) | (refine Za rfl (Yp rfl rfl ?_) ?_; omega) | refine Za rfl (Yz rfl rfl) ?_)
  refine Za rfl (Zg rfl) (Ze (Zc (Zv (Yh rfl rfl ?_))))
  simp_all [leastB]
def numB (i : Ins) (locals : Int) (len : Nat) : Bool :=
 if opdB i.op = 1 then true else if opdB i.op = 2 then decide (0 ≤ i.n) && decide (i.n < locals) else if opdB i.op = 3 then decide (0 ≤ i.n) && decide (i.n < (len : Int)) else decide (i.n = 0)
def mtT (t : Ty) : Bool := decide (t.kind = 0) && decide (t.cls = ⟨#[]⟩)
def refB (i : Ins) : Bool :=
 if opdB i.op = 4 then isNameB i.ref.cls && (decide (i.ref.name = ⟨#[]⟩) && decide ((i.ref.params.length : Int) = 0) && mtT i.ref.ty)
 else if opdB i.op = 5 then isNameB i.ref.cls && isNameB i.ref.name && decide ((i.ref.params.length : Int) = 0) && isTypeB i.ref.ty false false
 else if opdB i.op = 6 then isNameB i.ref.cls && isNameB i.ref.name && (decide ((i.ref.params.length : Int) ≤ 6) && areTypesB i.ref.params false) && isTypeB i.ref.ty true false
 else decide (i.ref.cls = ⟨#[]⟩) && decide (i.ref.name = ⟨#[]⟩) && decide ((i.ref.params.length : Int) = 0) && mtT i.ref.ty
theorem mustHaveNumber_any (i : Ins) (qv : Value) (m : Me) (pv hv fv : Value) (p : Option Addr) (c : Nat) (w : World) :
  PureP Tryz.prog 355 #[.agg (insV i qv).toArray, .agg (meV m pv (.slice p m.code.length c) hv fv).toArray] w (numB i m.locals m.code.length) := by
 refine opens (args := [.agg (insV i qv).toArray, .agg (meV m pv (.slice p m.code.length c) hv fv).toArray]) Tryz.func355 rfl Tryz.ntmps355 ?_
 refine Zf (Zb (WL_box rfl rfl ?_))
 intro b0 hb0
 refine WL_box rfl rfl ?_
 intro b1 hb1
 refine Ze (Zc (Zf (Zb (Za rfl (Zh (ff rfl) rfl) (Za rfl (Zj (t1 rfl) rfl (Zl 1 rfl rfl)) ?_)))))
 refine Xi fn284 rfl rfl (fun w _ => operandOf_any _ w) ?_
 refine Ze (Zc (Zs (Zf (Zb (Za rfl (Xc rfl rfl) ?_)))))
 refine Za rfl (Zg rfl) (Ze (Zc (Yi rfl ?_ ?_)))
 ·intro c1
  try (first | replace c1 := dTr c1 | replace c1 := Zk c1)
  refine Zw (Zx (PP_end rfl ?_))
  first | (simp_all [numB]; done) | (simp_all [numB]; omega)
 ·intro c1
  try (first | replace c1 := dFa c1 | replace c1 := Zi c1)
  refine Zf (Zb (Za rfl (Xc rfl rfl) (Za rfl (Zg rfl) (Ze (Zc ?_)))))
  refine Yi rfl ?_ ?_
  ·intro c2
   try (first | replace c2 := dTr c2 | replace c2 := Zk c2)
   refine Zb (Za rfl (Zh (ff rfl) rfl) (Za rfl (Zj (t1 rfl) rfl (Zl 1 rfl rfl)) (Za rfl (Ex_leq rfl rfl) (Za rfl (Zd rfl) (Yr rfl rfl rfl ?_ ?_)))))
   ·intro h1
    try (first | replace h1 := dTr h1 | replace h1 := Zk h1)
    refine Zo rfl rfl rfl (Zh (ff rfl) rfl) (Zo rfl rfl rfl (Zj (t1 rfl) rfl (Zl 1 rfl rfl)) (Zo rfl rfl rfl (Zh (ff rfl) rfl) (Zo rfl rfl rfl (Zj (t1 rfl) rfl (Zl 0 rfl rfl)) (Zo rfl rfl rfl (Xb rfl rfl) (Za rfl (Zt rfl rfl) ?_)))))
    refine Yl fn111 rfl rfl (fun w _ => Xe _ w) ?_ ?_
    rotate_left
    ·intro o2
     try (first | replace o2 := dFa o2 | replace o2 := Zi o2)
     refine Ye (Yu ?_)
     first | (simp_all [numB]; done) | (simp_all [numB]; omega)
    intro o2
    try (first | replace o2 := dTr o2 | replace o2 := Zk o2)
    refine Ze (Zx (PP_end rfl ?_))
    first | (simp_all [numB]; done) | (simp_all [numB]; omega)
   ·intro h1
    try (first | replace h1 := dFa h1 | replace h1 := Zi h1)
    refine Zp rfl rfl rfl (Zp rfl rfl rfl (Zp rfl rfl rfl (Zp rfl rfl rfl (Zp rfl rfl rfl (Za rfl (Zz rfl rfl) ?_)))))
    refine Yl fn111 rfl rfl (fun w _ => Xe _ w) ?_ ?_
    ·intro o3; cases o3
    intro _
    refine Ye (Yu ?_)
    first | (simp_all [numB]; done) | (simp_all [numB]; omega)
  ·intro c2
   try (first | replace c2 := dFa c2 | replace c2 := Zi c2)
   refine Zf (Zb (Za rfl (Xc rfl rfl) (Za rfl (Zg rfl) (Ze (Zc ?_)))))
   refine Yi rfl ?_ ?_
   ·intro c3
    try (first | replace c3 := dTr c3 | replace c3 := Zk c3)
    refine Zb (Za rfl (Zh (ff rfl) rfl) (Za rfl (Zj (t1 rfl) rfl (Zl 1 rfl rfl)) (Za rfl (Yb (tn rfl) rfl 0 rfl rfl) (Xi fn357 rfl rfl (fun w _ => isPlace_any _ m _ _ _ _ _ w) ?_))))
    refine Yl fn111 rfl rfl (fun w _ => Xe _ w) ?_ ?_
    rotate_left
    ·intro o4
     try (first | replace o4 := dFa o4 | replace o4 := Zi o4)
     refine Ye (Yu ?_)
     first | (simp_all [numB]; done) | (simp_all [numB]; omega)
    intro o4
    try (first | replace o4 := dTr o4 | replace o4 := Zk o4)
    refine Ze (Zx (PP_end rfl ?_))
    first | (simp_all [numB]; done) | (simp_all [numB]; omega)
   ·intro c3
    try (first | replace c3 := dFa c3 | replace c3 := Zi c3)
    refine Zb (Za rfl (Zh (ff rfl) rfl) (Za rfl (Zj (t1 rfl) rfl (Zl 1 rfl rfl)) (Za rfl (Xc rfl rfl) (Yl fn111 rfl rfl (fun w _ => Xe _ w) ?_ ?_))))
    rotate_left
    ·intro o5
     try (first | replace o5 := dFa o5 | replace o5 := Zi o5)
     refine Ye (Yu ?_)
     first | (simp_all [numB]; done) | (simp_all [numB]; omega)
    intro o5
    try (first | replace o5 := dTr o5 | replace o5 := Zk o5)
    refine Ze (Zx (PP_end rfl ?_))
    first | (simp_all [numB]; done) | (simp_all [numB]; omega)
set_option maxHeartbeats 1000000 in
theorem mustHaveRef_any (i : Ins) (pv : Value) (w : World) (hp : TysAt w pv i.ref.params) (hi : insOk i) : PureP Tryz.prog 356 #[.agg (insV i pv).toArray] w (refB i) := by
 have hp0 := hp
 obtain ⟨p, c, rfl, hl, -⟩ := hp.is
 replace hp : Hid _ := hp
 refine opens (args := [.agg (insV i (.slice p i.ref.params.length c)).toArray]) Tryz.func356 rfl Tryz.ntmps356 ?_
 refine Zf (Zb (WL_box rfl rfl ?_))
 intro b0 hb0
 refine Ze (Zc (Zf (Zb (Za rfl (Zh (ff rfl) rfl) (Za rfl (Yb (tn rfl) rfl 0 rfl rfl) ?_)))))
 refine Xg rfl (tz rfl) ?_
 intro b1 hb1
 refine Yd (tn rfl) rfl rfl 0 rfl rfl rfl rfl (Ze (Zc (Zf (Zb (Za rfl (Zh (ff rfl) rfl) ?_)))))
 refine Za rfl (Zj (t1 rfl) rfl (Zl 1 rfl rfl)) (Xi fn284 rfl rfl (fun w _ => operandOf_any _ w) ?_)
 refine Ze (Zc (Zs (Zf (Zb (Za rfl (Xc rfl rfl) ?_)))))
 refine Za rfl (Zg rfl) (Ze (Zc (Yi rfl ?_ ?_)))
 ·intro c1
  try (first | replace c1 := dTr c1 | replace c1 := Zk c1)
  refine Zf (Zb (Za rfl (Zh (ff rfl) rfl) (Za rfl (Zj (t1 rfl) rfl (Zl 0 rfl rfl)) (Yl fn139 rfl rfl (fun w _ => mustBeName_any _ w hi.2.2.1) ?_ ?_))))
  rotate_left
  ·intro o1
   try (first | replace o1 := dFa o1 | replace o1 := Zi o1)
   refine Ye (Ye (Yu ?_))
   clear hp0; first | (simp_all [refB, mtT, eqS]; done) | (simp_all [refB, mtT, eqS]; omega)
  intro o1
  try (first | replace o1 := dTr o1 | replace o1 := Zk o1)
  refine Ze (Zc (Zb (Za rfl (Zh (ff rfl) rfl) (Za rfl (Zj (t1 rfl) rfl (Zl 0 rfl rfl)) (Za rfl (Ex_eqlS rfl rfl) ?_)))))
  refine Za rfl (Zd rfl) (Yr rfl rfl rfl ?_ ?_)
  ·intro h2
   try (first | replace h2 := dTr h2 | replace h2 := Zk h2)
   refine Zo rfl rfl rfl (Zh (ff rfl) rfl) (Zo rfl rfl rfl (Zj (t1 rfl) rfl (Zl 0 rfl rfl)) (Zo rfl rfl rfl (Yg (ts rfl) rfl) (Zo rfl rfl rfl (Xc rfl rfl) (Za rfl (Zt rfl rfl) (Za rfl (Zd rfl) ?_)))))
   refine Yr rfl rfl rfl ?_ ?_
   ·intro h3
    try (first | replace h3 := dTr h3 | replace h3 := Zk h3)
    refine Zo rfl rfl rfl (Zh (ff rfl) rfl) (Zo rfl rfl rfl (Yb (tn rfl) rfl 0 rfl rfl) (Zo rfl rfl rfl (Xs (tb rfl) rfl rfl) (Zo rfl rfl rfl (Ex_eqlTy rfl rfl) (Za rfl (Zt rfl rfl) (Yl fn111 rfl rfl (fun w _ => Xe _ w) ?_ ?_)))))
    rotate_left
    ·intro o4
     try (first | replace o4 := dFa o4 | replace o4 := Zi o4)
     refine Ye (Yu ?_)
     clear hp0; first | (simp_all [refB, mtT, eqS]; done) | (simp_all [refB, mtT, eqS]; omega)
    intro o4
    try (first | replace o4 := dTr o4 | replace o4 := Zk o4)
    refine Ze (Zx (PP_end rfl ?_))
    clear hp0; first | (simp_all [refB, mtT, eqS]; done) | (simp_all [refB, mtT, eqS]; omega)
   ·intro h3
    try (first | replace h3 := dFa h3 | replace h3 := Zi h3)
    refine Zp rfl rfl rfl (Zp rfl rfl rfl (Zp rfl rfl rfl (Zp rfl rfl rfl (Za rfl (Zz rfl rfl) (Yl fn111 rfl rfl (fun w _ => Xe _ w) ?_ ?_)))))
    ·intro o5; cases o5
    intro _
    refine Ye (Yu ?_)
    clear hp0; first | (simp_all [refB, mtT, eqS]; done) | (simp_all [refB, mtT, eqS]; omega)
  ·intro h2
   try (first | replace h2 := dFa h2 | replace h2 := Zi h2)
   refine Zp rfl rfl rfl (Zp rfl rfl rfl (Zp rfl rfl rfl (Zp rfl rfl rfl (Za rfl (Zz rfl rfl) (Za rfl (Zd rfl) ?_)))))
   refine Zp rfl rfl rfl (Zp rfl rfl rfl (Zp rfl rfl rfl (Zp rfl rfl rfl (Za rfl (Zz rfl rfl) (Yl fn111 rfl rfl (fun w _ => Xe _ w) ?_ ?_)))))
   ·intro o6; cases o6
   intro _
   refine Ye (Yu ?_)
   clear hp0; first | (simp_all [refB, mtT, eqS]; done) | (simp_all [refB, mtT, eqS]; omega)
 ·intro c1
  try (first | replace c1 := dFa c1 | replace c1 := Zi c1)
  refine Zf (Zb (Za rfl (Xc rfl rfl) (Za rfl (Zg rfl) (Ze (Zc ?_)))))
  refine Yi rfl ?_ ?_
  ·intro c2
   try (first | replace c2 := dTr c2 | replace c2 := Zk c2)
   refine Zf (Zb (Za rfl (Zh (ff rfl) rfl) (Za rfl (Zj (t1 rfl) rfl (Zl 0 rfl rfl)) (Yl fn139 rfl rfl (fun w _ => mustBeName_any _ w hi.2.2.1) ?_ ?_))))
   rotate_left
   ·intro o7
    try (first | replace o7 := dFa o7 | replace o7 := Zi o7)
    refine Ye (Ye (Yu ?_))
    clear hp0; first | (simp_all [refB, mtT, eqS]; done) | (simp_all [refB, mtT, eqS]; omega)
   intro o7
   try (first | replace o7 := dTr o7 | replace o7 := Zk o7)
   refine Ze (Zc (Zf (Zb (Za rfl (Zh (ff rfl) rfl) (Za rfl (Zj (t1 rfl) rfl (Zl 0 rfl rfl)) ?_)))))
   refine Yl fn139 rfl rfl (fun w _ => mustBeName_any _ w hi.2.2.2.1) ?_ ?_
   rotate_left
   ·intro o8
    try (first | replace o8 := dFa o8 | replace o8 := Zi o8)
    refine Ye (Ye (Yu ?_))
    clear hp0; first | (simp_all [refB, mtT, eqS]; done) | (simp_all [refB, mtT, eqS]; omega)
   intro o8
   try (first | replace o8 := dTr o8 | replace o8 := Zk o8)
   refine Ze (Zc (Zf (Zb (Za rfl (Zh (ff rfl) rfl) (Za rfl (Zj (t1 rfl) rfl (Zl 0 rfl rfl)) ?_)))))
   refine Za rfl (Yg (ts rfl) rfl) (Za rfl (Xc rfl rfl) (Yl fn111 rfl rfl (fun w _ => Xe _ w) ?_ ?_))
   rotate_left
   ·intro o9
    try (first | replace o9 := dFa o9 | replace o9 := Zi o9)
    refine Ye (Ye (Yu ?_))
    clear hp0; first | (simp_all [refB, mtT, eqS]; done) | (simp_all [refB, mtT, eqS]; omega)
   intro o9
   try (first | replace o9 := dTr o9 | replace o9 := Zk o9)
   refine Ze (Zc (Zb (Za rfl (Zh (ff rfl) rfl) (Za rfl (Yb (tn rfl) rfl 0 rfl rfl) (Yl fn245 rfl rfl (fun w _ => (mustBeType_any 246 valB fn246 isOfValue_any i.ref.ty w hi.2.2.2.2).of_eq (mayB_val _)) ?_ ?_)))))
   rotate_left
   ·intro o10
    try (first | replace o10 := dFa o10 | replace o10 := Zi o10)
    refine Ye (Yu ?_)
    clear hp0; first | (simp_all [refB, mtT, eqS]; done) | (simp_all [refB, mtT, eqS]; omega)
   intro o10
   try (first | replace o10 := dTr o10 | replace o10 := Zk o10)
   refine Ze (Zx (PP_end rfl ?_))
   clear hp0; first | (simp_all [refB, mtT, eqS]; done) | (simp_all [refB, mtT, eqS]; omega)
  ·intro c2
   try (first | replace c2 := dFa c2 | replace c2 := Zi c2)
   refine Zf (Zb (Za rfl (Xc rfl rfl) (Za rfl (Zg rfl) (Ze (Zc ?_)))))
   refine Yi rfl ?_ ?_
   ·intro c3
    try (first | replace c3 := dTr c3 | replace c3 := Zk c3)
    refine Zf (Zb (Za rfl (Zh (ff rfl) rfl) (Za rfl (Zj (t1 rfl) rfl (Zl 0 rfl rfl)) (Yl fn139 rfl rfl (fun w _ => mustBeName_any _ w hi.2.2.1) ?_ ?_))))
    rotate_left
    ·intro o11
     try (first | replace o11 := dFa o11 | replace o11 := Zi o11)
     refine Ye (Ye (Yu ?_))
     clear hp0; first | (simp_all [refB, mtT, eqS]; done) | (simp_all [refB, mtT, eqS]; omega)
    intro o11
    try (first | replace o11 := dTr o11 | replace o11 := Zk o11)
    refine Ze (Zc (Zf (Zb (Za rfl (Zh (ff rfl) rfl) (Za rfl (Zj (t1 rfl) rfl (Zl 0 rfl rfl)) ?_)))))
    refine Yl fn139 rfl rfl (fun w _ => mustBeName_any _ w hi.2.2.2.1) ?_ ?_
    rotate_left
    ·intro o12
     try (first | replace o12 := dFa o12 | replace o12 := Zi o12)
     refine Ye (Ye (Yu ?_))
     clear hp0; first | (simp_all [refB, mtT, eqS]; done) | (simp_all [refB, mtT, eqS]; omega)
    intro o12
    try (first | replace o12 := dTr o12 | replace o12 := Zk o12)
    refine Ze (Zc (Zf (Zb (Za rfl (Zh (ff rfl) rfl) (Za rfl (Zj (t1 rfl) rfl (Zl 0 rfl rfl)) ?_)))))
    refine Yl fn318 rfl rfl (fun w hs => mustBeParams_any _ i.ref.params w (TysAt.mono hp0 (lowOf hs))) ?_ ?_
    rotate_left
    ·intro o13
     try (first | replace o13 := dFa o13 | replace o13 := Zi o13)
     refine Ye (Ye (Yu ?_))
     clear hp0; first | (simp_all [refB, mtT, eqS]; done) | (simp_all [refB, mtT, eqS]; omega)
    intro o13
    try (first | replace o13 := dTr o13 | replace o13 := Zk o13)
    refine Ze (Zc (Zb (Za rfl (Zh (ff rfl) rfl) (Za rfl (Yb (tn rfl) rfl 0 rfl rfl) (Yl fn245 rfl rfl (fun w _ => (mustBeType_any 319 resB fn319 isOfResult_any i.ref.ty w hi.2.2.2.2).of_eq (mayB_res _)) ?_ ?_)))))
    rotate_left
    ·intro o14
     try (first | replace o14 := dFa o14 | replace o14 := Zi o14)
     refine Ye (Yu ?_)
     clear hp0; first | (simp_all [refB, mtT, eqS]; done) | (simp_all [refB, mtT, eqS]; omega)
    intro o14
    try (first | replace o14 := dTr o14 | replace o14 := Zk o14)
    refine Ze (Zx (PP_end rfl ?_))
    clear hp0; first | (simp_all [refB, mtT, eqS]; done) | (simp_all [refB, mtT, eqS]; omega)
   ·intro c3
    try (first | replace c3 := dFa c3 | replace c3 := Zi c3)
    refine Zb (Za rfl (Zh (ff rfl) rfl) (Za rfl (Zj (t1 rfl) rfl (Zl 0 rfl rfl)) (Za rfl (Ex_eqlS rfl rfl) (Za rfl (Zd rfl) (Yr rfl rfl rfl ?_ ?_)))))
    ·intro h15
     try (first | replace h15 := dTr h15 | replace h15 := Zk h15)
     refine Zo rfl rfl rfl (Zh (ff rfl) rfl) (Zo rfl rfl rfl (Zj (t1 rfl) rfl (Zl 0 rfl rfl)) (Zo rfl rfl rfl (Ex_eqlS rfl rfl) (Za rfl (Zt rfl rfl) (Za rfl (Zd rfl) (Yr rfl rfl rfl ?_ ?_)))))
     ·intro h16
      try (first | replace h16 := dTr h16 | replace h16 := Zk h16)
      refine Zo rfl rfl rfl (Zh (ff rfl) rfl) (Zo rfl rfl rfl (Zj (t1 rfl) rfl (Zl 0 rfl rfl)) (Zo rfl rfl rfl (Yg (ts rfl) rfl) (Zo rfl rfl rfl (Xc rfl rfl) (Za rfl (Zt rfl rfl) (Za rfl (Zd rfl) ?_)))))
      refine Yr rfl rfl rfl ?_ ?_
      ·intro h17
       try (first | replace h17 := dTr h17 | replace h17 := Zk h17)
       refine Zo rfl rfl rfl (Zh (ff rfl) rfl) (Zo rfl rfl rfl (Yb (tn rfl) rfl 0 rfl rfl) (Zo rfl rfl rfl (Xs (tb rfl) rfl rfl) (Zo rfl rfl rfl (Ex_eqlTy rfl rfl) (Za rfl (Zt rfl rfl) (Yl fn111 rfl rfl (fun w _ => Xe _ w) ?_ ?_)))))
       rotate_left
       ·intro o18
        try (first | replace o18 := dFa o18 | replace o18 := Zi o18)
        refine Ye (Yu ?_)
        clear hp0; first | (simp_all [refB, mtT, eqS]; done) | (simp_all [refB, mtT, eqS]; omega)
       intro o18
       try (first | replace o18 := dTr o18 | replace o18 := Zk o18)
       refine Ze (Zx (PP_end rfl ?_))
       clear hp0; first | (simp_all [refB, mtT, eqS]; done) | (simp_all [refB, mtT, eqS]; omega)
      ·intro h17
       try (first | replace h17 := dFa h17 | replace h17 := Zi h17)
       refine Zp rfl rfl rfl (Zp rfl rfl rfl (Zp rfl rfl rfl (Zp rfl rfl rfl (Za rfl (Zz rfl rfl) (Yl fn111 rfl rfl (fun w _ => Xe _ w) ?_ ?_)))))
       ·intro o19; cases o19
       intro _
       refine Ye (Yu ?_)
       clear hp0; first | (simp_all [refB, mtT, eqS]; done) | (simp_all [refB, mtT, eqS]; omega)
     ·intro h16
      try (first | replace h16 := dFa h16 | replace h16 := Zi h16)
      refine Zp rfl rfl rfl (Zp rfl rfl rfl (Zp rfl rfl rfl (Zp rfl rfl rfl (Za rfl (Zz rfl rfl) (Za rfl (Zd rfl) ?_)))))
      refine Zp rfl rfl rfl (Zp rfl rfl rfl (Zp rfl rfl rfl (Zp rfl rfl rfl (Za rfl (Zz rfl rfl) (Yl fn111 rfl rfl (fun w _ => Xe _ w) ?_ ?_)))))
      ·intro o20; cases o20
      intro _
      refine Ye (Yu ?_)
      clear hp0; first | (simp_all [refB, mtT, eqS]; done) | (simp_all [refB, mtT, eqS]; omega)
    ·intro h15
     try (first | replace h15 := dFa h15 | replace h15 := Zi h15)
     refine Zp rfl rfl rfl (Zp rfl rfl rfl (Zp rfl rfl rfl (Za rfl (Zz rfl rfl) (Za rfl (Zd rfl) (Zp rfl rfl rfl ?_)))))
     refine Zp rfl rfl rfl (Zp rfl rfl rfl (Zp rfl rfl rfl (Za rfl (Zz rfl rfl) (Za rfl (Zd rfl) (Zp rfl rfl rfl ?_)))))
     refine Zp rfl rfl rfl (Zp rfl rfl rfl (Zp rfl rfl rfl (Za rfl (Zz rfl rfl) (Yl fn111 rfl rfl (fun w _ => Xe _ w) ?_ ?_))))
     ·intro o21; cases o21
     intro _
     refine Ye (Yu ?_)
     clear hp0; first | (simp_all [refB, mtT, eqS]; done) | (simp_all [refB, mtT, eqS]; omega)
end Go.Proofs.YtpofmnfkdkmieaaGreat
namespace Go.Proofs.YtpofmnfkdkmieaaGreat
open Go.RowKit At E
/-- The bytes of a text. -/
def dl (s : ByteArray) : List UInt8 := s.data.toList
theorem dl_append (a b : ByteArray) : dl (a ++ b) = dl a ++ dl b := by unfold dl; rw [ByteArray.data_append, Array.toList_append]
theorem dl_length (a : ByteArray) : (dl a).length = a.size := Array.length_toList
theorem dl_lowS (x : Int) (k : Nat) : dl (lowS x k) = lowL (u64 x) k := rfl
theorem Xl {w : World} {e size n : Nat} {v : Value} {xs : List Value} (h : w.ownsRow 0 e size v n xs) : ∃ p l c, v = .slice p l c := by
 rcases h.2 with ⟨rfl, _⟩ | ⟨g, cap, cur, rfl, _⟩
 ·exact ⟨_, _, _, rfl⟩
 ·exact ⟨_, _, _, rfl⟩
section
variable {w0 : World} {F : List Nat} {H : Hp} {R : Asr}
/-- Old memory, as it was ahead of u. -/
theorem row_oldU {u : World} {b o : Nat} {vs : List Value} (hu : Below u.heap.size u w0) (hF : ∀ x ∈ F, u.heap.size ≤ x) (hb : b < u.heap.size) (h : ∀ j v, vs[j]? = some v → u.cell? ⟨b, o + j, none⟩ = some v) : Row w0 F H R b o vs :=
 row_oldF (fun j v hj => by rw [hu.cell (p := ⟨b, o + j, none⟩) hb]; exact h j v hj) (fun hx => by have := hF b hx; omega)
theorem cell_oldU {u : World} {b o : Nat} {v : Value} (hu : Below u.heap.size u w0) (hF : ∀ x ∈ F, u.heap.size ≤ x) (hb : b < u.heap.size) (h : u.cell? ⟨b, o, none⟩ = some v) : Cell w0 F H R ⟨b, o, none⟩ v :=
 cell_oldF (by rw [hu.cell (p := ⟨b, o, none⟩) hb]; exact h) (fun hx => by have := hF b hx; omega)
end
theorem u8_low (u : Nat) : IntKind.u8.wrap (u : Int) = ((UInt8.ofNat (u % 256)).toNat : Int) := by
 rw [UInt8.toNat_ofNat', IntKind.wrap_u8]; omega
theorem shr8 (u : Nat) : ((u : Nat) : Int).fdiv (2 ^ min (8 : Int).toNat IntKind.u64.bits) = ((u / 256 : Nat) : Int) := by
 have e : ((2 : Int) ^ min (8 : Int).toNat IntKind.u64.bits) = 256 := by decide
 rw [e, Int.fdiv_eq_ediv_of_nonneg _ (by decide)]; omega
theorem wrText_any (U : World) (b : Nat) (s : ByteArray) : WrP Tryz.prog 120 #[.pointer (some ⟨b, 0, none⟩), .string s] U b (dl s) := by
 intro w v bs h0 hl
 rw [dl_length] at hl
 refine opensF (h0.sat) (args := [.pointer (some ⟨b, 0, none⟩), .string s]) Tryz.func120 rfl Tryz.ntmps120 ?_
 refine Zb (Za rfl (Zd rfl) (Za rfl (Zd rfl) (Za rfl (Ys rfl) (Za rfl (Zh (ff rfl) rfl) (Za rfl (Zj (t1 rfl) rfl (Zl 0 rfl rfl)) ?_)))))
 refine Za rfl (Zd rfl) (WL_appS rfl (ta rfl) (tstr rfl) rfl rfl (by omega) (by omega) ?_)
 intro v1
 refine Za rfl (Ys rfl) (Za rfl (Zh (ff rfl) rfl) (Xz (p := ∃ p l c, v1 = .slice p l c) (fun w hs => Xl hs.res.1) ?_))
 rintro ⟨p1, l1, c1, rfl⟩
 refine Xd (t1 rfl) rfl rfl 0 rfl rfl rfl rfl (Ze ?_)
 refine wr_end h0 rfl (i := 0) rfl ?_
 rfl
theorem wrNumber_any (U : World) (b u k : Nat) (hk : k ≤ 8) : WrP Tryz.prog 191 #[.pointer (some ⟨b, 0, none⟩), .int .u64 (u : Nat), .int .i64 (k : Nat)] U b (lowL u k) := by
 intro w v bs h0 hl
 rw [lowL_length] at hl
 refine opensF (h0.sat) (args := [.pointer (some ⟨b, 0, none⟩), .int .u64 (u : Nat), .int .i64 (k : Nat)]) Tryz.func191 rfl Tryz.ntmps191 ?_
 refine Zf (Zb (Za rfl (Zd rfl) (Za rfl (Zd rfl) (Ze (Zc ?_)))))
 refine Zs (WC_res (show wrA v bs = wrA v (bs ++ lowL u 0) by rw [lowL, List.append_nil]) ?_)
 refine WC_same (s := 1) (v' := .int .u64 ((u / 256 ^ 0 : Nat) : Int)) rfl (by rw [Nat.pow_zero, Nat.div_one]) ?_
 refine Xh (E' := (fun x : Nat × Value => [(0, .pointer (some ⟨b, 0, none⟩)), (1, .int .u64 ((u / 256 ^ x.1 : Nat) : Int)), (6, .int .i64 (k : Nat)), (7, .int .i64 (x.1 : Nat))]) ((0, v))) ⟨rfl, rfl, rfl, rfl, trivial⟩ (Yy (X := Nat × Value) (fun x : Nat × Value => [(0, .pointer (some ⟨b, 0, none⟩)), (1, .int .u64 ((u / 256 ^ x.1 : Nat) : Int)), (6, .int .i64 (k : Nat)), (7, .int .i64 (x.1 : Nat))]) _ _ (fun x : Nat × Value => [(b, [x.2])]) (fun x : Nat × Value => wrA x.2 (bs ++ lowL u x.1)) (fun x : Nat × Value => x.1 ≤ k) (fun x : Nat × Value => k - x.1) ((0, v)) (Nat.zero_le _) ?_)
 intro x hI
 refine Zf (Zb (Za rfl (Xb rfl rfl) (Ze (Zc (Zf ?_)))))
 refine Yi rfl ?_ ?_
 ·intro c1
  try (first | replace c1 := dTr c1 | replace c1 := Zk c1)
  have hx : x.1 < k := by omega
  refine Zw (Zc (Zf (Zs (Zf (Zb ?_)))))
  refine Za rfl (Zd rfl) (Za rfl (Zd rfl) (Za rfl (Ys rfl) (Za rfl (Zh (ff rfl) rfl) (Za rfl (Zj (t1 rfl) rfl (Zl 0 rfl rfl)) (Za rfl (Zd rfl) ?_)))))
  refine Za rfl (Ex_conv (tint rfl) (tint rfl) rfl) (WL_same (s := 15) (v' := byteV (UInt8.ofNat (u / 256 ^ x.1 % 256))) rfl (congrArg (Value.int .u8) (u8_low _)) (WL_bs rfl (ts rfl) (tz rfl) rfl rfl rfl rfl rfl ?_))
  intro b1 hb1
  refine WL_appB rfl (ta rfl) rfl rfl 0 rfl (by rw [List.length_append, lowL_length]; omega) (by rw [List.length_append, lowL_length]; omega) ?_
  intro v1
  refine Za rfl (Ys rfl) (Za rfl (Zh (ff rfl) rfl) (Xz (p := ∃ p l c, v1 = .slice p l c) (fun w hs => Xl hs.res.1) ?_))
  rintro ⟨p1, l1, c1, rfl⟩
  refine Xd (t1 rfl) rfl rfl 1 rfl rfl rfl rfl (Ze (Zc (Zb (Za rfl (Zd rfl) (Za rfl (Ex_shr rfl rfl rfl) ?_)))))
  refine Za rfl (Zg rfl) (Ze (Zx (Zc (Zb ?_))))
  (first | (refine Za rfl (Xa rfl rfl ?_) ?_; omega) | (refine Za rfl (Yp rfl rfl ?_) ?_; omega) | refine Za rfl (Yz rfl rfl) ?_)
  refine Za rfl (Zd rfl) (Ze (WQ_same (s := 1) (v' := .int .u64 ((u / 256 ^ (x.1 + 1) : Nat) : Int)) rfl (congrArg (Value.int .u64) (by rw [shr8, Nat.div_div_eq_div_mul, Nat.pow_succ])) ?_))
  refine Yn ((x.1 + 1, .slice p1 l1 c1)) ?_ (hx) 1 rfl (by show wrA _ _ = wrA _ _; rw [lowL_succ, ← List.append_assoc]) ⟨rfl, rfl, rfl, rfl, trivial⟩
  omega
 ·intro c1
  try (first | replace c1 := dFa c1 | replace c1 := Zi c1)
  refine Yx (Yw (Yo (Yv ?_)))
  refine wr_end h0 rfl (i := 0) rfl ?_
  rw [show x.1 = k by omega]
theorem wrByte_any (U : World) (b : Nat) (x : Int) : WrP Tryz.prog 122 #[.pointer (some ⟨b, 0, none⟩), .int .i64 x] U b (dl (lowS x 1)) := by
 intro w v bs h0 hl
 refine opensF (h0.sat) (args := [.pointer (some ⟨b, 0, none⟩), .int .i64 x]) Tryz.func122 rfl Tryz.ntmps122 ?_
 refine Zb (Za rfl (Zd rfl) (Za rfl (Zd rfl) (Za rfl (Ex_conv (tint rfl) (tint rfl) rfl) (WL_same (s := 6) (v' := .int .u64 (u64 x : Nat)) rfl (congrArg (Value.int .u64) (u64_of x)) (Xu fn191 rfl rfl 0 rfl h0.base h0.F (wrNumber_any U b (u64 x) 1 (by omega)) (by exact hl) ?_)))))
 intro v1
 refine Ze ?_
 refine wr_end h0 rfl (i := 0) rfl ?_
 rfl
theorem wrTwo_any (U : World) (b : Nat) (x : Int) : WrP Tryz.prog 193 #[.pointer (some ⟨b, 0, none⟩), .int .i64 x] U b (dl (lowS x 2)) := by
 intro w v bs h0 hl
 refine opensF (h0.sat) (args := [.pointer (some ⟨b, 0, none⟩), .int .i64 x]) Tryz.func193 rfl Tryz.ntmps193 ?_
 refine Zb (Za rfl (Zd rfl) (Za rfl (Zd rfl) (Za rfl (Ex_conv (tint rfl) (tint rfl) rfl) (WL_same (s := 6) (v' := .int .u64 (u64 x : Nat)) rfl (congrArg (Value.int .u64) (u64_of x)) (Xu fn191 rfl rfl 0 rfl h0.base h0.F (wrNumber_any U b (u64 x) 2 (by omega)) (by exact hl) ?_)))))
 intro v1
 refine Ze ?_
 refine wr_end h0 rfl (i := 0) rfl ?_
 rfl
theorem wrEight_any (U : World) (b : Nat) (x : Int) : WrP Tryz.prog 286 #[.pointer (some ⟨b, 0, none⟩), .int .i64 x] U b (dl (lowS x 8)) := by
 intro w v bs h0 hl
 refine opensF (h0.sat) (args := [.pointer (some ⟨b, 0, none⟩), .int .i64 x]) Tryz.func286 rfl Tryz.ntmps286 ?_
 refine Zb (Za rfl (Zd rfl) (Za rfl (Zd rfl) (Za rfl (Ex_conv (tint rfl) (tint rfl) rfl) (WL_same (s := 6) (v' := .int .u64 (u64 x : Nat)) rfl (congrArg (Value.int .u64) (u64_of x)) (Xu fn191 rfl rfl 0 rfl h0.base h0.F (wrNumber_any U b (u64 x) 8 (by omega)) (by exact hl) ?_)))))
 intro v1
 refine Ze ?_
 refine wr_end h0 rfl (i := 0) rfl ?_
 rfl
theorem wrFlag_any (U : World) (b : Nat) (x : Bool) : WrP Tryz.prog 123 #[.pointer (some ⟨b, 0, none⟩), .bool x] U b (dl (flagS x)) := by
 intro w v bs h0 hl
 rw [dl_length, Xw] at hl
 refine opensF (h0.sat) (args := [.pointer (some ⟨b, 0, none⟩), .bool x]) Tryz.func123 rfl Tryz.ntmps123 ?_
 refine Zf (Zf (Zb (Za rfl (Zd rfl) (Ze (Zc ?_)))))
 refine Yi rfl ?_ ?_
 ·intro c1
  try (first | replace c1 := dTr c1 | replace c1 := Zk c1)
  refine Zf (Zb (Za rfl (Zd rfl) ?_))
  refine Xu fn122 rfl rfl 0 rfl h0.base h0.F (wrByte_any U b 1) (by rw [dl_length, Ya]; exact hl) ?_
  intro v1
  refine Ze (Zc (Zv (Zq ?_)))
  refine wr_endr h0 rfl (i := 0) rfl ?_
  unfold flagS; rw [c1]; rfl
 ·intro c1
  try (first | replace c1 := dFa c1 | replace c1 := Zi c1)
  refine Zw (Zc (Zb (Za rfl (Zd rfl) ?_)))
  refine Xu fn122 rfl rfl 0 rfl h0.base h0.F (wrByte_any U b 0) (by rw [dl_length, Ya]; exact hl) ?_
  intro v2
  refine Ze ?_
  refine wr_end h0 rfl (i := 0) rfl ?_
  unfold flagS; rw [c1]; rfl
theorem wrName_any (U : World) (b : Nat) (s : ByteArray) : WrP Tryz.prog 121 #[.pointer (some ⟨b, 0, none⟩), .string s] U b (dl (nameS s)) := by
 intro w v bs h0 hl
 rw [dl_length, Yq] at hl
 refine opensF (h0.sat) (args := [.pointer (some ⟨b, 0, none⟩), .string s]) Tryz.func121 rfl Tryz.ntmps121 ?_
 refine Zf (Zb (Za rfl (Zd rfl) (Za rfl (Zd rfl) (Za rfl (Ex_lenS (tstr rfl) rfl) ?_))))
 refine Xu fn122 rfl rfl 0 rfl h0.base h0.F (wrByte_any U b (s.size : Nat)) (by rw [dl_length, Ya]; omega) ?_
 intro v1
 refine Ze (Zc (Zb (Za rfl (Zd rfl) (Za rfl (Zd rfl) ?_))))
 refine Xu fn120 rfl rfl 0 rfl h0.base h0.F (wrText_any U b s) (by rw [List.length_append, dl_length, dl_length, Ya]; omega) ?_
 intro v2
 refine Ze ?_
 refine wr_end h0 rfl (i := 0) rfl ?_
 unfold nameS; rw [dl_append, List.append_assoc]
theorem wrTyp_any (U : World) (b : Nat) (t : Ty) : WrP Tryz.prog 124 #[.pointer (some ⟨b, 0, none⟩), .agg (tyV t).toArray] U b (dl (oneTypeS t)) := by
 intro w v bs h0 hl
 rw [dl_length] at hl
 have h3 : t.kind = 3 → oneTypeS t = lowS t.kind 1 ++ nameS t.cls := fun h => by unfold oneTypeS; rw [if_pos h, h]
 have h4 : ¬ t.kind = 3 → oneTypeS t = lowS t.kind 1 := fun h => by unfold oneTypeS; rw [if_neg h]
 have h5 : bs.length + 1 ≤ 4000000 := by
  by_cases h : t.kind = 3
  ·rw [h3 h, ByteArray.size_append, Ya] at hl; omega
  ·rw [h4 h, Ya] at hl; omega
 refine opensF (h0.sat) (args := [.pointer (some ⟨b, 0, none⟩), .agg (tyV t).toArray]) Tryz.func124 rfl Tryz.ntmps124 ?_
 refine Zf (Zb (WL_box rfl rfl ?_))
 intro b1 hb1
 refine Ze (Zc (Zf (Zb (Za rfl (Zd rfl) (Za rfl (Zh (ff rfl) rfl) ?_)))))
 refine Za rfl (Zj (t1 rfl) rfl (Zl 0 rfl rfl)) ?_
 refine Xu fn122 rfl rfl 1 rfl h0.base h0.F (wrByte_any U b t.kind) (by rw [dl_length, Ya]; exact h5) ?_
 intro v1
 refine Ze (Zc (Zf (Zb (Za rfl (Zh (ff rfl) rfl) (Za rfl (Zj (t1 rfl) rfl (Zl 0 rfl rfl)) ?_)))))
 refine Za rfl (Xc rfl rfl) (Ze (Zc (Yi rfl ?_ ?_)))
 ·intro c1
  try (first | replace c1 := dTr c1 | replace c1 := Zk c1)
  refine Zb (Za rfl (Zd rfl) (Za rfl (Zh (ff rfl) rfl) (Za rfl (Zj (t1 rfl) rfl (Zl 0 rfl rfl)) ?_)))
  refine Xu fn121 rfl rfl 1 rfl h0.base h0.F (wrName_any U b t.cls) (by rw [h3 c1, ByteArray.size_append, Ya] at hl; rw [List.length_append, dl_length, dl_length, Ya]; omega) ?_
  intro v2
  refine Ze ?_
  refine wr_end h0 rfl (i := 1) rfl ?_
  first | rw [h3 c1, dl_append, List.append_assoc] | rw [h4 c1]
 ·intro c1
  try (first | replace c1 := dFa c1 | replace c1 := Zi c1)
  refine Zw ?_
  refine wr_end h0 rfl (i := 1) rfl ?_
  first | rw [h3 c1, dl_append, List.append_assoc] | rw [h4 c1]
end Go.Proofs.YtpofmnfkdkmieaaGreat
