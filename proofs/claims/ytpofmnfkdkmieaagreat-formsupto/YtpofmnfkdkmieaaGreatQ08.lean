/- What is proved here: the document's own answers sort and isInstr answer as the plain functions do. -/
import Derived.Test.YtpofmnfkdkmieaaGreatQ07
set_option linter.unusedVariables false
set_option linter.unusedSimpArgs false
namespace Go.Proofs.YtpofmnfkdkmieaaGreat
open Go.RowKit At E
theorem sort_any (op : Int) (w : World) : Pure Tryz.prog 173 #[.int .i64 op] w (.int .i64 (sortB op)) := by
 refine opens (args := [.int .i64 op]) Tryz.func173 rfl Tryz.ntmps173 ?_
 refine Zf (Zb (Za rfl (Zg rfl) (Ze (Zc (Zf ?_)))))
 refine Zf (Zb (Za rfl (Zd rfl) (Ze (Zc (Zs ?_)))))
 refine Zf (Zb (Za rfl (Xc rfl rfl) (Za rfl (Zg rfl) (Ze (Zc ?_)))))
 refine Yi rfl ?_ ?_
 ·intro c1
  try (first | replace c1 := dTr c1 | replace c1 := Zk c1)
  refine Zf (Zb (Za rfl (Zg rfl) (Ze (Zc (Zv ?_)))))
  refine Zq (Zq (Yh rfl rfl ?_))
  simp_all [sortB]
 ·intro c1
  try (first | replace c1 := dFa c1 | replace c1 := Zi c1)
  refine Zf (Zf (Zb (Za rfl (Xc rfl rfl) (Za rfl (Zg rfl) (Ze ?_)))))
  refine Zc (Yi rfl ?_ ?_)
  ·intro c2
   try (first | replace c2 := dTr c2 | replace c2 := Zk c2)
   refine Zw (Zc (Xq rfl (Zf (Zb (Za rfl (Zg rfl) ?_)))))
   refine Ze (Zc (Zv (Zq (Zq (Yh rfl rfl ?_)))))
   simp_all [sortB]
  ·intro c2
   try (first | replace c2 := dFa c2 | replace c2 := Zi c2)
   refine Zb (Za rfl (Xc rfl rfl) (Za rfl (Zg rfl) (Ze (Zc (Yi rfl ?_ ?_)))))
   ·intro c3
    try (first | replace c3 := dTr c3 | replace c3 := Zk c3)
    refine Zf (Zb (Za rfl (Zg rfl) (Ze (Zc (Zv ?_)))))
    refine Zq (Zq (Yh rfl rfl ?_))
    simp_all [sortB]
   ·intro c3
    try (first | replace c3 := dFa c3 | replace c3 := Zi c3)
    refine Zf (Zf (Zb (Za rfl (Xc rfl rfl) (Za rfl (Zg rfl) (Ze ?_)))))
    refine Zc (Yi rfl ?_ ?_)
    ·intro c4
     try (first | replace c4 := dTr c4 | replace c4 := Zk c4)
     refine Zw (Zc (Xq rfl (Zf (Zb (Za rfl (Zg rfl) ?_)))))
     refine Ze (Zc (Zv (Zq (Zq (Yh rfl rfl ?_)))))
     simp_all [sortB]
    ·intro c4
     try (first | replace c4 := dFa c4 | replace c4 := Zi c4)
     refine Zf (Zb (Za rfl (Xc rfl rfl) (Za rfl (Zg rfl) (Ze (Zc ?_)))))
     refine Yi rfl ?_ ?_
     ·intro c5
      try (first | replace c5 := dTr c5 | replace c5 := Zk c5)
      refine Zw (Zc (Xq rfl (Zf (Zb (Za rfl (Zg rfl) ?_)))))
      refine Ze (Zc (Zv (Zq (Zq (Yh rfl rfl ?_)))))
      simp_all [sortB]
     ·intro c5
      try (first | replace c5 := dFa c5 | replace c5 := Zi c5)
      refine Zf (Zb (Za rfl (Xc rfl rfl) (Za rfl (Zg rfl) (Ze (Zc ?_)))))
      refine Yi rfl ?_ ?_
      ·intro c6
       try (first | replace c6 := dTr c6 | replace c6 := Zk c6)
       refine Zw (Zc (Xq rfl (Zf (Zb (Za rfl (Zg rfl) ?_)))))
       refine Ze (Zc (Zv (Zq (Zq (Yh rfl rfl ?_)))))
       simp_all [sortB]
      ·intro c6
       try (first | replace c6 := dFa c6 | replace c6 := Zi c6)
       refine Zb (Za rfl (Xc rfl rfl) (Za rfl (Zg rfl) (Ze (Zc (Yi rfl ?_ ?_)))))
       ·intro c7
        try (first | replace c7 := dTr c7 | replace c7 := Zk c7)
        refine Zf (Zb (Za rfl (Zg rfl) (Ze (Zc (Zv ?_)))))
        refine Zq (Zq (Yh rfl rfl ?_))
        simp_all [sortB]
       ·intro c7
        try (first | replace c7 := dFa c7 | replace c7 := Zi c7)
        refine Zf (Zf (Zb (Za rfl (Xc rfl rfl) (Za rfl (Zg rfl) (Ze ?_)))))
        refine Zc (Yi rfl ?_ ?_)
        ·intro c8
         try (first | replace c8 := dTr c8 | replace c8 := Zk c8)
         refine Zw (Zc (Xq rfl (Zf (Zb (Za rfl (Zg rfl) ?_)))))
         refine Ze (Zc (Zv (Zq (Zq (Yh rfl rfl ?_)))))
         simp_all [sortB]
        ·intro c8
         try (first | replace c8 := dFa c8 | replace c8 := Zi c8)
         refine Zf (Zb (Za rfl (Xc rfl rfl) (Za rfl (Zg rfl) (Ze (Zc ?_)))))
         refine Yi rfl ?_ ?_
         ·intro c9
          try (first | replace c9 := dTr c9 | replace c9 := Zk c9)
          refine Zw (Zc (Xq rfl (Zf (Zb (Za rfl (Zg rfl) ?_)))))
          refine Ze (Zc (Zv (Zq (Zq (Yh rfl rfl ?_)))))
          simp_all [sortB]
         ·intro c9
          try (first | replace c9 := dFa c9 | replace c9 := Zi c9)
          refine Zb (Za rfl (Xc rfl rfl) (Za rfl (Zg rfl) (Ze (Zc (Yi rfl ?_ ?_)))))
          ·intro c10
           try (first | replace c10 := dTr c10 | replace c10 := Zk c10)
           refine Zf (Zb (Za rfl (Zg rfl) (Ze (Zc (Zv ?_)))))
           refine Zq (Zq (Yh rfl rfl ?_))
           simp_all [sortB]
          ·intro c10
           try (first | replace c10 := dFa c10 | replace c10 := Zi c10)
           refine Zf (Zf (Zb (Za rfl (Xc rfl rfl) (Za rfl (Zg rfl) (Ze ?_)))))
           refine Zc (Yi rfl ?_ ?_)
           ·intro c11
            try (first | replace c11 := dTr c11 | replace c11 := Zk c11)
            refine Zw (Zc (Xq rfl (Zf (Zb (Za rfl (Zg rfl) ?_)))))
            refine Ze (Zc (Zv (Zq (Zq (Yh rfl rfl ?_)))))
            simp_all [sortB]
           ·intro c11
            try (first | replace c11 := dFa c11 | replace c11 := Zi c11)
            refine Zf (Zb (Za rfl (Xc rfl rfl) (Za rfl (Zg rfl) (Ze (Zc ?_)))))
            refine Yi rfl ?_ ?_
            ·intro c12
             try (first | replace c12 := dTr c12 | replace c12 := Zk c12)
             refine Zw (Zc (Xq rfl (Zf (Zb (Za rfl (Zg rfl) ?_)))))
             refine Ze (Zc (Zv (Zq (Zq (Yh rfl rfl ?_)))))
             simp_all [sortB]
            ·intro c12
             try (first | replace c12 := dFa c12 | replace c12 := Zi c12)
             refine Zf (Zb (Za rfl (Xc rfl rfl) (Za rfl (Zg rfl) (Ze (Zc ?_)))))
             refine Yi rfl ?_ ?_
             ·intro c13
              try (first | replace c13 := dTr c13 | replace c13 := Zk c13)
              refine Zw (Zc (Xq rfl (Zf (Zb (Za rfl (Zg rfl) ?_)))))
              refine Ze (Zc (Zv (Zq (Zq (Yh rfl rfl ?_)))))
              simp_all [sortB]
             ·intro c13
              try (first | replace c13 := dFa c13 | replace c13 := Zi c13)
              refine Zb (Za rfl (Xc rfl rfl) (Za rfl (Zg rfl) (Ze (Zc (Yi rfl ?_ ?_)))))
              ·intro c14
               try (first | replace c14 := dTr c14 | replace c14 := Zk c14)
               refine Zf (Zb (Za rfl (Zg rfl) (Ze (Zc (Zv ?_)))))
               refine Zq (Zq (Yh rfl rfl ?_))
               simp_all [sortB]
              ·intro c14
               try (first | replace c14 := dFa c14 | replace c14 := Zi c14)
               refine Zf (Zf (Zb (Za rfl (Xc rfl rfl) (Za rfl (Zg rfl) (Ze ?_)))))
               refine Zc (Yi rfl ?_ ?_)
               ·intro c15
                try (first | replace c15 := dTr c15 | replace c15 := Zk c15)
                refine Zw (Zc (Xq rfl (Zf (Zb (Za rfl (Zg rfl) ?_)))))
                refine Ze (Zc (Zv (Zq (Zq (Yh rfl rfl ?_)))))
                simp_all [sortB]
               ·intro c15
                try (first | replace c15 := dFa c15 | replace c15 := Zi c15)
                refine Zb (Za rfl (Xc rfl rfl) (Za rfl (Zg rfl) (Ze (Zc (Yi rfl ?_ ?_)))))
                ·intro c16
                 try (first | replace c16 := dTr c16 | replace c16 := Zk c16)
                 refine Zf (Zb (Za rfl (Zg rfl) (Ze (Zc (Zv ?_)))))
                 refine Zq (Zq (Yh rfl rfl ?_))
                 simp_all [sortB]
                ·intro c16
                 try (first | replace c16 := dFa c16 | replace c16 := Zi c16)
                 refine Zw (Zx (Zc (Zf (Zf (Zb ?_)))))
                 refine Za rfl (Zd rfl) (Za rfl (Xb rfl rfl) (Za rfl (Zd rfl) (Yr rfl rfl rfl ?_ ?_)))
                 ·intro h1
                  try (first | replace h1 := dTr h1 | replace h1 := Zk h1)
                  refine Zp rfl rfl rfl (Zp rfl rfl rfl (Za rfl (Zt rfl rfl) (Ze (Zc (Xq rfl ?_)))))
                  refine Zf (Zb (Za rfl (Zg rfl) (Ze (Zc (Zv ?_)))))
                  refine Zq (Yh rfl rfl ?_)
                  simp_all [sortB]
                 ·intro h1
                  try (first | replace h1 := dFa h1 | replace h1 := Zi h1)
                  refine Zo rfl rfl rfl (Zd rfl) (Zo rfl rfl rfl (Ex_gtr rfl rfl) (Za rfl (Zz rfl rfl) (Ze (Zc (Yi rfl ?_ ?_)))))
                  ·intro c17
                   try (first | replace c17 := dTr c17 | replace c17 := Zk c17)
                   refine Zf (Zb (Za rfl (Zg rfl) (Ze (Zc (Zv ?_)))))
                   refine Zq (Yh rfl rfl ?_)
                   simp_all [sortB]
                  ·intro c17
                   try (first | replace c17 := dFa c17 | replace c17 := Zi c17)
                   refine Zw (Zc (Zf (Zb (Za rfl (Zg rfl) (Ze ?_)))))
                   refine Zc (Zv (Yh rfl rfl ?_))
                   simp_all [sortB]
set_option maxHeartbeats 1000000 in
theorem isInstr_any (i : Ins) (m : Me) (pv : Value) (qv cv hv fv : Value) (w : World) (hp : TysAt w pv i.ref.params) (hi : insOk i) (hm : MeParts w m qv cv hv fv) :
  Pure Tryz.prog 135 #[.agg (insV i pv).toArray, .agg (meV m qv cv hv fv).toArray] w (.bool (isInstrB i m.locals m.code.length)) := by
 obtain ⟨p, c, rfl, hl, -⟩ := hp.is
 obtain ⟨p', c', rfl, hl', -⟩ := hm.cs.is
 refine opens (args := [.agg (insV i (.slice p i.ref.params.length c)).toArray, .agg (meV m qv (.slice p' m.code.length c') hv fv).toArray]) Tryz.func135 rfl Tryz.ntmps135 ?_
 refine Zf (Zb (WL_box rfl rfl ?_))
 intro b0 hb0
 refine WL_box rfl rfl ?_
 intro b1 hb1
 refine Za rfl (Zg rfl) (Ze (Zc (Zf (Zb (Za rfl (Zh (ff rfl) rfl) ?_)))))
 refine Za rfl (Yb (tn rfl) rfl 1 rfl rfl) (Xg rfl (tz rfl) ?_)
 intro b2 hb2
 refine Yd (tn rfl) rfl rfl 0 rfl rfl rfl rfl (Ze (Zc (Zf (Zb (Za rfl (Zh (ff rfl) rfl) ?_)))))
 refine Za rfl (Zj (t1 rfl) rfl (Zl 2 rfl rfl)) (Xi fn173 rfl rfl (fun w _ => sort_any _ w) ?_)
 refine Za rfl (Zg rfl) (Ze (Zc (Zf (Zf (Zb ?_)))))
 refine Za rfl (Zd rfl) (Za rfl (Xb rfl rfl) (Ze (Zc (Yi rfl ?_ ?_))))
 ·intro c1
  try (first | replace c1 := dTr c1 | replace c1 := Zk c1)
  refine Zf (Zb (Za rfl (Zg rfl) (Ze (Zc (Zv ?_)))))
  refine Zq (Yh rfl rfl ?_)
  first | (simp_all [isInstrB, eqS]; done) | (simp_all [isInstrB, eqS]; omega) | (simp only [isInstrB]; (repeat' split) <;> first | (exfalso; omega) | (simp_all [eqS]; done) | (simp_all [eqS]; omega))
 ·intro c1
  try (first | replace c1 := dFa c1 | replace c1 := Zi c1)
  refine Zw (Zc (Zf (Zb (Za rfl (Zh (ff rfl) rfl) (Za rfl (Zj (t1 rfl) rfl (Zl 0 rfl rfl)) ?_)))))
  refine Xi fn93 rfl rfl (fun w _ => isName_any _ w hi.2.2.1) ?_
  refine Za rfl (Zg rfl) (Ze (Zc (Zf (Zb (Za rfl (Zh (ff rfl) rfl) ?_)))))
  refine Za rfl (Zj (t1 rfl) rfl (Zl 0 rfl rfl)) (Xi fn93 rfl rfl (fun w _ => isName_any _ w hi.2.2.2.1) ?_)
  refine Za rfl (Zg rfl) (Ze (Zc (Zf (Zb (Za rfl (Zh (ff rfl) rfl) ?_)))))
  refine Za rfl (Zj (t1 rfl) rfl (Zl 0 rfl rfl)) (Xi fn134 rfl rfl (fun w hs => areTypes_any _ i.ref.params false w (hp.mono (lowOf hs))) ?_)
  refine Za rfl (Zg rfl) (Ze (Zc (Zf (Zb (Za rfl (Zh (ff rfl) rfl) ?_)))))
  refine Za rfl (Yb (tn rfl) rfl 0 rfl rfl) (Za rfl (Zd rfl) (Za rfl (Xc rfl rfl) (Xi fn94 rfl rfl (fun w _ => isType_any i.ref.ty _ _ w hi.2.2.2.2) ?_)))
  refine Za rfl (Zg rfl) (Ze (Zc (Zf (Zf (Zb ?_)))))
  refine Za rfl (Zd rfl) (Za rfl (Xb rfl rfl) (Ze (Zc (Yi rfl ?_ ?_))))
  ·intro c2
   try (first | replace c2 := dTr c2 | replace c2 := Zk c2)
   refine Zf (Zf (Zb (Za rfl (Zh (ff rfl) rfl) (Za rfl (Zj (t1 rfl) rfl (Zl 0 rfl rfl)) (Za rfl (Ex_neqS rfl rfl) ?_)))))
   refine Za rfl (Zd rfl) (Yr rfl rfl rfl ?_ ?_)
   ·intro h1
    try (first | replace h1 := dTr h1 | replace h1 := Zk h1)
    refine Zp rfl rfl rfl (Zp rfl rfl rfl (Zp rfl rfl rfl (Za rfl (Zt rfl rfl) (Za rfl (Zd rfl) (Zp rfl rfl rfl ?_)))))
    refine Zp rfl rfl rfl (Zp rfl rfl rfl (Zp rfl rfl rfl (Za rfl (Zt rfl rfl) (Za rfl (Zd rfl) (Zp rfl rfl rfl ?_)))))
    refine Zp rfl rfl rfl (Zp rfl rfl rfl (Zp rfl rfl rfl (Za rfl (Zt rfl rfl) (Za rfl (Zd rfl) (Zp rfl rfl rfl ?_)))))
    refine Zp rfl rfl rfl (Zp rfl rfl rfl (Zp rfl rfl rfl (Za rfl (Zt rfl rfl) (Ze (Zc ?_)))))
    refine Xq rfl (Zf (Zb (Za rfl (Zg rfl) (Ze (Zc ?_)))))
    refine Zv (Zq (Zq (Yh rfl rfl ?_)))
    first | (simp_all [isInstrB, eqS]; done) | (simp_all [isInstrB, eqS]; omega) | (simp only [isInstrB]; (repeat' split) <;> first | (exfalso; omega) | (simp_all [eqS]; done) | (simp_all [eqS]; omega))
   ·intro h1
    try (first | replace h1 := dFa h1 | replace h1 := Zi h1)
    refine Zo rfl rfl rfl (Zh (ff rfl) rfl) (Zo rfl rfl rfl (Zj (t1 rfl) rfl (Zl 0 rfl rfl)) (Zo rfl rfl rfl (Ex_neqS rfl rfl) (Za rfl (Zz rfl rfl) (Za rfl (Zd rfl) (Yr rfl rfl rfl ?_ ?_)))))
    ·intro h2
     try (first | replace h2 := dTr h2 | replace h2 := Zk h2)
     refine Zp rfl rfl rfl (Zp rfl rfl rfl (Zp rfl rfl rfl (Zp rfl rfl rfl (Za rfl (Zt rfl rfl) (Za rfl (Zd rfl) ?_)))))
     refine Zp rfl rfl rfl (Zp rfl rfl rfl (Zp rfl rfl rfl (Zp rfl rfl rfl (Za rfl (Zt rfl rfl) (Za rfl (Zd rfl) ?_)))))
     refine Zp rfl rfl rfl (Zp rfl rfl rfl (Zp rfl rfl rfl (Zp rfl rfl rfl (Za rfl (Zt rfl rfl) (Ze ?_)))))
     refine Zc (Xq rfl (Zf (Zb (Za rfl (Zg rfl) (Ze ?_)))))
     refine Zc (Zv (Zq (Zq (Yh rfl rfl ?_))))
     first | (simp_all [isInstrB, eqS]; done) | (simp_all [isInstrB, eqS]; omega) | (simp only [isInstrB]; (repeat' split) <;> first | (exfalso; omega) | (simp_all [eqS]; done) | (simp_all [eqS]; omega))
    ·intro h2
     try (first | replace h2 := dFa h2 | replace h2 := Zi h2)
     refine Zo rfl rfl rfl (Zh (ff rfl) rfl) (Zo rfl rfl rfl (Zj (t1 rfl) rfl (Zl 0 rfl rfl)) (Zo rfl rfl rfl (Yg (ts rfl) rfl) (Zo rfl rfl rfl (Ex_gtr rfl rfl) (Za rfl (Zz rfl rfl) (Za rfl (Zd rfl) ?_)))))
     refine Yr rfl rfl rfl ?_ ?_
     ·intro h3
      try (first | replace h3 := dTr h3 | replace h3 := Zk h3)
      refine Zp rfl rfl rfl (Zp rfl rfl rfl (Zp rfl rfl rfl (Zp rfl rfl rfl (Za rfl (Zt rfl rfl) (Za rfl (Zd rfl) ?_)))))
      refine Zp rfl rfl rfl (Zp rfl rfl rfl (Zp rfl rfl rfl (Zp rfl rfl rfl (Za rfl (Zt rfl rfl) (Ze ?_)))))
      refine Zc (Xq rfl (Zf (Zb (Za rfl (Zg rfl) (Ze ?_)))))
      refine Zc (Zv (Zq (Zq (Yh rfl rfl ?_))))
      first | (simp_all [isInstrB, eqS]; done) | (simp_all [isInstrB, eqS]; omega) | (simp only [isInstrB]; (repeat' split) <;> first | (exfalso; omega) | (simp_all [eqS]; done) | (simp_all [eqS]; omega))
     ·intro h3
      try (first | replace h3 := dFa h3 | replace h3 := Zi h3)
      refine Zo rfl rfl rfl (Zh (ff rfl) rfl) (Zo rfl rfl rfl (Zh (ff rfl) rfl) (Zo rfl rfl rfl (Zj (t1 rfl) rfl (Zl 0 rfl rfl)) (Zo rfl rfl rfl (Ex_neq rfl rfl) (Za rfl (Zz rfl rfl) (Za rfl (Zd rfl) ?_)))))
      refine Yr rfl rfl rfl ?_ ?_
      ·intro h4
       try (first | replace h4 := dTr h4 | replace h4 := Zk h4)
       refine Zp rfl rfl rfl (Zp rfl rfl rfl (Zp rfl rfl rfl (Zp rfl rfl rfl (Za rfl (Zt rfl rfl) (Ze ?_)))))
       refine Zc (Xq rfl (Zf (Zb (Za rfl (Zg rfl) (Ze ?_)))))
       refine Zc (Zv (Zq (Zq (Yh rfl rfl ?_))))
       first | (simp_all [isInstrB, eqS]; done) | (simp_all [isInstrB, eqS]; omega) | (simp only [isInstrB]; (repeat' split) <;> first | (exfalso; omega) | (simp_all [eqS]; done) | (simp_all [eqS]; omega))
      ·intro h4
       try (first | replace h4 := dFa h4 | replace h4 := Zi h4)
       refine Zo rfl rfl rfl (Zh (ff rfl) rfl) (Zo rfl rfl rfl (Zh (ff rfl) rfl) (Zo rfl rfl rfl (Zj (t1 rfl) rfl (Zl 0 rfl rfl)) (Zo rfl rfl rfl (Ex_neqS rfl rfl) (Za rfl (Zz rfl rfl) (Ze ?_)))))
       refine Zc (Yi rfl ?_ ?_)
       ·intro c3
        try (first | replace c3 := dTr c3 | replace c3 := Zk c3)
        refine Zf (Zb (Za rfl (Zg rfl) (Ze (Zc (Zv ?_)))))
        refine Zq (Zq (Yh rfl rfl ?_))
        first | (simp_all [isInstrB, eqS]; done) | (simp_all [isInstrB, eqS]; omega) | (simp only [isInstrB]; (repeat' split) <;> first | (exfalso; omega) | (simp_all [eqS]; done) | (simp_all [eqS]; omega))
       ·intro c3
        try (first | replace c3 := dFa c3 | replace c3 := Zi c3)
        refine Zw (Zc (Zf (Zf (Zb (Za rfl (Zd rfl) ?_)))))
        refine Ze (Zc (Zs (Zf (Zb (Za rfl (Xc rfl rfl) ?_)))))
        refine Za rfl (Zg rfl) (Ze (Zc (Yi rfl ?_ ?_)))
        ·intro c4
         try (first | replace c4 := dTr c4 | replace c4 := Zk c4)
         refine Zf (Zb (Za rfl (Zh (ff rfl) rfl) (Za rfl (Zj (t1 rfl) rfl (Zl 2 rfl rfl)) (Za rfl (Xc rfl rfl) (Za rfl (Zg rfl) ?_)))))
         refine Ze (Zc (Zv (Zq (Zq (Zq ?_)))))
         refine Yh rfl rfl ?_
         first | (simp_all [isInstrB, eqS]; done) | (simp_all [isInstrB, eqS]; omega) | (simp only [isInstrB]; (repeat' split) <;> first | (exfalso; omega) | (simp_all [eqS]; done) | (simp_all [eqS]; omega))
        ·intro c4
         try (first | replace c4 := dFa c4 | replace c4 := Zi c4)
         refine Zf (Zb (Za rfl (Xc rfl rfl) (Za rfl (Zg rfl) (Ze (Zc ?_)))))
         refine Yi rfl ?_ ?_
         ·intro c5
          try (first | replace c5 := dTr c5 | replace c5 := Zk c5)
          refine Zf (Zb (Za rfl (Zh (ff rfl) rfl) (Za rfl (Zj (t1 rfl) rfl (Zl 2 rfl rfl)) (Za rfl (Ex_geq rfl rfl) (Za rfl (Zd rfl) ?_)))))
          refine Yr rfl rfl rfl ?_ ?_
          ·intro h5
           try (first | replace h5 := dTr h5 | replace h5 := Zk h5)
           refine Zo rfl rfl rfl (Zh (ff rfl) rfl) (Zo rfl rfl rfl (Zj (t1 rfl) rfl (Zl 2 rfl rfl)) (Zo rfl rfl rfl (Zh (ff rfl) rfl) (Zo rfl rfl rfl (Zj (t1 rfl) rfl (Zl 1 rfl rfl)) (Zo rfl rfl rfl (Xb rfl rfl) (Za rfl (Zt rfl rfl) ?_)))))
           refine Za rfl (Zg rfl) (Ze (Zc (Zv (Zq (Zq ?_)))))
           refine Zq (Yh rfl rfl ?_)
           first | (simp_all [isInstrB, eqS]; done) | (simp_all [isInstrB, eqS]; omega) | (simp only [isInstrB]; (repeat' split) <;> first | (exfalso; omega) | (simp_all [eqS]; done) | (simp_all [eqS]; omega))
          ·intro h5
           try (first | replace h5 := dFa h5 | replace h5 := Zi h5)
           refine Zp rfl rfl rfl (Zp rfl rfl rfl (Zp rfl rfl rfl (Zp rfl rfl rfl (Zp rfl rfl rfl (Za rfl (Zz rfl rfl) ?_)))))
           refine Za rfl (Zg rfl) (Ze (Zc (Zv (Zq (Zq ?_)))))
           refine Zq (Yh rfl rfl ?_)
           first | (simp_all [isInstrB, eqS]; done) | (simp_all [isInstrB, eqS]; omega) | (simp only [isInstrB]; (repeat' split) <;> first | (exfalso; omega) | (simp_all [eqS]; done) | (simp_all [eqS]; omega))
         ·intro c5
          try (first | replace c5 := dFa c5 | replace c5 := Zi c5)
          refine Zf (Zb (Za rfl (Xc rfl rfl) (Za rfl (Zg rfl) (Ze (Zc ?_)))))
          refine Yi rfl ?_ ?_
          ·intro c6
           try (first | replace c6 := dTr c6 | replace c6 := Zk c6)
           refine Zf (Zb (Za rfl (Zh (ff rfl) rfl) (Za rfl (Zj (t1 rfl) rfl (Zl 2 rfl rfl)) (Za rfl (Ex_geq rfl rfl) (Za rfl (Zd rfl) ?_)))))
           refine Yr rfl rfl rfl ?_ ?_
           ·intro h6
            try (first | replace h6 := dTr h6 | replace h6 := Zk h6)
            refine Zo rfl rfl rfl (Zh (ff rfl) rfl) (Zo rfl rfl rfl (Zj (t1 rfl) rfl (Zl 2 rfl rfl)) (Zo rfl rfl rfl (Zh (ff rfl) rfl) (Zo rfl rfl rfl (Zj (t1 rfl) rfl (Zl 1 rfl rfl)) (Zo rfl rfl rfl (Yg (ts rfl) rfl) (Zo rfl rfl rfl (Xb rfl rfl) ?_)))))
            refine Za rfl (Zt rfl rfl) (Za rfl (Zg rfl) (Ze (Zc (Zv (Zq ?_)))))
            refine Zq (Zq (Yh rfl rfl ?_))
            first | (simp_all [isInstrB, eqS]; done) | (simp_all [isInstrB, eqS]; omega) | (simp only [isInstrB]; (repeat' split) <;> first | (exfalso; omega) | (simp_all [eqS]; done) | (simp_all [eqS]; omega))
           ·intro h6
            try (first | replace h6 := dFa h6 | replace h6 := Zi h6)
            refine Zp rfl rfl rfl (Zp rfl rfl rfl (Zp rfl rfl rfl (Zp rfl rfl rfl (Zp rfl rfl rfl (Zp rfl rfl rfl ?_)))))
            refine Za rfl (Zz rfl rfl) (Za rfl (Zg rfl) (Ze (Zc (Zv (Zq ?_)))))
            refine Zq (Zq (Yh rfl rfl ?_))
            first | (simp_all [isInstrB, eqS]; done) | (simp_all [isInstrB, eqS]; omega) | (simp only [isInstrB]; (repeat' split) <;> first | (exfalso; omega) | (simp_all [eqS]; done) | (simp_all [eqS]; omega))
          ·intro c6
           try (first | replace c6 := dFa c6 | replace c6 := Zi c6)
           refine Zw (Zx (Zc (Zf (Zb (Za rfl (Zg rfl) ?_)))))
           refine Ze (Zc (Zv (Zq (Yh rfl rfl ?_))))
           first | (simp_all [isInstrB, eqS]; done) | (simp_all [isInstrB, eqS]; omega) | (simp only [isInstrB]; (repeat' split) <;> first | (exfalso; omega) | (simp_all [eqS]; done) | (simp_all [eqS]; omega))
  ·intro c2
   try (first | replace c2 := dFa c2 | replace c2 := Zi c2)
   refine Zw (Zc (Zf (Zf (Zb (Za rfl (Zh (ff rfl) rfl) ?_)))))
   refine Za rfl (Zj (t1 rfl) rfl (Zl 2 rfl rfl)) (Za rfl (Ex_neq rfl rfl) (Za rfl (Zd rfl) (Yr rfl rfl rfl ?_ ?_)))
   ·intro h7
    try (first | replace h7 := dTr h7 | replace h7 := Zk h7)
    refine Zp rfl rfl rfl (Zp rfl rfl rfl (Za rfl (Zt rfl rfl) (Ze (Zc (Xq rfl ?_)))))
    refine Zf (Zb (Za rfl (Zg rfl) (Ze (Zc (Zv ?_)))))
    refine Zq (Yh rfl rfl ?_)
    first | (simp_all [isInstrB, eqS]; done) | (simp_all [isInstrB, eqS]; omega) | (simp only [isInstrB]; (repeat' split) <;> first | (exfalso; omega) | (simp_all [eqS]; done) | (simp_all [eqS]; omega))
   ·intro h7
    try (first | replace h7 := dFa h7 | replace h7 := Zi h7)
    refine Zo rfl rfl rfl (Zd rfl) (Zo rfl rfl rfl (Ex_not rfl) (Za rfl (Zz rfl rfl) (Ze (Zc (Yi rfl ?_ ?_)))))
    ·intro c7
     try (first | replace c7 := dTr c7 | replace c7 := Zk c7)
     refine Zf (Zb (Za rfl (Zg rfl) (Ze (Zc (Zv ?_)))))
     refine Zq (Yh rfl rfl ?_)
     first | (simp_all [isInstrB, eqS]; done) | (simp_all [isInstrB, eqS]; omega) | (simp only [isInstrB]; (repeat' split) <;> first | (exfalso; omega) | (simp_all [eqS]; done) | (simp_all [eqS]; omega))
    ·intro c7
     try (first | replace c7 := dFa c7 | replace c7 := Zi c7)
     refine Zw (Zc (Zf (Zf (Zb (Za rfl (Zd rfl) ?_)))))
     refine Ze (Zc (Zs (Zf (Zb (Za rfl (Xc rfl rfl) ?_)))))
     refine Za rfl (Zg rfl) (Ze (Zc (Yi rfl ?_ ?_)))
     ·intro c8
      try (first | replace c8 := dTr c8 | replace c8 := Zk c8)
      refine Zf (Zb (Za rfl (Zh (ff rfl) rfl) (Za rfl (Zj (t1 rfl) rfl (Zl 0 rfl rfl)) (Za rfl (Ex_eqlS rfl rfl) (Za rfl (Zd rfl) ?_)))))
      refine Yr rfl rfl rfl ?_ ?_
      ·intro h8
       try (first | replace h8 := dTr h8 | replace h8 := Zk h8)
       refine Zo rfl rfl rfl (Zh (ff rfl) rfl) (Zo rfl rfl rfl (Zj (t1 rfl) rfl (Zl 0 rfl rfl)) (Zo rfl rfl rfl (Yg (ts rfl) rfl) (Zo rfl rfl rfl (Xc rfl rfl) (Za rfl (Zt rfl rfl) (Za rfl (Zd rfl) ?_)))))
       refine Yr rfl rfl rfl ?_ ?_
       ·intro h9
        try (first | replace h9 := dTr h9 | replace h9 := Zk h9)
        refine Zo rfl rfl rfl (Zh (ff rfl) rfl) (Zo rfl rfl rfl (Zh (ff rfl) rfl) (Zo rfl rfl rfl (Zj (t1 rfl) rfl (Zl 0 rfl rfl)) (Zo rfl rfl rfl (Xc rfl rfl) (Za rfl (Zt rfl rfl) (Za rfl (Zd rfl) ?_)))))
        refine Yr rfl rfl rfl ?_ ?_
        ·intro h10
         try (first | replace h10 := dTr h10 | replace h10 := Zk h10)
         refine Zo rfl rfl rfl (Zh (ff rfl) rfl) (Zo rfl rfl rfl (Zh (ff rfl) rfl) (Zo rfl rfl rfl (Zj (t1 rfl) rfl (Zl 0 rfl rfl)) (Zo rfl rfl rfl (Ex_eqlS rfl rfl) (Za rfl (Zt rfl rfl) (Za rfl (Zg rfl) ?_)))))
         refine Ze (Zc (Zv (Zq (Zq (Yh rfl rfl ?_)))))
         first | (simp_all [isInstrB, eqS]; done) | (simp_all [isInstrB, eqS]; omega) | (simp only [isInstrB]; (repeat' split) <;> first | (exfalso; omega) | (simp_all [eqS]; done) | (simp_all [eqS]; omega))
        ·intro h10
         try (first | replace h10 := dFa h10 | replace h10 := Zi h10)
         refine Zp rfl rfl rfl (Zp rfl rfl rfl (Zp rfl rfl rfl (Zp rfl rfl rfl (Za rfl (Zz rfl rfl) (Za rfl (Zg rfl) ?_)))))
         refine Ze (Zc (Zv (Zq (Zq (Yh rfl rfl ?_)))))
         first | (simp_all [isInstrB, eqS]; done) | (simp_all [isInstrB, eqS]; omega) | (simp only [isInstrB]; (repeat' split) <;> first | (exfalso; omega) | (simp_all [eqS]; done) | (simp_all [eqS]; omega))
       ·intro h9
        try (first | replace h9 := dFa h9 | replace h9 := Zi h9)
        refine Zp rfl rfl rfl (Zp rfl rfl rfl (Zp rfl rfl rfl (Zp rfl rfl rfl (Za rfl (Zz rfl rfl) (Za rfl (Zd rfl) ?_)))))
        refine Zp rfl rfl rfl (Zp rfl rfl rfl (Zp rfl rfl rfl (Zp rfl rfl rfl (Za rfl (Zz rfl rfl) (Za rfl (Zg rfl) ?_)))))
        refine Ze (Zc (Zv (Zq (Zq (Yh rfl rfl ?_)))))
        first | (simp_all [isInstrB, eqS]; done) | (simp_all [isInstrB, eqS]; omega) | (simp only [isInstrB]; (repeat' split) <;> first | (exfalso; omega) | (simp_all [eqS]; done) | (simp_all [eqS]; omega))
      ·intro h8
       try (first | replace h8 := dFa h8 | replace h8 := Zi h8)
       refine Zp rfl rfl rfl (Zp rfl rfl rfl (Zp rfl rfl rfl (Zp rfl rfl rfl (Za rfl (Zz rfl rfl) (Za rfl (Zd rfl) ?_)))))
       refine Zp rfl rfl rfl (Zp rfl rfl rfl (Zp rfl rfl rfl (Zp rfl rfl rfl (Za rfl (Zz rfl rfl) (Za rfl (Zd rfl) ?_)))))
       refine Zp rfl rfl rfl (Zp rfl rfl rfl (Zp rfl rfl rfl (Zp rfl rfl rfl (Za rfl (Zz rfl rfl) (Za rfl (Zg rfl) ?_)))))
       refine Ze (Zc (Zv (Zq (Zq (Yh rfl rfl ?_)))))
       first | (simp_all [isInstrB, eqS]; done) | (simp_all [isInstrB, eqS]; omega) | (simp only [isInstrB]; (repeat' split) <;> first | (exfalso; omega) | (simp_all [eqS]; done) | (simp_all [eqS]; omega))
     ·intro c8
      try (first | replace c8 := dFa c8 | replace c8 := Zi c8)
      refine Zf (Zb (Za rfl (Xc rfl rfl) (Za rfl (Zg rfl) (Ze (Zc ?_)))))
      refine Yi rfl ?_ ?_
      ·intro c9
       try (first | replace c9 := dTr c9 | replace c9 := Zk c9)
       refine Zf (Zb (Za rfl (Zd rfl) (Za rfl (Zd rfl) (Yr rfl rfl rfl ?_ ?_))))
       ·intro h11
        try (first | replace h11 := dTr h11 | replace h11 := Zk h11)
        refine Zo rfl rfl rfl (Zh (ff rfl) rfl) (Zo rfl rfl rfl (Zj (t1 rfl) rfl (Zl 0 rfl rfl)) (Zo rfl rfl rfl (Yg (ts rfl) rfl) (Zo rfl rfl rfl (Xc rfl rfl) (Za rfl (Zt rfl rfl) (Za rfl (Zd rfl) ?_)))))
        refine Yr rfl rfl rfl ?_ ?_
        ·intro h12
         try (first | replace h12 := dTr h12 | replace h12 := Zk h12)
         refine Zo rfl rfl rfl (Zd rfl) (Za rfl (Zt rfl rfl) (Za rfl (Zg rfl) (Ze (Zc (Zv ?_)))))
         refine Zq (Zq (Yh rfl rfl ?_))
         first | (simp_all [isInstrB, eqS]; done) | (simp_all [isInstrB, eqS]; omega) | (simp only [isInstrB]; (repeat' split) <;> first | (exfalso; omega) | (simp_all [eqS]; done) | (simp_all [eqS]; omega))
        ·intro h12
         try (first | replace h12 := dFa h12 | replace h12 := Zi h12)
         refine Zp rfl rfl rfl (Za rfl (Zz rfl rfl) (Za rfl (Zg rfl) (Ze (Zc (Zv ?_)))))
         refine Zq (Zq (Yh rfl rfl ?_))
         first | (simp_all [isInstrB, eqS]; done) | (simp_all [isInstrB, eqS]; omega) | (simp only [isInstrB]; (repeat' split) <;> first | (exfalso; omega) | (simp_all [eqS]; done) | (simp_all [eqS]; omega))
       ·intro h11
        try (first | replace h11 := dFa h11 | replace h11 := Zi h11)
        refine Zp rfl rfl rfl (Zp rfl rfl rfl (Zp rfl rfl rfl (Zp rfl rfl rfl (Za rfl (Zz rfl rfl) (Za rfl (Zd rfl) ?_)))))
        refine Zp rfl rfl rfl (Za rfl (Zz rfl rfl) (Za rfl (Zg rfl) (Ze (Zc (Zv ?_)))))
        refine Zq (Zq (Yh rfl rfl ?_))
        first | (simp_all [isInstrB, eqS]; done) | (simp_all [isInstrB, eqS]; omega) | (simp only [isInstrB]; (repeat' split) <;> first | (exfalso; omega) | (simp_all [eqS]; done) | (simp_all [eqS]; omega))
      ·intro c9
       try (first | replace c9 := dFa c9 | replace c9 := Zi c9)
       refine Zw (Zx (Zc (Zf (Zb (Za rfl (Zd rfl) ?_)))))
       refine Za rfl (Zd rfl) (Yr rfl rfl rfl ?_ ?_)
       ·intro h13
        try (first | replace h13 := dTr h13 | replace h13 := Zk h13)
        refine Zo rfl rfl rfl (Zh (ff rfl) rfl) (Zo rfl rfl rfl (Zj (t1 rfl) rfl (Zl 0 rfl rfl)) (Zo rfl rfl rfl (Yg (ts rfl) rfl) (Zo rfl rfl rfl (Ex_leq rfl rfl) (Za rfl (Zt rfl rfl) (Za rfl (Zd rfl) ?_)))))
        refine Yr rfl rfl rfl ?_ ?_
        ·intro h14
         try (first | replace h14 := dTr h14 | replace h14 := Zk h14)
         refine Zo rfl rfl rfl (Zd rfl) (Za rfl (Zt rfl rfl) (Za rfl (Zd rfl) (Yr rfl rfl rfl ?_ ?_)))
         ·intro h15
          try (first | replace h15 := dTr h15 | replace h15 := Zk h15)
          refine Zo rfl rfl rfl (Zd rfl) (Za rfl (Zt rfl rfl) (Za rfl (Zg rfl) (Ze (Zc (Zv ?_)))))
          refine Yh rfl rfl ?_
          first | (simp_all [isInstrB, eqS]; done) | (simp_all [isInstrB, eqS]; omega) | (simp only [isInstrB]; (repeat' split) <;> first | (exfalso; omega) | (simp_all [eqS]; done) | (simp_all [eqS]; omega))
         ·intro h15
          try (first | replace h15 := dFa h15 | replace h15 := Zi h15)
          refine Zp rfl rfl rfl (Za rfl (Zz rfl rfl) (Za rfl (Zg rfl) (Ze (Zc (Zv ?_)))))
          refine Yh rfl rfl ?_
          first | (simp_all [isInstrB, eqS]; done) | (simp_all [isInstrB, eqS]; omega) | (simp only [isInstrB]; (repeat' split) <;> first | (exfalso; omega) | (simp_all [eqS]; done) | (simp_all [eqS]; omega))
        ·intro h14
         try (first | replace h14 := dFa h14 | replace h14 := Zi h14)
         refine Zp rfl rfl rfl (Za rfl (Zz rfl rfl) (Za rfl (Zd rfl) (Zp rfl rfl rfl (Za rfl (Zz rfl rfl) (Za rfl (Zg rfl) ?_)))))
         refine Ze (Zc (Zv (Yh rfl rfl ?_)))
         first | (simp_all [isInstrB, eqS]; done) | (simp_all [isInstrB, eqS]; omega) | (simp only [isInstrB]; (repeat' split) <;> first | (exfalso; omega) | (simp_all [eqS]; done) | (simp_all [eqS]; omega))
       ·intro h13
        try (first | replace h13 := dFa h13 | replace h13 := Zi h13)
        refine Zp rfl rfl rfl (Zp rfl rfl rfl (Zp rfl rfl rfl (Zp rfl rfl rfl (Za rfl (Zz rfl rfl) (Za rfl (Zd rfl) ?_)))))
        refine Zp rfl rfl rfl (Za rfl (Zz rfl rfl) (Za rfl (Zd rfl) (Zp rfl rfl rfl (Za rfl (Zz rfl rfl) (Za rfl (Zg rfl) ?_)))))
        refine Ze (Zc (Zv (Yh rfl rfl ?_)))
        first | (simp_all [isInstrB, eqS]; done) | (simp_all [isInstrB, eqS]; omega) | (simp only [isInstrB]; (repeat' split) <;> first | (exfalso; omega) | (simp_all [eqS]; done) | (simp_all [eqS]; omega))
end Go.Proofs.YtpofmnfkdkmieaaGreat
