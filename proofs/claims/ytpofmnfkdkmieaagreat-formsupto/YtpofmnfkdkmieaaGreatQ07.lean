/- What is proved here: the document's own answers IsName, isType, areTypes, sort answer as the plain functions do. the document's own answer low writes a number as so many bytes, the lowest first. -/
import Derived.Test.YtpofmnfkdkmieaaGreatQ05
import Derived.Test.YtpofmnfkdkmieaaGreatQ06
set_option linter.unusedVariables false
set_option linter.unusedSimpArgs false
namespace Go.Proofs.YtpofmnfkdkmieaaGreat
open Go.RowKit At E
theorem isName_any (s : ByteArray) (w : World) (hs : strOk s) : Pure Tryz.prog 93 #[.string s] w (.bool (isNameB s)) := by
 unfold strOk at hs
 by_cases hlen : 1 ≤ s.size ∧ s.size ≤ 12
 ·skip
  refine opens (args := [.string s]) Tryz.func93 rfl Tryz.ntmps93 ?_
  refine Zf (Zb (Za rfl (Zg rfl) (Ze (Zc (Zf ?_)))))
  refine Zf (Zb (Za rfl (Zd rfl) (Za rfl (Ex_lenS (tstr rfl) rfl) (Za rfl (Xb rfl rfl) (Za rfl (Zd rfl) ?_)))))
  refine Yr rfl rfl rfl ?_ ?_
  ·intro h1
   try (first | replace h1 := dTr h1 | replace h1 := Zk h1)
   refine Zp rfl rfl rfl (Zp rfl rfl rfl (Zp rfl rfl rfl (Za rfl (Zt rfl rfl) (Ze (Zc ?_)))))
   refine Xq rfl (Zf (Zb (Za rfl (Zg rfl) (Ze (Zc ?_)))))
   refine Zv (Zq (Yh rfl rfl ?_))
   first | (exfalso; omega) | (rw [isNameB_false hk (okAt_no hk (by omega) (by omega) (by omega))]) | (rw [isNameB_true hlen.1 hlen.2 (fun j hj => hI.2 j (by omega))])
  ·intro h1
   try (first | replace h1 := dFa h1 | replace h1 := Zi h1)
   refine Zo rfl rfl rfl (Zd rfl) (Zo rfl rfl rfl (Ex_lenS (tstr rfl) rfl) (Zo rfl rfl rfl (Ex_gtr rfl rfl) (Za rfl (Zz rfl rfl) (Ze (Zc ?_)))))
   refine Yi rfl ?_ ?_
   ·intro c1
    try (first | replace c1 := dTr c1 | replace c1 := Zk c1)
    refine Zf (Zb (Za rfl (Zg rfl) (Ze (Zc (Zv ?_)))))
    refine Zq (Yh rfl rfl ?_)
    first | (exfalso; omega) | (rw [isNameB_false hk (okAt_no hk (by omega) (by omega) (by omega))]) | (rw [isNameB_true hlen.1 hlen.2 (fun j hj => hI.2 j (by omega))])
   ·intro c1
    try (first | replace c1 := dFa c1 | replace c1 := Zi c1)
    refine Zw (Zc (Zf (Zf (Zb (Za rfl (Zg rfl) ?_)))))
    refine Ze (Zc (Zs (Xh (E' := (fun k : Nat => [(0, .string s), (3, .int .i64 (k : Nat))]) (0)) ⟨rfl, rfl, trivial⟩ (Yy (X := Nat) (fun k : Nat => [(0, .string s), (3, .int .i64 (k : Nat))]) _ _ (fun k : Nat => []) (fun k : Nat => Asr.none) (fun k : Nat => k ≤ s.size ∧ ∀ j, j < k → okAt s j = true) (fun k : Nat => s.size - k) (0) (⟨Nat.zero_le _, fun j hj => absurd hj (Nat.not_lt_zero j)⟩) ?_))))
    intro k hI
    refine Zf (Zf (Zb (Za rfl (Zd rfl) (Za rfl (Zd rfl) (Za rfl (Ex_lenS (tstr rfl) rfl) ?_)))))
    refine Za rfl (Xb rfl rfl) (Ze (Zc (Yi rfl ?_ ?_)))
    ·intro c2
     try (first | replace c2 := dTr c2 | replace c2 := Zk c2)
     have hk : k < s.size := by omega
     refine Zw (Zc (Zf (Zs (Zf (Zb ?_)))))
     refine Za rfl (Zd rfl) (Za rfl (Zd rfl) (Za rfl (Ex_indexS (tstr rfl) rfl rfl ?_) ?_))
     ·omega
     refine Za rfl (Zg rfl) (Ze (Zc (Zf (Zb (Za rfl (Zd rfl) ?_)))))
     refine Za rfl (Ex_geq rfl rfl) (Za rfl (Zd rfl) (Yr rfl rfl rfl ?_ ?_))
     ·intro h2
      try (first | replace h2 := dTr h2 | replace h2 := Zk h2)
      refine Zo rfl rfl rfl (Zd rfl) (Zo rfl rfl rfl (Ex_leq rfl rfl) (Za rfl (Zt rfl rfl) (Za rfl (Zd rfl) (Yr rfl rfl rfl ?_ ?_))))
      ·intro h3
       try (first | replace h3 := dTr h3 | replace h3 := Zk h3)
       refine Zp rfl rfl rfl (Zp rfl rfl rfl (Zp rfl rfl rfl (WL_und rfl rfl rfl (WL_und rfl rfl rfl (Zp rfl rfl rfl ?_)))))
       refine Za rfl (Zt rfl rfl) (Za rfl (Zg rfl) (Ze (Zc (Zf (Zb ?_)))))
       refine Za rfl (Zd rfl) (Za rfl (Ex_not rfl) (Za rfl (Zd rfl) (Zp rfl rfl rfl (Zp rfl rfl rfl (Zp rfl rfl rfl ?_)))))
       refine WL_und rfl rfl rfl (WL_und rfl rfl rfl (Zp rfl rfl rfl (Zp rfl rfl rfl (WL_und rfl rfl rfl (WL_und rfl rfl rfl ?_)))))
       refine Zp rfl rfl rfl (Za rfl (Zz rfl rfl) (Ze (Zc (WC_false rfl (Zw ?_)))))
       refine Zx (Zc (Zb (Za rfl (Zd rfl) ?_)))
       (first | (refine Za rfl (Xa rfl rfl ?_) ?_; omega) | (refine Za rfl (Yp rfl rfl ?_) ?_; omega) | refine Za rfl (Yz rfl rfl) ?_)
       refine Za rfl (Zg rfl) (Ze ?_)
       refine Yn (k + 1) ?_ (⟨hk, okAt_next hI.2 (by first | exact okAt_let hk (.inl (by omega)) | exact okAt_let hk (.inr (by omega)) | exact okAt_dig hk (by omega) (by omega) | (exfalso; omega))⟩) 0 rfl (rfl) ⟨rfl, rfl, trivial⟩
       omega
      ·intro h3
       try (first | replace h3 := dFa h3 | replace h3 := Zi h3)
       refine Zo rfl rfl rfl (Zd rfl) (Zo rfl rfl rfl (Ex_geq rfl rfl) (Zo rfl rfl rfl (Zd rfl) (Yr rfl rfl rfl ?_ ?_)))
       ·intro h4
        try (first | replace h4 := dTr h4 | replace h4 := Zk h4)
        refine Zo rfl rfl rfl (Zd rfl) (Zo rfl rfl rfl (Ex_leq rfl rfl) (Zo rfl rfl rfl (Zt rfl rfl) (Za rfl (Zz rfl rfl) (Za rfl (Zg rfl) (Ze ?_)))))
        refine Zc (Zf (Zb (Za rfl (Zd rfl) (Za rfl (Ex_not rfl) (Za rfl (Zd rfl) ?_)))))
        refine Yr rfl rfl rfl ?_ ?_
        ·intro h5
         try (first | replace h5 := dTr h5 | replace h5 := Zk h5)
         refine Zo rfl rfl rfl (Zd rfl) (Zo rfl rfl rfl (Xc rfl rfl) (Zo rfl rfl rfl (Zd rfl) (Yr rfl rfl rfl ?_ ?_)))
         ·intro h6
          try (first | replace h6 := dTr h6 | replace h6 := Zk h6)
          refine Zp rfl rfl rfl (Zp rfl rfl rfl (Zo rfl rfl rfl (Zt rfl rfl) (Zo rfl rfl rfl (Zd rfl) (Zp rfl rfl rfl (Zp rfl rfl rfl ?_)))))
          refine Zo rfl rfl rfl (Zt rfl rfl) (Za rfl (Zt rfl rfl) (Ze (Zc (Xq rfl (Zf ?_)))))
          refine Zb (Za rfl (Zg rfl) (Ze (Zc (Zv (Zq ?_)))))
          refine Zq (Zq (Zq (Zq (Yh rfl rfl ?_))))
          first | (exfalso; omega) | (rw [isNameB_false hk (okAt_no hk (by omega) (by omega) (by omega))]) | (rw [isNameB_true hlen.1 hlen.2 (fun j hj => hI.2 j (by omega))])
         ·intro h6
          try (first | replace h6 := dFa h6 | replace h6 := Zi h6)
          refine Zo rfl rfl rfl (Zd rfl) (Zo rfl rfl rfl (Xb rfl rfl) (Zo rfl rfl rfl (Zz rfl rfl) (Zo rfl rfl rfl (Zd rfl) (Yr rfl rfl rfl ?_ ?_))))
          ·intro h7
           try (first | replace h7 := dTr h7 | replace h7 := Zk h7)
           refine Zp rfl rfl rfl (Zp rfl rfl rfl (Zo rfl rfl rfl (Zt rfl rfl) (Za rfl (Zt rfl rfl) (Ze (Zc ?_)))))
           refine Xq rfl (Zf (Zb (Za rfl (Zg rfl) (Ze (Zc ?_)))))
           refine Zv (Zq (Zq (Zq (Zq (Zq ?_)))))
           refine Yh rfl rfl ?_
           first | (exfalso; omega) | (rw [isNameB_false hk (okAt_no hk (by omega) (by omega) (by omega))]) | (rw [isNameB_true hlen.1 hlen.2 (fun j hj => hI.2 j (by omega))])
          ·intro h7
           try (first | replace h7 := dFa h7 | replace h7 := Zi h7)
           refine Zo rfl rfl rfl (Zd rfl) (Zo rfl rfl rfl (Ex_gtr rfl rfl) (Zo rfl rfl rfl (Zz rfl rfl) (Za rfl (Zt rfl rfl) (Ze (Zc ?_)))))
           refine Yi rfl ?_ ?_
           ·intro c3
            try (first | replace c3 := dTr c3 | replace c3 := Zk c3)
            refine Zf (Zb (Za rfl (Zg rfl) (Ze (Zc (Zv ?_)))))
            refine Zq (Zq (Zq (Zq (Zq (Yh rfl rfl ?_)))))
            first | (exfalso; omega) | (rw [isNameB_false hk (okAt_no hk (by omega) (by omega) (by omega))]) | (rw [isNameB_true hlen.1 hlen.2 (fun j hj => hI.2 j (by omega))])
           ·intro c3
            try (first | replace c3 := dFa c3 | replace c3 := Zi c3)
            refine Zw (Zx (Zc (Zb (Za rfl (Zd rfl) ?_))))
            (first | (refine Za rfl (Xa rfl rfl ?_) ?_; omega) | (refine Za rfl (Yp rfl rfl ?_) ?_; omega) | refine Za rfl (Yz rfl rfl) ?_)
            refine Za rfl (Zg rfl) (Ze ?_)
            refine Yn (k + 1) ?_ (⟨hk, okAt_next hI.2 (by first | exact okAt_let hk (.inl (by omega)) | exact okAt_let hk (.inr (by omega)) | exact okAt_dig hk (by omega) (by omega) | (exfalso; omega))⟩) 0 rfl (rfl) ⟨rfl, rfl, trivial⟩
            omega
        ·intro h5
         try (first | replace h5 := dFa h5 | replace h5 := Zi h5)
         refine Zp rfl rfl rfl (Zp rfl rfl rfl (Zp rfl rfl rfl (WL_und rfl rfl rfl (WL_und rfl rfl rfl (Zp rfl rfl rfl ?_)))))
         refine Zp rfl rfl rfl (WL_und rfl rfl rfl (WL_und rfl rfl rfl (Zp rfl rfl rfl (Za rfl (Zz rfl rfl) (Ze ?_)))))
         refine Zc (WC_false rfl (Zw (Zx (Zc (Zb ?_)))))
         refine Za rfl (Zd rfl) ?_
         (first | (refine Za rfl (Xa rfl rfl ?_) ?_; omega) | (refine Za rfl (Yp rfl rfl ?_) ?_; omega) | refine Za rfl (Yz rfl rfl) ?_)
         refine Za rfl (Zg rfl) (Ze ?_)
         refine Yn (k + 1) ?_ (⟨hk, okAt_next hI.2 (by first | exact okAt_let hk (.inl (by omega)) | exact okAt_let hk (.inr (by omega)) | exact okAt_dig hk (by omega) (by omega) | (exfalso; omega))⟩) 0 rfl (rfl) ⟨rfl, rfl, trivial⟩
         omega
       ·intro h4
        try (first | replace h4 := dFa h4 | replace h4 := Zi h4)
        refine Zp rfl rfl rfl (Zp rfl rfl rfl (Zo rfl rfl rfl (Zz rfl rfl) (Za rfl (Zz rfl rfl) (Za rfl (Zg rfl) (Ze ?_)))))
        refine Zc (Zf (Zb (Za rfl (Zd rfl) (Za rfl (Ex_not rfl) (Za rfl (Zd rfl) ?_)))))
        refine Zo rfl rfl rfl (Zd rfl) (Zo rfl rfl rfl (Xc rfl rfl) (Zo rfl rfl rfl (Zd rfl) (Yr rfl rfl rfl ?_ ?_)))
        ·intro h8
         try (first | replace h8 := dTr h8 | replace h8 := Zk h8)
         refine Zp rfl rfl rfl (Zp rfl rfl rfl (Zo rfl rfl rfl (Zt rfl rfl) (Zo rfl rfl rfl (Zd rfl) (Zp rfl rfl rfl (Zp rfl rfl rfl ?_)))))
         refine Zo rfl rfl rfl (Zt rfl rfl) (Za rfl (Zt rfl rfl) (Ze (Zc (Xq rfl (Zf ?_)))))
         refine Zb (Za rfl (Zg rfl) (Ze (Zc (Zv (Zq ?_)))))
         refine Zq (Zq (Zq (Zq (Yh rfl rfl ?_))))
         first | (exfalso; omega) | (rw [isNameB_false hk (okAt_no hk (by omega) (by omega) (by omega))]) | (rw [isNameB_true hlen.1 hlen.2 (fun j hj => hI.2 j (by omega))])
        ·intro h8
         try (first | replace h8 := dFa h8 | replace h8 := Zi h8)
         refine Zo rfl rfl rfl (Zd rfl) (Zo rfl rfl rfl (Xb rfl rfl) (Zo rfl rfl rfl (Zz rfl rfl) (Zo rfl rfl rfl (Zd rfl) (Yr rfl rfl rfl ?_ ?_))))
         ·intro h9
          try (first | replace h9 := dTr h9 | replace h9 := Zk h9)
          refine Zp rfl rfl rfl (Zp rfl rfl rfl (Zo rfl rfl rfl (Zt rfl rfl) (Za rfl (Zt rfl rfl) (Ze (Zc ?_)))))
          refine Xq rfl (Zf (Zb (Za rfl (Zg rfl) (Ze (Zc ?_)))))
          refine Zv (Zq (Zq (Zq (Zq (Zq ?_)))))
          refine Yh rfl rfl ?_
          first | (exfalso; omega) | (rw [isNameB_false hk (okAt_no hk (by omega) (by omega) (by omega))]) | (rw [isNameB_true hlen.1 hlen.2 (fun j hj => hI.2 j (by omega))])
         ·intro h9
          try (first | replace h9 := dFa h9 | replace h9 := Zi h9)
          refine Zo rfl rfl rfl (Zd rfl) (Zo rfl rfl rfl (Ex_gtr rfl rfl) (Zo rfl rfl rfl (Zz rfl rfl) (Za rfl (Zt rfl rfl) (Ze (Zc ?_)))))
          refine Yi rfl ?_ ?_
          ·intro c3
           try (first | replace c3 := dTr c3 | replace c3 := Zk c3)
           refine Zf (Zb (Za rfl (Zg rfl) (Ze (Zc (Zv ?_)))))
           refine Zq (Zq (Zq (Zq (Zq (Yh rfl rfl ?_)))))
           first | (exfalso; omega) | (rw [isNameB_false hk (okAt_no hk (by omega) (by omega) (by omega))]) | (rw [isNameB_true hlen.1 hlen.2 (fun j hj => hI.2 j (by omega))])
          ·intro c3
           try (first | replace c3 := dFa c3 | replace c3 := Zi c3)
           refine Zw (Zx (Zc (Zb (Za rfl (Zd rfl) ?_))))
           (first | (refine Za rfl (Xa rfl rfl ?_) ?_; omega) | (refine Za rfl (Yp rfl rfl ?_) ?_; omega) | refine Za rfl (Yz rfl rfl) ?_)
           refine Za rfl (Zg rfl) (Ze ?_)
           refine Yn (k + 1) ?_ (⟨hk, okAt_next hI.2 (by first | exact okAt_let hk (.inl (by omega)) | exact okAt_let hk (.inr (by omega)) | exact okAt_dig hk (by omega) (by omega) | (exfalso; omega))⟩) 0 rfl (rfl) ⟨rfl, rfl, trivial⟩
           omega
     ·intro h2
      try (first | replace h2 := dFa h2 | replace h2 := Zi h2)
      refine Zp rfl rfl rfl (Zp rfl rfl rfl (Za rfl (Zz rfl rfl) (Za rfl (Zd rfl) (Zo rfl rfl rfl (Zd rfl) (Zo rfl rfl rfl (Ex_geq rfl rfl) ?_)))))
      refine Zo rfl rfl rfl (Zd rfl) (Yr rfl rfl rfl ?_ ?_)
      ·intro h10
       try (first | replace h10 := dTr h10 | replace h10 := Zk h10)
       refine Zo rfl rfl rfl (Zd rfl) (Zo rfl rfl rfl (Ex_leq rfl rfl) (Zo rfl rfl rfl (Zt rfl rfl) (Za rfl (Zz rfl rfl) (Za rfl (Zg rfl) (Ze ?_)))))
       refine Zc (Zf (Zb (Za rfl (Zd rfl) (Za rfl (Ex_not rfl) (Za rfl (Zd rfl) ?_)))))
       refine Yr rfl rfl rfl ?_ ?_
       ·intro h11
        try (first | replace h11 := dTr h11 | replace h11 := Zk h11)
        refine Zo rfl rfl rfl (Zd rfl) (Zo rfl rfl rfl (Xc rfl rfl) (Zo rfl rfl rfl (Zd rfl) (Yr rfl rfl rfl ?_ ?_)))
        ·intro h12
         try (first | replace h12 := dTr h12 | replace h12 := Zk h12)
         refine Zp rfl rfl rfl (Zp rfl rfl rfl (Zo rfl rfl rfl (Zt rfl rfl) (Zo rfl rfl rfl (Zd rfl) (Zp rfl rfl rfl (Zp rfl rfl rfl ?_)))))
         refine Zo rfl rfl rfl (Zt rfl rfl) (Za rfl (Zt rfl rfl) (Ze (Zc (Xq rfl (Zf ?_)))))
         refine Zb (Za rfl (Zg rfl) (Ze (Zc (Zv (Zq ?_)))))
         refine Zq (Zq (Zq (Zq (Yh rfl rfl ?_))))
         first | (exfalso; omega) | (rw [isNameB_false hk (okAt_no hk (by omega) (by omega) (by omega))]) | (rw [isNameB_true hlen.1 hlen.2 (fun j hj => hI.2 j (by omega))])
        ·intro h12
         try (first | replace h12 := dFa h12 | replace h12 := Zi h12)
         refine Zo rfl rfl rfl (Zd rfl) (Zo rfl rfl rfl (Xb rfl rfl) (Zo rfl rfl rfl (Zz rfl rfl) (Zo rfl rfl rfl (Zd rfl) (Yr rfl rfl rfl ?_ ?_))))
         ·intro h13
          try (first | replace h13 := dTr h13 | replace h13 := Zk h13)
          refine Zp rfl rfl rfl (Zp rfl rfl rfl (Zo rfl rfl rfl (Zt rfl rfl) (Za rfl (Zt rfl rfl) (Ze (Zc ?_)))))
          refine Xq rfl (Zf (Zb (Za rfl (Zg rfl) (Ze (Zc ?_)))))
          refine Zv (Zq (Zq (Zq (Zq (Zq ?_)))))
          refine Yh rfl rfl ?_
          first | (exfalso; omega) | (rw [isNameB_false hk (okAt_no hk (by omega) (by omega) (by omega))]) | (rw [isNameB_true hlen.1 hlen.2 (fun j hj => hI.2 j (by omega))])
         ·intro h13
          try (first | replace h13 := dFa h13 | replace h13 := Zi h13)
          refine Zo rfl rfl rfl (Zd rfl) (Zo rfl rfl rfl (Ex_gtr rfl rfl) (Zo rfl rfl rfl (Zz rfl rfl) (Za rfl (Zt rfl rfl) (Ze (Zc ?_)))))
          refine Yi rfl ?_ ?_
          ·intro c3
           try (first | replace c3 := dTr c3 | replace c3 := Zk c3)
           refine Zf (Zb (Za rfl (Zg rfl) (Ze (Zc (Zv ?_)))))
           refine Zq (Zq (Zq (Zq (Zq (Yh rfl rfl ?_)))))
           first | (exfalso; omega) | (rw [isNameB_false hk (okAt_no hk (by omega) (by omega) (by omega))]) | (rw [isNameB_true hlen.1 hlen.2 (fun j hj => hI.2 j (by omega))])
          ·intro c3
           try (first | replace c3 := dFa c3 | replace c3 := Zi c3)
           refine Zw (Zx (Zc (Zb (Za rfl (Zd rfl) ?_))))
           (first | (refine Za rfl (Xa rfl rfl ?_) ?_; omega) | (refine Za rfl (Yp rfl rfl ?_) ?_; omega) | refine Za rfl (Yz rfl rfl) ?_)
           refine Za rfl (Zg rfl) (Ze ?_)
           refine Yn (k + 1) ?_ (⟨hk, okAt_next hI.2 (by first | exact okAt_let hk (.inl (by omega)) | exact okAt_let hk (.inr (by omega)) | exact okAt_dig hk (by omega) (by omega) | (exfalso; omega))⟩) 0 rfl (rfl) ⟨rfl, rfl, trivial⟩
           omega
       ·intro h11
        try (first | replace h11 := dFa h11 | replace h11 := Zi h11)
        refine Zp rfl rfl rfl (Zp rfl rfl rfl (Zp rfl rfl rfl (WL_und rfl rfl rfl (WL_und rfl rfl rfl (Zp rfl rfl rfl ?_)))))
        refine Zp rfl rfl rfl (WL_und rfl rfl rfl (WL_und rfl rfl rfl (Zp rfl rfl rfl (Za rfl (Zz rfl rfl) (Ze ?_)))))
        refine Zc (WC_false rfl (Zw (Zx (Zc (Zb ?_)))))
        refine Za rfl (Zd rfl) ?_
        (first | (refine Za rfl (Xa rfl rfl ?_) ?_; omega) | (refine Za rfl (Yp rfl rfl ?_) ?_; omega) | refine Za rfl (Yz rfl rfl) ?_)
        refine Za rfl (Zg rfl) (Ze ?_)
        refine Yn (k + 1) ?_ (⟨hk, okAt_next hI.2 (by first | exact okAt_let hk (.inl (by omega)) | exact okAt_let hk (.inr (by omega)) | exact okAt_dig hk (by omega) (by omega) | (exfalso; omega))⟩) 0 rfl (rfl) ⟨rfl, rfl, trivial⟩
        omega
      ·intro h10
       try (first | replace h10 := dFa h10 | replace h10 := Zi h10)
       refine Zp rfl rfl rfl (Zp rfl rfl rfl (Zo rfl rfl rfl (Zz rfl rfl) (Za rfl (Zz rfl rfl) (Za rfl (Zg rfl) (Ze ?_)))))
       refine Zc (Zf (Zb (Za rfl (Zd rfl) (Za rfl (Ex_not rfl) (Za rfl (Zd rfl) ?_)))))
       refine Zo rfl rfl rfl (Zd rfl) (Zo rfl rfl rfl (Xc rfl rfl) (Zo rfl rfl rfl (Zd rfl) (Yr rfl rfl rfl ?_ ?_)))
       ·intro h14
        try (first | replace h14 := dTr h14 | replace h14 := Zk h14)
        refine Zp rfl rfl rfl (Zp rfl rfl rfl (Zo rfl rfl rfl (Zt rfl rfl) (Zo rfl rfl rfl (Zd rfl) (Zp rfl rfl rfl (Zp rfl rfl rfl ?_)))))
        refine Zo rfl rfl rfl (Zt rfl rfl) (Za rfl (Zt rfl rfl) (Ze (Zc (Xq rfl (Zf ?_)))))
        refine Zb (Za rfl (Zg rfl) (Ze (Zc (Zv (Zq ?_)))))
        refine Zq (Zq (Zq (Zq (Yh rfl rfl ?_))))
        first | (exfalso; omega) | (rw [isNameB_false hk (okAt_no hk (by omega) (by omega) (by omega))]) | (rw [isNameB_true hlen.1 hlen.2 (fun j hj => hI.2 j (by omega))])
       ·intro h14
        try (first | replace h14 := dFa h14 | replace h14 := Zi h14)
        refine Zo rfl rfl rfl (Zd rfl) (Zo rfl rfl rfl (Xb rfl rfl) (Zo rfl rfl rfl (Zz rfl rfl) (Zo rfl rfl rfl (Zd rfl) (Yr rfl rfl rfl ?_ ?_))))
        ·intro h15
         try (first | replace h15 := dTr h15 | replace h15 := Zk h15)
         refine Zp rfl rfl rfl (Zp rfl rfl rfl (Zo rfl rfl rfl (Zt rfl rfl) (Za rfl (Zt rfl rfl) (Ze (Zc ?_)))))
         refine Xq rfl (Zf (Zb (Za rfl (Zg rfl) (Ze (Zc ?_)))))
         refine Zv (Zq (Zq (Zq (Zq (Zq ?_)))))
         refine Yh rfl rfl ?_
         first | (exfalso; omega) | (rw [isNameB_false hk (okAt_no hk (by omega) (by omega) (by omega))]) | (rw [isNameB_true hlen.1 hlen.2 (fun j hj => hI.2 j (by omega))])
        ·intro h15
         try (first | replace h15 := dFa h15 | replace h15 := Zi h15)
         refine Zo rfl rfl rfl (Zd rfl) (Zo rfl rfl rfl (Ex_gtr rfl rfl) (Zo rfl rfl rfl (Zz rfl rfl) (Za rfl (Zt rfl rfl) (Ze (Zc ?_)))))
         refine Yi rfl ?_ ?_
         ·intro c3
          try (first | replace c3 := dTr c3 | replace c3 := Zk c3)
          refine Zf (Zb (Za rfl (Zg rfl) (Ze (Zc (Zv ?_)))))
          refine Zq (Zq (Zq (Zq (Zq (Yh rfl rfl ?_)))))
          first | (exfalso; omega) | (rw [isNameB_false hk (okAt_no hk (by omega) (by omega) (by omega))]) | (rw [isNameB_true hlen.1 hlen.2 (fun j hj => hI.2 j (by omega))])
         ·intro c3
          try (first | replace c3 := dFa c3 | replace c3 := Zi c3)
          refine Zw (Zx (Zc (Zb (Za rfl (Zd rfl) ?_))))
          (first | (refine Za rfl (Xa rfl rfl ?_) ?_; omega) | (refine Za rfl (Yp rfl rfl ?_) ?_; omega) | refine Za rfl (Yz rfl rfl) ?_)
          refine Za rfl (Zg rfl) (Ze ?_)
          refine Yn (k + 1) ?_ (⟨hk, okAt_next hI.2 (by first | exact okAt_let hk (.inl (by omega)) | exact okAt_let hk (.inr (by omega)) | exact okAt_dig hk (by omega) (by omega) | (exfalso; omega))⟩) 0 rfl (rfl) ⟨rfl, rfl, trivial⟩
          omega
    ·intro c2
     try (first | replace c2 := dFa c2 | replace c2 := Zi c2)
     refine Yx (Yw (Yo (Yv (Zc (Zf ?_)))))
     refine Zb (Za rfl (Zg rfl) (Ze (Zc (Zv (Yh rfl rfl ?_)))))
     first | (exfalso; omega) | (rw [isNameB_false hk (okAt_no hk (by omega) (by omega) (by omega))]) | (rw [isNameB_true hlen.1 hlen.2 (fun j hj => hI.2 j (by omega))])
 ·rw [isNameB_short (by omega)]
  refine opens (args := [.string s]) Tryz.func93 rfl Tryz.ntmps93 ?_
  refine Zf (Zb (Za rfl (Zg rfl) (Ze (Zc (Zf ?_)))))
  refine Zf (Zb (Za rfl (Zd rfl) (Za rfl (Ex_lenS (tstr rfl) rfl) (Za rfl (Xb rfl rfl) (Za rfl (Zd rfl) ?_)))))
  refine Yr rfl rfl rfl ?_ ?_
  ·intro h1
   try (first | replace h1 := dTr h1 | replace h1 := Zk h1)
   refine Zp rfl rfl rfl (Zp rfl rfl rfl (Zp rfl rfl rfl (Za rfl (Zt rfl rfl) (Ze (Zc ?_)))))
   refine Xq rfl (Zf (Zb (Za rfl (Zg rfl) (Ze (Zc ?_)))))
   refine Zv (Zq (Yh rfl rfl ?_))
   first | rfl | (exfalso; omega)
  ·intro h1
   try (first | replace h1 := dFa h1 | replace h1 := Zi h1)
   refine Zo rfl rfl rfl (Zd rfl) (Zo rfl rfl rfl (Ex_lenS (tstr rfl) rfl) (Zo rfl rfl rfl (Ex_gtr rfl rfl) (Za rfl (Zz rfl rfl) (Ze (Zc ?_)))))
   refine Yi rfl ?_ ?_
   ·intro c1
    try (first | replace c1 := dTr c1 | replace c1 := Zk c1)
    refine Zf (Zb (Za rfl (Zg rfl) (Ze (Zc (Zv ?_)))))
    refine Zq (Yh rfl rfl ?_)
    first | rfl | (exfalso; omega)
   ·intro c1
    try (first | replace c1 := dFa c1 | replace c1 := Zi c1)
    refine Zw (Zc (Zf (Zf (Zb (Za rfl (Zg rfl) ?_)))))
    refine Ze (Zc (Zs ?_))
    exfalso; omega
theorem isType_any (t : Ty) (void odd : Bool) (w : World) (ht : tyOk t) :
  Pure Tryz.prog 94 #[.agg #[.int .i64 t.kind, .string t.cls], .bool void, .bool odd] w (.bool (isTypeB t void odd)) := by
 refine opens (args := [.agg #[.int .i64 t.kind, .string t.cls], .bool void, .bool odd]) Tryz.func94 rfl Tryz.ntmps94 ?_
 refine Zf (Zb (WL_box rfl rfl ?_))
 intro b0 hb0
 refine Za rfl (Zg rfl) (Ze (Zc (Zf (Zf (Zb ?_)))))
 refine Za rfl (Zh (ff rfl) rfl) (Za rfl (Zj (t1 rfl) rfl (Zl 0 rfl rfl)) (Ze (Zc (Zs (Zf ?_)))))
 refine Zb (Za rfl (Xc rfl rfl) (Za rfl (Zg rfl) (Ze (Zc (Yi rfl ?_ ?_)))))
 ·intro c1
  try (first | replace c1 := dTr c1 | replace c1 := Zk c1)
  refine Zf (Zb (Za rfl (Zd rfl) (Za rfl (Zd rfl) (Yr rfl rfl rfl ?_ ?_))))
  ·intro h1
   try (first | replace h1 := dTr h1 | replace h1 := Zk h1)
   refine Zo rfl rfl rfl (Zh (ff rfl) rfl) (Zo rfl rfl rfl (Zj (t1 rfl) rfl (Zl 0 rfl rfl)) (Zo rfl rfl rfl (Ex_eqlS rfl rfl) (Za rfl (Zt rfl rfl) (Za rfl (Zg rfl) (Ze ?_)))))
   refine Zc (Zv (Zq (Zq (Yh rfl rfl ?_))))
   simp_all [isTypeB, eqS]
  ·intro h1
   try (first | replace h1 := dFa h1 | replace h1 := Zi h1)
   refine Zp rfl rfl rfl (Zp rfl rfl rfl (Zp rfl rfl rfl (Za rfl (Zz rfl rfl) (Za rfl (Zg rfl) (Ze ?_)))))
   refine Zc (Zv (Zq (Zq (Yh rfl rfl ?_))))
   simp_all [isTypeB, eqS]
 ·intro c1
  try (first | replace c1 := dFa c1 | replace c1 := Zi c1)
  refine Zf (Zf (Zb (Za rfl (Xc rfl rfl) (Za rfl (Zg rfl) (Ze ?_)))))
  refine Zc (Yi rfl ?_ ?_)
  ·intro c2
   try (first | replace c2 := dTr c2 | replace c2 := Zk c2)
   refine Zw (Zc (Xq rfl (Zf (Zb (Za rfl (Zh (ff rfl) rfl) ?_)))))
   refine Za rfl (Zj (t1 rfl) rfl (Zl 0 rfl rfl)) (Za rfl (Ex_eqlS rfl rfl) (Za rfl (Zg rfl) (Ze (Zc (Zv ?_)))))
   refine Zq (Zq (Yh rfl rfl ?_))
   simp_all [isTypeB, eqS]
  ·intro c2
   try (first | replace c2 := dFa c2 | replace c2 := Zi c2)
   refine Zb (Za rfl (Xc rfl rfl) (Za rfl (Zg rfl) (Ze (Zc (Yi rfl ?_ ?_)))))
   ·intro c3
    try (first | replace c3 := dTr c3 | replace c3 := Zk c3)
    refine Zf (Zb (Za rfl (Zh (ff rfl) rfl) (Za rfl (Zj (t1 rfl) rfl (Zl 0 rfl rfl)) (Za rfl (Ex_eqlS rfl rfl) (Za rfl (Zg rfl) ?_)))))
    refine Ze (Zc (Zv (Zq (Zq (Yh rfl rfl ?_)))))
    simp_all [isTypeB, eqS]
   ·intro c3
    try (first | replace c3 := dFa c3 | replace c3 := Zi c3)
    refine Zf (Zb (Za rfl (Xc rfl rfl) (Za rfl (Zg rfl) (Ze (Zc ?_)))))
    refine Yi rfl ?_ ?_
    ·intro c4
     try (first | replace c4 := dTr c4 | replace c4 := Zk c4)
     refine Zf (Zb (Za rfl (Zh (ff rfl) rfl) (Za rfl (Zj (t1 rfl) rfl (Zl 0 rfl rfl)) (Xi fn93 rfl rfl (fun w _ => isName_any _ w ht.2) ?_))))
     refine Za rfl (Zg rfl) (Ze (Zc (Zf (Zb (Za rfl (Zd rfl) ?_)))))
     refine Za rfl (Zg rfl) (Ze (Zc (Zv (Zq (Zq ?_)))))
     refine Yh rfl rfl ?_
     simp_all [isTypeB, eqS]
    ·intro c4
     try (first | replace c4 := dFa c4 | replace c4 := Zi c4)
     refine Zf (Zf (Zb (Za rfl (Xc rfl rfl) (Za rfl (Zg rfl) (Ze ?_)))))
     refine Zc (Yi rfl ?_ ?_)
     ·intro c5
      try (first | replace c5 := dTr c5 | replace c5 := Zk c5)
      refine Zw (Zc (Xq rfl (Zf (Zb (Za rfl (Zd rfl) ?_)))))
      refine Za rfl (Zd rfl) (Yr rfl rfl rfl ?_ ?_)
      ·intro h2
       try (first | replace h2 := dTr h2 | replace h2 := Zk h2)
       refine Zo rfl rfl rfl (Zh (ff rfl) rfl) (Zo rfl rfl rfl (Zj (t1 rfl) rfl (Zl 0 rfl rfl)) (Zo rfl rfl rfl (Ex_eqlS rfl rfl) (Za rfl (Zt rfl rfl) (Za rfl (Zg rfl) (Ze ?_)))))
       refine Zc (Zv (Zq (Zq (Yh rfl rfl ?_))))
       simp_all [isTypeB, eqS]
      ·intro h2
       try (first | replace h2 := dFa h2 | replace h2 := Zi h2)
       refine Zp rfl rfl rfl (Zp rfl rfl rfl (Zp rfl rfl rfl (Za rfl (Zz rfl rfl) (Za rfl (Zg rfl) (Ze ?_)))))
       refine Zc (Zv (Zq (Zq (Yh rfl rfl ?_))))
       simp_all [isTypeB, eqS]
     ·intro c5
      try (first | replace c5 := dFa c5 | replace c5 := Zi c5)
      refine Zb (Za rfl (Xc rfl rfl) (Za rfl (Zg rfl) (Ze (Zc (Yi rfl ?_ ?_)))))
      ·intro c6
       try (first | replace c6 := dTr c6 | replace c6 := Zk c6)
       refine Zf (Zb (Za rfl (Zd rfl) (Za rfl (Zd rfl) (Yr rfl rfl rfl ?_ ?_))))
       ·intro h3
        try (first | replace h3 := dTr h3 | replace h3 := Zk h3)
        refine Zo rfl rfl rfl (Zh (ff rfl) rfl) (Zo rfl rfl rfl (Zj (t1 rfl) rfl (Zl 0 rfl rfl)) (Zo rfl rfl rfl (Ex_eqlS rfl rfl) (Za rfl (Zt rfl rfl) (Za rfl (Zg rfl) (Ze ?_)))))
        refine Zc (Zv (Zq (Zq (Yh rfl rfl ?_))))
        simp_all [isTypeB, eqS]
       ·intro h3
        try (first | replace h3 := dFa h3 | replace h3 := Zi h3)
        refine Zp rfl rfl rfl (Zp rfl rfl rfl (Zp rfl rfl rfl (Za rfl (Zz rfl rfl) (Za rfl (Zg rfl) (Ze ?_)))))
        refine Zc (Zv (Zq (Zq (Yh rfl rfl ?_))))
        simp_all [isTypeB, eqS]
      ·intro c6
       try (first | replace c6 := dFa c6 | replace c6 := Zi c6)
       refine Zw (Zx (Zc (Zf (Zb (Za rfl (Zg rfl) ?_)))))
       refine Ze (Zc (Zv (Yh rfl rfl ?_)))
       simp_all [isTypeB, eqS]
theorem areTypes_any (v : Value) (l : List Ty) (odd : Bool) (w : World) (hv : TysAt w v l) :
  Pure Tryz.prog 134 #[v, .bool odd] w (.bool (areTypesB l odd)) := by
 unfold areTypesB
 obtain ⟨p, c, rfl, hl, hr⟩ := hv.parts
 refine opens (args := [.slice p l.length c, .bool odd]) Tryz.func134 rfl Tryz.ntmps134 ?_
 refine Zf (Zb (Za rfl (Zg rfl) (Ze (Zc (Zf ?_)))))
 refine Zf (Zb (Za rfl (Zg rfl) (Ze (Zc (Zs ?_)))))
 refine Xh (E' := (fun k : Nat => [(0, .slice p l.length c), (1, .bool odd), (5, .int .i64 (k : Nat))]) (0)) ⟨rfl, rfl, rfl, trivial⟩ (Yy (X := Nat) (fun k : Nat => [(0, .slice p l.length c), (1, .bool odd), (5, .int .i64 (k : Nat))]) _ _ (fun k : Nat => []) (fun k : Nat => Asr.none) (fun k : Nat => k ≤ l.length ∧ (l.take k).all (fun t => isTypeB t false odd) = true) (fun k : Nat => l.length - k) (0) (⟨Nat.zero_le _, rfl⟩) ?_)
 intro k hI
 refine Zf (Zf (Zb (Za rfl (Zd rfl) (Za rfl (Zd rfl) (Za rfl (Yg (ts rfl) rfl) ?_)))))
 refine Za rfl (Xb rfl rfl) (Ze (Zc (Yi rfl ?_ ?_)))
 ·intro c1
  try (first | replace c1 := dTr c1 | replace c1 := Zk c1)
  have hk : k < l.length := by omega
  obtain ⟨b, o, hp, hb, hc⟩ := hr k l[k] (List.getElem?_eq_getElem hk)
  subst hp
  refine Zw (Zc (Zf (Zs (Zf (Zb ?_)))))
  refine Za rfl (Zd rfl) (Za rfl (Zd rfl) (Za rfl (Xk (ts rfl) rfl rfl ?_) ?_))
  ·omega
  refine Za rfl (Ym (tn rfl) rfl (Yt hc hb) rfl) (Za rfl (Zd rfl) (Xi fn94 rfl rfl (fun w _ => isType_any _ false odd w (hv.ok _ (List.getElem_mem hk))) ?_))
  refine Za rfl (Zg rfl) (Ze (Zc (Zf (Zb (Za rfl (Zd rfl) ?_)))))
  refine Za rfl (Ex_not rfl) (Ze (Zc (Yi rfl ?_ ?_)))
  ·intro c2
   try (first | replace c2 := dTr c2 | replace c2 := Zk c2)
   refine Zf (Zb (Za rfl (Zg rfl) (Ze (Zc (Zv ?_)))))
   refine Zq (Zq (Zq (Zq (Zq (Yh rfl rfl ?_)))))
   first | (rw [all_no hk (by simp_all)]) | (rw [← List.take_of_length_le (l := l) (i := k) (by omega), hI.2])
  ·intro c2
   try (first | replace c2 := dFa c2 | replace c2 := Zi c2)
   refine Zw (Zx (Zc (Zb (Za rfl (Zd rfl) ?_))))
   (first | (refine Za rfl (Xa rfl rfl ?_) ?_; omega) | (refine Za rfl (Yp rfl rfl ?_) ?_; omega) | refine Za rfl (Yz rfl rfl) ?_)
   refine Za rfl (Zg rfl) (Ze ?_)
   refine Yn (k + 1) ?_ (⟨hk, by rw [List.take_succ_eq_append_getElem hk, List.all_append, hI.2]; simp_all⟩) 0 rfl (rfl) ⟨rfl, rfl, rfl, trivial⟩
   omega
 ·intro c1
  try (first | replace c1 := dFa c1 | replace c1 := Zi c1)
  refine Yx (Yw (Yo (Yv (Zc (Zf ?_)))))
  refine Zb (Za rfl (Zg rfl) (Ze (Zc (Zv (Yh rfl rfl ?_)))))
  first | (rw [all_no hk (by simp_all)]) | (rw [← List.take_of_length_le (l := l) (i := k) (by omega), hI.2])
end Go.Proofs.YtpofmnfkdkmieaaGreat
namespace Go.Proofs.YtpofmnfkdkmieaaGreat
open Go.RowKit At E
/-- The bytes of a number, the lowest first. -/
def lowL (u : Nat) : Nat → List UInt8
 | 0 => []
 | k + 1 => UInt8.ofNat (u % 256) :: lowL (u / 256) k
/-- A number as 64 bits. -/
def u64 (n : Int) : Nat := (IntKind.u64.wrap n).toNat
def lowS (n : Int) (k : Nat) : ByteArray := ⟨(lowL (u64 n) k).toArray⟩
theorem lowL_succ : ∀ (k u : Nat), lowL u (k + 1) = lowL u k ++ [UInt8.ofNat (u / 256 ^ k % 256)]
 | 0, u => by simp [lowL]
 | k + 1, u => by
  rw [lowL, lowL_succ k (u / 256), lowL, List.cons_append, Nat.div_div_eq_div_mul, Nat.pow_succ, Nat.mul_comm 256]
theorem lowL_length : ∀ (k u : Nat), (lowL u k).length = k
 | 0, _ => rfl
 | k + 1, u => by rw [lowL, List.length_cons, lowL_length k]
theorem u64_of (n : Int) : IntKind.u64.wrap n = (u64 n : Int) := by
 unfold u64
 have : 0 ≤ IntKind.u64.wrap n := by rw [IntKind.wrap_u64]; omega
 omega
theorem u64_lt (n : Int) : u64 n < 18446744073709551616 := by
 unfold u64
 have h : IntKind.u64.wrap n < 18446744073709551616 := by rw [IntKind.wrap_u64]; omega
 omega
theorem u8_rem (u : Nat) : IntKind.u8.wrap ((u : Int).tmod 256) = ((UInt8.ofNat (u % 256)).toNat : Int) := by
 have e : ((u : Int).tmod 256) = ((u % 256 : Nat) : Int) := by rw [Int.tmod_eq_emod_of_nonneg (by omega)]; omega
 rw [e, UInt8.toNat_ofNat']
 rw [IntKind.wrap_u8]; omega
theorem u64_quo (u : Nat) (h : u < 18446744073709551616) : IntKind.u64.wrap ((u : Int).tdiv 256) = ((u / 256 : Nat) : Int) := by
 have e : ((u : Int).tdiv 256) = ((u / 256 : Nat) : Int) := by rw [Int.tdiv_eq_ediv_of_nonneg (by omega)]; omega
 rw [e]
 rw [IntKind.wrap_u64]; omega
theorem low_any (x : Int) (k : Nat) (hk : k ≤ 8) (w : World) : Pure Tryz.prog 98 #[.int .i64 x, .int .i64 (k : Nat)] w (.string (lowS x k)) := by
 have hu := u64_lt x
 have hd : ∀ i, u64 x / 256 ^ i < 18446744073709551616 := fun i => Nat.lt_of_le_of_lt (Nat.div_le_self _ _) hu
 refine opens (args := [.int .i64 x, .int .i64 (k : Nat)]) Tryz.func98 rfl Tryz.ntmps98 ?_
 refine Zf (Zb (Za rfl (Zg rfl) (Ze (Zc (Zf ?_)))))
 refine Zb (Za rfl (Zd rfl) (Za rfl (Ex_conv (tint rfl) (tint rfl) rfl) (Za rfl (Zg rfl) (Ze (Zc ?_)))))
 refine Zf (Zb (Za rfl (Zg rfl) (Ze (Zc (Zf ?_)))))
 refine Zf (Zb (Za rfl (Zg rfl) (Ze (Zc (Zs ?_)))))
 refine WC_own 5 1 ?_
 refine WC_same (s := 5) (v' := .int .u64 ((u64 x / 256 ^ 0 : Nat) : Int)) rfl (by rw [u64_of]; simp) ?_
 refine Xh (E' := (fun i : Nat × Value => [(1, .int .i64 (k : Nat)), (5, .int .u64 ((u64 x / 256 ^ i.1 : Nat) : Int)), (6, i.2), (7, .int .i64 (i.1 : Nat))]) ((0, .slice none 0 0))) ⟨rfl, rfl, rfl, rfl, trivial⟩ (Yy (X := Nat × Value) (fun i : Nat × Value => [(1, .int .i64 (k : Nat)), (5, .int .u64 ((u64 x / 256 ^ i.1 : Nat) : Int)), (6, i.2), (7, .int .i64 (i.1 : Nat))]) _ _ (fun i : Nat × Value => []) (fun i : Nat × Value => Asr.and (ownA 5 1 i.2 i.1 ((lowL (u64 x) i.1).map byteV)) Asr.none) (fun i : Nat × Value => i.1 ≤ k) (fun i : Nat × Value => k - i.1) ((0, .slice none 0 0)) (Nat.zero_le _) ?_)
 intro i hI
 refine Zf (Zf (Zb (Za rfl (Zd rfl) (Za rfl (Zd rfl) (Za rfl (Xb rfl rfl) ?_)))))
 refine Ze (Zc (Yi rfl ?_ ?_))
 ·intro c1
  try (first | replace c1 := dTr c1 | replace c1 := Zk c1)
  have hik : i.1 < k := by omega
  refine Zw (Zc (Zf (Zs (Zf (Zb ?_)))))
  refine Za rfl (Zd rfl) (Za rfl (Zd rfl) (Za rfl (Ex_rem rfl rfl rfl) (Za rfl (Ex_conv (tint rfl) (tint rfl) rfl) ?_)))
  refine WL_same (s := 18) (v' := byteV (UInt8.ofNat (u64 x / 256 ^ i.1 % 256))) rfl (by rw [u8_rem]; rfl) ?_
  refine WL_bs rfl (ts rfl) (tz rfl) rfl rfl rfl rfl rfl ?_
  intro b0 hb0
  refine WL_app rfl (ta rfl) rfl rfl (Yj 0 rfl) rfl rfl ?_ ?_ ?_
  ·unfold maxLen; omega
  ·omega
  intro v1
  refine Za rfl (Zg rfl) (Ze (Zc (Zb (Za rfl (Zd rfl) (Za rfl (Ex_quo rfl rfl rfl) ?_)))))
  refine Za rfl (Zg rfl) (Ze (Zx (Zc (Zb (Za rfl (Zd rfl) ?_)))))
  (first | (refine Za rfl (Xa rfl rfl ?_) ?_; omega) | (refine Za rfl (Yp rfl rfl ?_) ?_; omega) | refine Za rfl (Yz rfl rfl) ?_)
  refine Za rfl (Zg rfl) (Ze (WQ_same (s := 5) (v' := .int .u64 ((u64 x / 256 ^ (i.1 + 1) : Nat) : Int)) rfl (by rw [u64_quo _ (hd _), Nat.div_div_eq_div_mul, ← Nat.pow_succ]) ?_))
  refine Yn ((i.1 + 1, v1)) ?_ (hik) 1 rfl (by rw [lowL_succ, List.map_append]; rfl) ⟨rfl, rfl, rfl, rfl, trivial⟩
  show k - (i.1 + 1) < k - i.1; omega
 ·intro c1
  try (first | replace c1 := dFa c1 | replace c1 := Zi c1)
  refine Yx (Yw (Yo (Yv (Zc (Zf ?_)))))
  refine Zb (Za rfl (Zd rfl) (Za rfl (Ex_bytes (ta rfl).sl (tint rfl) (tstr rfl) rfl (lowL_length _ _)) (Za rfl (Zg rfl) (Ze (Zc ?_)))))
  refine Zv (Yh rfl rfl ?_)
  rw [show i.1 = k by omega]; rfl
theorem low1_any (x : Int) (w : World) : Pure Tryz.prog 98 #[.int .i64 x, .int .i64 1] w (.string (lowS x 1)) := low_any x 1 (by omega) w
theorem low2_any (x : Int) (w : World) : Pure Tryz.prog 98 #[.int .i64 x, .int .i64 2] w (.string (lowS x 2)) := low_any x 2 (by omega) w
theorem low8_any (x : Int) (w : World) : Pure Tryz.prog 98 #[.int .i64 x, .int .i64 8] w (.string (lowS x 8)) := low_any x 8 (by omega) w
end Go.Proofs.YtpofmnfkdkmieaaGreat
