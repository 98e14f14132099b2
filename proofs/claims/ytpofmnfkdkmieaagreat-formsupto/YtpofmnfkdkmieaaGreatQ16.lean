/- What is proved here: the document's own reading off a tape: instructions. -/
import Derived.Test.YtpofmnfkdkmieaaGreatQ15
set_option linter.unusedVariables false
set_option linter.unusedSimpArgs false
namespace Go.Proofs.YtpofmnfkdkmieaaGreat
open Go.RowKit At E
def repIns : Ins → Value → Asr → Prop := fun i v R' => ∃ pv, v = .agg (insV i pv).toArray ∧ R'.Imp (tysA pv i.ref.params) ∧ insOk i ∧ tysOk i.ref.params
theorem Zy (R : Asr) : R.Imp (tysA (.slice none 0 0) []) := ⟨fun k hk => by simp [tysA, ownA, Value.ownBlock] at hk, fun w _ => World.ownsRow_nil w 0 71 2⟩
theorem Zu : tysOk [] := ⟨by simp, fun t h => by cases h⟩
theorem Yc : intOk 0 := by unfold intOk; omega
theorem tyOk_0 : tyOk ⟨0, mt⟩ := ⟨Yc, Xt⟩
theorem Xj : rfOk rf0 := ⟨Xt, Xt, tyOk_0⟩
theorem tys_255 {l : List Ty} (h : l.length ≤ 255) (k : ∀ t ∈ l, tyOk t) : tysOk l := ⟨by omega, k⟩
set_option maxHeartbeats 2000000 in
theorem tpInstr_any (u : World) (b : Nat) (s : ByteArray) (hs : s.size ≤ 4000000) : TpP 133 #[.pointer (some ⟨b, 0, none⟩)] u b s (pIns true false) repIns := by
 intro σ q hq hr w h0
 refine opensF (h0.sat) (args := [.pointer (some ⟨b, 0, none⟩)]) Tryz.func133 rfl Tryz.ntmps133 ?_
 refine Zf (Zb (Xg rfl (tz rfl) ?_))
 intro b1 hb1
 refine Ze (Zc (Zf (Zb (Za rfl (Zd rfl) (Yk fn88 rfl rfl 1 rfl h0.base (Rc_F h0) (tpInt_any u b s 1 hs (by omega) σ q hq hr) (fun h => h.elim) ?_)))))
 rintro v cs' ⟨R', op, σ1, q1, ⟨rfl, hop, -, -⟩, hq1, rfl, hr1, hst⟩
 have hS : Wa σ (pIns true false) σ1 (insP true false op) := (Wa.first σ (pIns true false)).next hst
 refine Za rfl (Xs (tb rfl) rfl rfl) (Xg rfl (tz rfl) ?_)
 intro b2 hb2
 refine Yd (tn rfl) rfl rfl 0 rfl rfl rfl rfl (Ze (Zc (Zf (Zb (Za rfl (Zh (ff rfl) rfl) ?_)))))
 refine Za rfl (Zj (t1 rfl) rfl (Zl 0 rfl rfl)) (Xi fn173 rfl rfl (fun w _ => sort_any _ w) ?_)
 refine Za rfl (Zg rfl) (Ze (Zc (Zf (Zf (Zb ?_)))))
 refine Za rfl (Zd rfl) (Ze (Zc (Zs (Zf (Zb ?_)))))
 refine Za rfl (Xc rfl rfl) (Za rfl (Zg rfl) (Ze (Zc (Yi rfl ?_ ?_))))
 ·intro c1
  try (first | replace c1 := dTr c1 | replace c1 := Zk c1)
  rw [insPno c1] at hS
  refine Zb (Za rfl (Zd rfl) (Za rfl (Ys rfl) (Za rfl (Zh (ff rfl) rfl) (Xd (t1 rfl) rfl rfl 2 rfl rfl rfl rfl (Ze ?_)))))
  refine Zx (Zc (Zf (Zb (Za rfl (Yb (tn rfl) rfl 0 rfl rfl) (Yd (tn rfl) rfl rfl 1 rfl rfl rfl rfl ?_)))))
  refine Ze (Zc (Zv (Rc_endR (Res_1 rfl (Xo (tn rfl) rfl (Yj 1 rfl) rfl)) 2 rfl ?_)))
  first | exact ⟨⟨op, 0, ⟨c, nm, ps, t⟩⟩, σ5, q5, ⟨_, rfl, Asr.fst _ _, ⟨hop, Yc, Zr hc, Zr hnm, ht⟩, tys_255 hpl hpo⟩, hq5, rfl, hr5, hS5.done⟩ | exact ⟨⟨op, 0, ⟨c, nm, [], t⟩⟩, σ5, q5, ⟨_, rfl, Zy _, ⟨hop, Yc, Zr hc, Zr hnm, ht⟩, Zu⟩, hq5, rfl, hr5, hS5.done⟩ | exact ⟨⟨op, 0, ⟨c, mt, [], ⟨0, mt⟩⟩⟩, σ2, q2, ⟨_, rfl, Zy _, ⟨hop, Yc, Zr hc, Xt, tyOk_0⟩, Zu⟩, hq2, rfl, hr2, hS2.done⟩ | exact ⟨⟨op, n, rf0⟩, σ2, q2, ⟨_, rfl, Zy _, ⟨hop, hn, Xj⟩, Zu⟩, hq2, rfl, hr2, hS2.done⟩ | exact ⟨⟨op, 0, rf0⟩, σ1, q1, ⟨_, rfl, Zy _, ⟨hop, Yc, Xj⟩, Zu⟩, hq1, rfl, hr1, hS.done⟩ | exact ⟨⟨op, 0, rf0⟩, none, q1, ⟨_, rfl, Zy _, ⟨hop, Yc, Xj⟩, Zu⟩, hq1, rfl, (fun r h => by cases h), (Wa.ask (q := pNo) hS).bad _⟩
 ·intro c1
  try (first | replace c1 := dFa c1 | replace c1 := Zi c1)
  refine Zf (Zb (Za rfl (Xc rfl rfl) (Za rfl (Zg rfl) (Ze (Zc ?_)))))
  refine Yi rfl ?_ ?_
  ·intro c2
   try (first | replace c2 := dTr c2 | replace c2 := Zk c2)
   rw [insP1 c2] at hS
   refine Zb (Za rfl (Zd rfl) (Yk fn88 rfl rfl 2 rfl h0.base (Rc_F h0) (tpInt_any u b s 8 hs (by omega) σ1 q1 hq1 hr1) (fun h => h.elim) ?_))
   rintro v cs' ⟨R', n, σ2, q2, ⟨rfl, hn, -, -⟩, hq2, rfl, hr2, hst2⟩
   have hS2 := hS.next hst2
   refine Za rfl (Zh (ff rfl) rfl) (Xd (t1 rfl) rfl rfl 0 rfl rfl rfl rfl (Ze (Zx (Zc (Zf ?_)))))
   refine Zb (Za rfl (Yb (tn rfl) rfl 0 rfl rfl) (Yd (tn rfl) rfl rfl 1 rfl rfl rfl rfl (Ze (Zc (Zv ?_)))))
   refine Rc_endR (Res_1 rfl (Xo (tn rfl) rfl (Yj 1 rfl) rfl)) 2 rfl ?_
   first | exact ⟨⟨op, 0, ⟨c, nm, ps, t⟩⟩, σ5, q5, ⟨_, rfl, Asr.fst _ _, ⟨hop, Yc, Zr hc, Zr hnm, ht⟩, tys_255 hpl hpo⟩, hq5, rfl, hr5, hS5.done⟩ | exact ⟨⟨op, 0, ⟨c, nm, [], t⟩⟩, σ5, q5, ⟨_, rfl, Zy _, ⟨hop, Yc, Zr hc, Zr hnm, ht⟩, Zu⟩, hq5, rfl, hr5, hS5.done⟩ | exact ⟨⟨op, 0, ⟨c, mt, [], ⟨0, mt⟩⟩⟩, σ2, q2, ⟨_, rfl, Zy _, ⟨hop, Yc, Zr hc, Xt, tyOk_0⟩, Zu⟩, hq2, rfl, hr2, hS2.done⟩ | exact ⟨⟨op, n, rf0⟩, σ2, q2, ⟨_, rfl, Zy _, ⟨hop, hn, Xj⟩, Zu⟩, hq2, rfl, hr2, hS2.done⟩ | exact ⟨⟨op, 0, rf0⟩, σ1, q1, ⟨_, rfl, Zy _, ⟨hop, Yc, Xj⟩, Zu⟩, hq1, rfl, hr1, hS.done⟩ | exact ⟨⟨op, 0, rf0⟩, none, q1, ⟨_, rfl, Zy _, ⟨hop, Yc, Xj⟩, Zu⟩, hq1, rfl, (fun r h => by cases h), (Wa.ask (q := pNo) hS).bad _⟩
  ·intro c2
   try (first | replace c2 := dFa c2 | replace c2 := Zi c2)
   refine Zf (Zb (Za rfl (Xc rfl rfl) (Za rfl (Zg rfl) (Ze (Zc ?_)))))
   refine Yi rfl ?_ ?_
   ·intro c3
    try (first | replace c3 := dTr c3 | replace c3 := Zk c3)
    rw [insP2 c3] at hS
    refine Zb (Za rfl (Zd rfl) (Yk fn88 rfl rfl 2 rfl h0.base (Rc_F h0) (tpInt_any u b s 1 hs (by omega) σ1 q1 hq1 hr1) (fun h => h.elim) ?_))
    rintro v cs' ⟨R', n, σ2, q2, ⟨rfl, hn, -, -⟩, hq2, rfl, hr2, hst2⟩
    have hS2 := hS.next hst2
    refine Za rfl (Zh (ff rfl) rfl) (Xd (t1 rfl) rfl rfl 0 rfl rfl rfl rfl (Ze (Zx (Zc (Zf ?_)))))
    refine Zb (Za rfl (Yb (tn rfl) rfl 0 rfl rfl) (Yd (tn rfl) rfl rfl 1 rfl rfl rfl rfl (Ze (Zc (Zv ?_)))))
    refine Rc_endR (Res_1 rfl (Xo (tn rfl) rfl (Yj 1 rfl) rfl)) 2 rfl ?_
    first | exact ⟨⟨op, 0, ⟨c, nm, ps, t⟩⟩, σ5, q5, ⟨_, rfl, Asr.fst _ _, ⟨hop, Yc, Zr hc, Zr hnm, ht⟩, tys_255 hpl hpo⟩, hq5, rfl, hr5, hS5.done⟩ | exact ⟨⟨op, 0, ⟨c, nm, [], t⟩⟩, σ5, q5, ⟨_, rfl, Zy _, ⟨hop, Yc, Zr hc, Zr hnm, ht⟩, Zu⟩, hq5, rfl, hr5, hS5.done⟩ | exact ⟨⟨op, 0, ⟨c, mt, [], ⟨0, mt⟩⟩⟩, σ2, q2, ⟨_, rfl, Zy _, ⟨hop, Yc, Zr hc, Xt, tyOk_0⟩, Zu⟩, hq2, rfl, hr2, hS2.done⟩ | exact ⟨⟨op, n, rf0⟩, σ2, q2, ⟨_, rfl, Zy _, ⟨hop, hn, Xj⟩, Zu⟩, hq2, rfl, hr2, hS2.done⟩ | exact ⟨⟨op, 0, rf0⟩, σ1, q1, ⟨_, rfl, Zy _, ⟨hop, Yc, Xj⟩, Zu⟩, hq1, rfl, hr1, hS.done⟩ | exact ⟨⟨op, 0, rf0⟩, none, q1, ⟨_, rfl, Zy _, ⟨hop, Yc, Xj⟩, Zu⟩, hq1, rfl, (fun r h => by cases h), (Wa.ask (q := pNo) hS).bad _⟩
   ·intro c3
    try (first | replace c3 := dFa c3 | replace c3 := Zi c3)
    refine Zf (Zb (Za rfl (Xc rfl rfl) (Za rfl (Zg rfl) (Ze (Zc ?_)))))
    refine Yi rfl ?_ ?_
    ·intro c4
     try (first | replace c4 := dTr c4 | replace c4 := Zk c4)
     rw [insP3 c4] at hS
     refine Zb (Za rfl (Zd rfl) (Yk fn88 rfl rfl 2 rfl h0.base (Rc_F h0) (tpInt_any u b s 2 hs (by omega) σ1 q1 hq1 hr1) (fun h => h.elim) ?_))
     rintro v cs' ⟨R', n, σ2, q2, ⟨rfl, hn, -, -⟩, hq2, rfl, hr2, hst2⟩
     have hS2 := hS.next hst2
     refine Za rfl (Zh (ff rfl) rfl) (Xd (t1 rfl) rfl rfl 0 rfl rfl rfl rfl (Ze (Zx (Zc (Zf ?_)))))
     refine Zb (Za rfl (Yb (tn rfl) rfl 0 rfl rfl) (Yd (tn rfl) rfl rfl 1 rfl rfl rfl rfl (Ze (Zc (Zv ?_)))))
     refine Rc_endR (Res_1 rfl (Xo (tn rfl) rfl (Yj 1 rfl) rfl)) 2 rfl ?_
     first | exact ⟨⟨op, 0, ⟨c, nm, ps, t⟩⟩, σ5, q5, ⟨_, rfl, Asr.fst _ _, ⟨hop, Yc, Zr hc, Zr hnm, ht⟩, tys_255 hpl hpo⟩, hq5, rfl, hr5, hS5.done⟩ | exact ⟨⟨op, 0, ⟨c, nm, [], t⟩⟩, σ5, q5, ⟨_, rfl, Zy _, ⟨hop, Yc, Zr hc, Zr hnm, ht⟩, Zu⟩, hq5, rfl, hr5, hS5.done⟩ | exact ⟨⟨op, 0, ⟨c, mt, [], ⟨0, mt⟩⟩⟩, σ2, q2, ⟨_, rfl, Zy _, ⟨hop, Yc, Zr hc, Xt, tyOk_0⟩, Zu⟩, hq2, rfl, hr2, hS2.done⟩ | exact ⟨⟨op, n, rf0⟩, σ2, q2, ⟨_, rfl, Zy _, ⟨hop, hn, Xj⟩, Zu⟩, hq2, rfl, hr2, hS2.done⟩ | exact ⟨⟨op, 0, rf0⟩, σ1, q1, ⟨_, rfl, Zy _, ⟨hop, Yc, Xj⟩, Zu⟩, hq1, rfl, hr1, hS.done⟩ | exact ⟨⟨op, 0, rf0⟩, none, q1, ⟨_, rfl, Zy _, ⟨hop, Yc, Xj⟩, Zu⟩, hq1, rfl, (fun r h => by cases h), (Wa.ask (q := pNo) hS).bad _⟩
    ·intro c4
     try (first | replace c4 := dFa c4 | replace c4 := Zi c4)
     refine Zf (Zf (Zb (Za rfl (Xc rfl rfl) (Za rfl (Zg rfl) (Ze ?_)))))
     refine Zc (Yi rfl ?_ ?_)
     ·intro c5
      try (first | replace c5 := dTr c5 | replace c5 := Zk c5)
      rw [insP4 c5] at hS
      refine Zw (Zc (Xq rfl ?_))
      try rw [insP6 c7] at hS
      refine Zf (Zb (Za rfl (Zd rfl) (Yk fn87 rfl rfl 2 rfl h0.base (Rc_F h0) (tpName_any u b s hs σ1 q1 hq1 hr1) (fun h => h.elim) ?_)))
      rintro v cs' ⟨R', c, σ2, q2, ⟨rfl, hc, -⟩, hq2, rfl, hr2, hst2⟩
      have hS2 := hS.next hst2
      refine Za rfl (Zh (ff rfl) rfl) (Za rfl (Zh (ff rfl) rfl) (Xd (t1 rfl) rfl rfl 0 rfl rfl rfl rfl (Ze (Zc (Zf ?_)))))
      refine Zf (Zb (Za rfl (Zd rfl) (Za rfl (Ex_gtr rfl rfl) (Ze (Zc ?_)))))
      refine Yi rfl ?_ ?_
      ·intro c8
       try (first | replace c8 := dTr c8 | replace c8 := Zk c8)
       first
       | (exfalso; omega)
       |skip
        refine Zb (Za rfl (Zd rfl) (Yk fn87 rfl rfl 2 rfl h0.base (Rc_F h0) (tpName_any u b s hs σ2 q2 hq2 hr2) (fun h => h.elim) ?_))
        rintro v cs' ⟨R', nm, σ3, q3, ⟨rfl, hnm, -⟩, hq3, rfl, hr3, hst3⟩
        have hS3 := hS2.next hst3
        refine Za rfl (Zh (ff rfl) rfl) (Za rfl (Zh (ff rfl) rfl) (Xd (t1 rfl) rfl rfl 0 rfl rfl rfl rfl (Ze (Zc (Zf ?_)))))
        refine Zf (Zb (Za rfl (Zd rfl) (Za rfl (Xc rfl rfl) (Ze (Zc ?_)))))
        refine Yi rfl ?_ ?_
        ·intro c9
         try (first | replace c9 := dTr c9 | replace c9 := Zk c9)
         first
         | (exfalso; omega)
         |skip
          refine Zb (Za rfl (Zd rfl) (WL_callR fn132 rfl rfl 2 rfl h0.base (Rc_F h0) (tpTypes_any u b s 6 hs σ3 q3 hq3 hr3) (fun h => h.elim) ?_))
          rintro pv cs' R' ⟨ps, σ4, q4, ⟨hR, hpl, hpo⟩, hq4, rfl, hr4, hst4⟩
          have hS4 := hS3.next hst4
          refine Xm hR.left (Xz (p := ∃ p l c, pv = .slice p l c) (fun w hs => Xl hs.res.1) ?_)
          rintro ⟨p1, l1, c1', rfl⟩
          refine Za rfl (Zh (ff rfl) rfl) (Za rfl (Zh (ff rfl) rfl) (Xd (t1 rfl) rfl rfl 0 rfl rfl rfl rfl (Ze (Zc (Zf ?_)))))
          refine Zb (Za rfl (Zd rfl) (Za rfl (Ex_gtr rfl rfl) (Ze (Zc (Yi rfl ?_ ?_)))))
          ·intro c10
           try (first | replace c10 := dTr c10 | replace c10 := Zk c10)
           first
           | (exfalso; omega)
           |skip
            refine Zb (Za rfl (Zd rfl) ?_)
            first | (refine Yk fn90 rfl rfl 2 rfl h0.base (Rc_F h0) (Xv u b s hs σ4 q4 hq4 hr4) (fun h => h.elim) ?_; rintro v cs' ⟨R', t, σ5, q5, ⟨rfl, ht, -⟩, hq5, rfl, hr5, hst5⟩; have hS5 := hS4.next hst5) | (refine Yk fn90 rfl rfl 2 rfl h0.base (Rc_F h0) (Xv u b s hs σ3 q3 hq3 hr3) (fun h => h.elim) ?_; rintro v cs' ⟨R', t, σ5, q5, ⟨rfl, ht, -⟩, hq5, rfl, hr5, hst5⟩; have hS5 := hS3.next hst5)
            refine Za rfl (Zh (ff rfl) rfl) (Za rfl (Zh (ff rfl) rfl) (Yd (tn rfl) rfl rfl 0 rfl rfl rfl rfl (Ze (Zx (Zc ?_)))))
            refine Zf (Zb (Za rfl (Yb (tn rfl) rfl 0 rfl rfl) (Yd (tn rfl) rfl rfl 1 rfl rfl rfl rfl (Ze (Zc ?_)))))
            refine Zv (Rc_endR (Res_1 rfl (Xo (tn rfl) rfl (Yj 1 rfl) rfl)) 2 rfl ?_)
            first | exact ⟨⟨op, 0, ⟨c, nm, ps, t⟩⟩, σ5, q5, ⟨_, rfl, Asr.fst _ _, ⟨hop, Yc, Zr hc, Zr hnm, ht⟩, tys_255 hpl hpo⟩, hq5, rfl, hr5, hS5.done⟩ | exact ⟨⟨op, 0, ⟨c, nm, [], t⟩⟩, σ5, q5, ⟨_, rfl, Zy _, ⟨hop, Yc, Zr hc, Zr hnm, ht⟩, Zu⟩, hq5, rfl, hr5, hS5.done⟩ | exact ⟨⟨op, 0, ⟨c, mt, [], ⟨0, mt⟩⟩⟩, σ2, q2, ⟨_, rfl, Zy _, ⟨hop, Yc, Zr hc, Xt, tyOk_0⟩, Zu⟩, hq2, rfl, hr2, hS2.done⟩ | exact ⟨⟨op, n, rf0⟩, σ2, q2, ⟨_, rfl, Zy _, ⟨hop, hn, Xj⟩, Zu⟩, hq2, rfl, hr2, hS2.done⟩ | exact ⟨⟨op, 0, rf0⟩, σ1, q1, ⟨_, rfl, Zy _, ⟨hop, Yc, Xj⟩, Zu⟩, hq1, rfl, hr1, hS.done⟩ | exact ⟨⟨op, 0, rf0⟩, none, q1, ⟨_, rfl, Zy _, ⟨hop, Yc, Xj⟩, Zu⟩, hq1, rfl, (fun r h => by cases h), (Wa.ask (q := pNo) hS).bad _⟩
          ·intro c10
           try (first | replace c10 := dFa c10 | replace c10 := Zi c10)
           first
           | (exfalso; omega)
           |skip
            refine Zw (Zx (Zc (Zf (Zb (Za rfl (Yb (tn rfl) rfl 0 rfl rfl) ?_)))))
            refine Yd (tn rfl) rfl rfl 1 rfl rfl rfl rfl (Ze (Zc (Zv (Rc_endR (Res_1 rfl (Xo (tn rfl) rfl (Yj 1 rfl) rfl)) 2 rfl ?_))))
            first | exact ⟨⟨op, 0, ⟨c, nm, ps, t⟩⟩, σ5, q5, ⟨_, rfl, Asr.fst _ _, ⟨hop, Yc, Zr hc, Zr hnm, ht⟩, tys_255 hpl hpo⟩, hq5, rfl, hr5, hS5.done⟩ | exact ⟨⟨op, 0, ⟨c, nm, [], t⟩⟩, σ5, q5, ⟨_, rfl, Zy _, ⟨hop, Yc, Zr hc, Zr hnm, ht⟩, Zu⟩, hq5, rfl, hr5, hS5.done⟩ | exact ⟨⟨op, 0, ⟨c, mt, [], ⟨0, mt⟩⟩⟩, σ2, q2, ⟨_, rfl, Zy _, ⟨hop, Yc, Zr hc, Xt, tyOk_0⟩, Zu⟩, hq2, rfl, hr2, hS2.done⟩ | exact ⟨⟨op, n, rf0⟩, σ2, q2, ⟨_, rfl, Zy _, ⟨hop, hn, Xj⟩, Zu⟩, hq2, rfl, hr2, hS2.done⟩ | exact ⟨⟨op, 0, rf0⟩, σ1, q1, ⟨_, rfl, Zy _, ⟨hop, Yc, Xj⟩, Zu⟩, hq1, rfl, hr1, hS.done⟩ | exact ⟨⟨op, 0, rf0⟩, none, q1, ⟨_, rfl, Zy _, ⟨hop, Yc, Xj⟩, Zu⟩, hq1, rfl, (fun r h => by cases h), (Wa.ask (q := pNo) hS).bad _⟩
        ·intro c9
         try (first | replace c9 := dFa c9 | replace c9 := Zi c9)
         first
         | (exfalso; omega)
         |skip
          refine Zw (Zc (Zf (Zb (Za rfl (Zd rfl) (Za rfl (Ex_gtr rfl rfl) ?_)))))
          refine Ze (Zc (Yi rfl ?_ ?_))
          ·intro c10
           try (first | replace c10 := dTr c10 | replace c10 := Zk c10)
           first
           | (exfalso; omega)
           |skip
            refine Zb (Za rfl (Zd rfl) ?_)
            first | (refine Yk fn90 rfl rfl 2 rfl h0.base (Rc_F h0) (Xv u b s hs σ4 q4 hq4 hr4) (fun h => h.elim) ?_; rintro v cs' ⟨R', t, σ5, q5, ⟨rfl, ht, -⟩, hq5, rfl, hr5, hst5⟩; have hS5 := hS4.next hst5) | (refine Yk fn90 rfl rfl 2 rfl h0.base (Rc_F h0) (Xv u b s hs σ3 q3 hq3 hr3) (fun h => h.elim) ?_; rintro v cs' ⟨R', t, σ5, q5, ⟨rfl, ht, -⟩, hq5, rfl, hr5, hst5⟩; have hS5 := hS3.next hst5)
            refine Za rfl (Zh (ff rfl) rfl) (Za rfl (Zh (ff rfl) rfl) (Yd (tn rfl) rfl rfl 0 rfl rfl rfl rfl (Ze (Zx (Zc ?_)))))
            refine Zf (Zb (Za rfl (Yb (tn rfl) rfl 0 rfl rfl) (Yd (tn rfl) rfl rfl 1 rfl rfl rfl rfl (Ze (Zc ?_)))))
            refine Zv (Rc_endR (Res_1 rfl (Xo (tn rfl) rfl (Yj 1 rfl) rfl)) 2 rfl ?_)
            first | exact ⟨⟨op, 0, ⟨c, nm, ps, t⟩⟩, σ5, q5, ⟨_, rfl, Asr.fst _ _, ⟨hop, Yc, Zr hc, Zr hnm, ht⟩, tys_255 hpl hpo⟩, hq5, rfl, hr5, hS5.done⟩ | exact ⟨⟨op, 0, ⟨c, nm, [], t⟩⟩, σ5, q5, ⟨_, rfl, Zy _, ⟨hop, Yc, Zr hc, Zr hnm, ht⟩, Zu⟩, hq5, rfl, hr5, hS5.done⟩ | exact ⟨⟨op, 0, ⟨c, mt, [], ⟨0, mt⟩⟩⟩, σ2, q2, ⟨_, rfl, Zy _, ⟨hop, Yc, Zr hc, Xt, tyOk_0⟩, Zu⟩, hq2, rfl, hr2, hS2.done⟩ | exact ⟨⟨op, n, rf0⟩, σ2, q2, ⟨_, rfl, Zy _, ⟨hop, hn, Xj⟩, Zu⟩, hq2, rfl, hr2, hS2.done⟩ | exact ⟨⟨op, 0, rf0⟩, σ1, q1, ⟨_, rfl, Zy _, ⟨hop, Yc, Xj⟩, Zu⟩, hq1, rfl, hr1, hS.done⟩ | exact ⟨⟨op, 0, rf0⟩, none, q1, ⟨_, rfl, Zy _, ⟨hop, Yc, Xj⟩, Zu⟩, hq1, rfl, (fun r h => by cases h), (Wa.ask (q := pNo) hS).bad _⟩
          ·intro c10
           try (first | replace c10 := dFa c10 | replace c10 := Zi c10)
           first
           | (exfalso; omega)
           |skip
            refine Zw (Zx (Zc (Zf (Zb (Za rfl (Yb (tn rfl) rfl 0 rfl rfl) ?_)))))
            refine Yd (tn rfl) rfl rfl 1 rfl rfl rfl rfl (Ze (Zc (Zv (Rc_endR (Res_1 rfl (Xo (tn rfl) rfl (Yj 1 rfl) rfl)) 2 rfl ?_))))
            first | exact ⟨⟨op, 0, ⟨c, nm, ps, t⟩⟩, σ5, q5, ⟨_, rfl, Asr.fst _ _, ⟨hop, Yc, Zr hc, Zr hnm, ht⟩, tys_255 hpl hpo⟩, hq5, rfl, hr5, hS5.done⟩ | exact ⟨⟨op, 0, ⟨c, nm, [], t⟩⟩, σ5, q5, ⟨_, rfl, Zy _, ⟨hop, Yc, Zr hc, Zr hnm, ht⟩, Zu⟩, hq5, rfl, hr5, hS5.done⟩ | exact ⟨⟨op, 0, ⟨c, mt, [], ⟨0, mt⟩⟩⟩, σ2, q2, ⟨_, rfl, Zy _, ⟨hop, Yc, Zr hc, Xt, tyOk_0⟩, Zu⟩, hq2, rfl, hr2, hS2.done⟩ | exact ⟨⟨op, n, rf0⟩, σ2, q2, ⟨_, rfl, Zy _, ⟨hop, hn, Xj⟩, Zu⟩, hq2, rfl, hr2, hS2.done⟩ | exact ⟨⟨op, 0, rf0⟩, σ1, q1, ⟨_, rfl, Zy _, ⟨hop, Yc, Xj⟩, Zu⟩, hq1, rfl, hr1, hS.done⟩ | exact ⟨⟨op, 0, rf0⟩, none, q1, ⟨_, rfl, Zy _, ⟨hop, Yc, Xj⟩, Zu⟩, hq1, rfl, (fun r h => by cases h), (Wa.ask (q := pNo) hS).bad _⟩
      ·intro c8
       try (first | replace c8 := dFa c8 | replace c8 := Zi c8)
       first
       | (exfalso; omega)
       |skip
        refine Zw (Zc (Zf (Zf (Zb (Za rfl (Zd rfl) ?_)))))
        refine Za rfl (Xc rfl rfl) (Ze (Zc (Yi rfl ?_ ?_)))
        ·intro c9
         try (first | replace c9 := dTr c9 | replace c9 := Zk c9)
         first
         | (exfalso; omega)
         |skip
          refine Zb (Za rfl (Zd rfl) (WL_callR fn132 rfl rfl 2 rfl h0.base (Rc_F h0) (tpTypes_any u b s 6 hs σ3 q3 hq3 hr3) (fun h => h.elim) ?_))
          rintro pv cs' R' ⟨ps, σ4, q4, ⟨hR, hpl, hpo⟩, hq4, rfl, hr4, hst4⟩
          have hS4 := hS3.next hst4
          refine Xm hR.left (Xz (p := ∃ p l c, pv = .slice p l c) (fun w hs => Xl hs.res.1) ?_)
          rintro ⟨p1, l1, c1', rfl⟩
          refine Za rfl (Zh (ff rfl) rfl) (Za rfl (Zh (ff rfl) rfl) (Xd (t1 rfl) rfl rfl 0 rfl rfl rfl rfl (Ze (Zc (Zf ?_)))))
          refine Zb (Za rfl (Zd rfl) (Za rfl (Ex_gtr rfl rfl) (Ze (Zc (Yi rfl ?_ ?_)))))
          ·intro c10
           try (first | replace c10 := dTr c10 | replace c10 := Zk c10)
           first
           | (exfalso; omega)
           |skip
            refine Zb (Za rfl (Zd rfl) ?_)
            first | (refine Yk fn90 rfl rfl 2 rfl h0.base (Rc_F h0) (Xv u b s hs σ4 q4 hq4 hr4) (fun h => h.elim) ?_; rintro v cs' ⟨R', t, σ5, q5, ⟨rfl, ht, -⟩, hq5, rfl, hr5, hst5⟩; have hS5 := hS4.next hst5) | (refine Yk fn90 rfl rfl 2 rfl h0.base (Rc_F h0) (Xv u b s hs σ3 q3 hq3 hr3) (fun h => h.elim) ?_; rintro v cs' ⟨R', t, σ5, q5, ⟨rfl, ht, -⟩, hq5, rfl, hr5, hst5⟩; have hS5 := hS3.next hst5)
            refine Za rfl (Zh (ff rfl) rfl) (Za rfl (Zh (ff rfl) rfl) (Yd (tn rfl) rfl rfl 0 rfl rfl rfl rfl (Ze (Zx (Zc ?_)))))
            refine Zf (Zb (Za rfl (Yb (tn rfl) rfl 0 rfl rfl) (Yd (tn rfl) rfl rfl 1 rfl rfl rfl rfl (Ze (Zc ?_)))))
            refine Zv (Rc_endR (Res_1 rfl (Xo (tn rfl) rfl (Yj 1 rfl) rfl)) 2 rfl ?_)
            first | exact ⟨⟨op, 0, ⟨c, nm, ps, t⟩⟩, σ5, q5, ⟨_, rfl, Asr.fst _ _, ⟨hop, Yc, Zr hc, Zr hnm, ht⟩, tys_255 hpl hpo⟩, hq5, rfl, hr5, hS5.done⟩ | exact ⟨⟨op, 0, ⟨c, nm, [], t⟩⟩, σ5, q5, ⟨_, rfl, Zy _, ⟨hop, Yc, Zr hc, Zr hnm, ht⟩, Zu⟩, hq5, rfl, hr5, hS5.done⟩ | exact ⟨⟨op, 0, ⟨c, mt, [], ⟨0, mt⟩⟩⟩, σ2, q2, ⟨_, rfl, Zy _, ⟨hop, Yc, Zr hc, Xt, tyOk_0⟩, Zu⟩, hq2, rfl, hr2, hS2.done⟩ | exact ⟨⟨op, n, rf0⟩, σ2, q2, ⟨_, rfl, Zy _, ⟨hop, hn, Xj⟩, Zu⟩, hq2, rfl, hr2, hS2.done⟩ | exact ⟨⟨op, 0, rf0⟩, σ1, q1, ⟨_, rfl, Zy _, ⟨hop, Yc, Xj⟩, Zu⟩, hq1, rfl, hr1, hS.done⟩ | exact ⟨⟨op, 0, rf0⟩, none, q1, ⟨_, rfl, Zy _, ⟨hop, Yc, Xj⟩, Zu⟩, hq1, rfl, (fun r h => by cases h), (Wa.ask (q := pNo) hS).bad _⟩
          ·intro c10
           try (first | replace c10 := dFa c10 | replace c10 := Zi c10)
           first
           | (exfalso; omega)
           |skip
            refine Zw (Zx (Zc (Zf (Zb (Za rfl (Yb (tn rfl) rfl 0 rfl rfl) ?_)))))
            refine Yd (tn rfl) rfl rfl 1 rfl rfl rfl rfl (Ze (Zc (Zv (Rc_endR (Res_1 rfl (Xo (tn rfl) rfl (Yj 1 rfl) rfl)) 2 rfl ?_))))
            first | exact ⟨⟨op, 0, ⟨c, nm, ps, t⟩⟩, σ5, q5, ⟨_, rfl, Asr.fst _ _, ⟨hop, Yc, Zr hc, Zr hnm, ht⟩, tys_255 hpl hpo⟩, hq5, rfl, hr5, hS5.done⟩ | exact ⟨⟨op, 0, ⟨c, nm, [], t⟩⟩, σ5, q5, ⟨_, rfl, Zy _, ⟨hop, Yc, Zr hc, Zr hnm, ht⟩, Zu⟩, hq5, rfl, hr5, hS5.done⟩ | exact ⟨⟨op, 0, ⟨c, mt, [], ⟨0, mt⟩⟩⟩, σ2, q2, ⟨_, rfl, Zy _, ⟨hop, Yc, Zr hc, Xt, tyOk_0⟩, Zu⟩, hq2, rfl, hr2, hS2.done⟩ | exact ⟨⟨op, n, rf0⟩, σ2, q2, ⟨_, rfl, Zy _, ⟨hop, hn, Xj⟩, Zu⟩, hq2, rfl, hr2, hS2.done⟩ | exact ⟨⟨op, 0, rf0⟩, σ1, q1, ⟨_, rfl, Zy _, ⟨hop, Yc, Xj⟩, Zu⟩, hq1, rfl, hr1, hS.done⟩ | exact ⟨⟨op, 0, rf0⟩, none, q1, ⟨_, rfl, Zy _, ⟨hop, Yc, Xj⟩, Zu⟩, hq1, rfl, (fun r h => by cases h), (Wa.ask (q := pNo) hS).bad _⟩
        ·intro c9
         try (first | replace c9 := dFa c9 | replace c9 := Zi c9)
         first
         | (exfalso; omega)
         |skip
          refine Zw (Zc (Zf (Zb (Za rfl (Zd rfl) (Za rfl (Ex_gtr rfl rfl) ?_)))))
          refine Ze (Zc (Yi rfl ?_ ?_))
          ·intro c10
           try (first | replace c10 := dTr c10 | replace c10 := Zk c10)
           first
           | (exfalso; omega)
           |skip
            refine Zb (Za rfl (Zd rfl) ?_)
            first | (refine Yk fn90 rfl rfl 2 rfl h0.base (Rc_F h0) (Xv u b s hs σ4 q4 hq4 hr4) (fun h => h.elim) ?_; rintro v cs' ⟨R', t, σ5, q5, ⟨rfl, ht, -⟩, hq5, rfl, hr5, hst5⟩; have hS5 := hS4.next hst5) | (refine Yk fn90 rfl rfl 2 rfl h0.base (Rc_F h0) (Xv u b s hs σ3 q3 hq3 hr3) (fun h => h.elim) ?_; rintro v cs' ⟨R', t, σ5, q5, ⟨rfl, ht, -⟩, hq5, rfl, hr5, hst5⟩; have hS5 := hS3.next hst5)
            refine Za rfl (Zh (ff rfl) rfl) (Za rfl (Zh (ff rfl) rfl) (Yd (tn rfl) rfl rfl 0 rfl rfl rfl rfl (Ze (Zx (Zc ?_)))))
            refine Zf (Zb (Za rfl (Yb (tn rfl) rfl 0 rfl rfl) (Yd (tn rfl) rfl rfl 1 rfl rfl rfl rfl (Ze (Zc ?_)))))
            refine Zv (Rc_endR (Res_1 rfl (Xo (tn rfl) rfl (Yj 1 rfl) rfl)) 2 rfl ?_)
            first | exact ⟨⟨op, 0, ⟨c, nm, ps, t⟩⟩, σ5, q5, ⟨_, rfl, Asr.fst _ _, ⟨hop, Yc, Zr hc, Zr hnm, ht⟩, tys_255 hpl hpo⟩, hq5, rfl, hr5, hS5.done⟩ | exact ⟨⟨op, 0, ⟨c, nm, [], t⟩⟩, σ5, q5, ⟨_, rfl, Zy _, ⟨hop, Yc, Zr hc, Zr hnm, ht⟩, Zu⟩, hq5, rfl, hr5, hS5.done⟩ | exact ⟨⟨op, 0, ⟨c, mt, [], ⟨0, mt⟩⟩⟩, σ2, q2, ⟨_, rfl, Zy _, ⟨hop, Yc, Zr hc, Xt, tyOk_0⟩, Zu⟩, hq2, rfl, hr2, hS2.done⟩ | exact ⟨⟨op, n, rf0⟩, σ2, q2, ⟨_, rfl, Zy _, ⟨hop, hn, Xj⟩, Zu⟩, hq2, rfl, hr2, hS2.done⟩ | exact ⟨⟨op, 0, rf0⟩, σ1, q1, ⟨_, rfl, Zy _, ⟨hop, Yc, Xj⟩, Zu⟩, hq1, rfl, hr1, hS.done⟩ | exact ⟨⟨op, 0, rf0⟩, none, q1, ⟨_, rfl, Zy _, ⟨hop, Yc, Xj⟩, Zu⟩, hq1, rfl, (fun r h => by cases h), (Wa.ask (q := pNo) hS).bad _⟩
          ·intro c10
           try (first | replace c10 := dFa c10 | replace c10 := Zi c10)
           first
           | (exfalso; omega)
           |skip
            refine Zw (Zx (Zc (Zf (Zb (Za rfl (Yb (tn rfl) rfl 0 rfl rfl) ?_)))))
            refine Yd (tn rfl) rfl rfl 1 rfl rfl rfl rfl (Ze (Zc (Zv (Rc_endR (Res_1 rfl (Xo (tn rfl) rfl (Yj 1 rfl) rfl)) 2 rfl ?_))))
            first | exact ⟨⟨op, 0, ⟨c, nm, ps, t⟩⟩, σ5, q5, ⟨_, rfl, Asr.fst _ _, ⟨hop, Yc, Zr hc, Zr hnm, ht⟩, tys_255 hpl hpo⟩, hq5, rfl, hr5, hS5.done⟩ | exact ⟨⟨op, 0, ⟨c, nm, [], t⟩⟩, σ5, q5, ⟨_, rfl, Zy _, ⟨hop, Yc, Zr hc, Zr hnm, ht⟩, Zu⟩, hq5, rfl, hr5, hS5.done⟩ | exact ⟨⟨op, 0, ⟨c, mt, [], ⟨0, mt⟩⟩⟩, σ2, q2, ⟨_, rfl, Zy _, ⟨hop, Yc, Zr hc, Xt, tyOk_0⟩, Zu⟩, hq2, rfl, hr2, hS2.done⟩ | exact ⟨⟨op, n, rf0⟩, σ2, q2, ⟨_, rfl, Zy _, ⟨hop, hn, Xj⟩, Zu⟩, hq2, rfl, hr2, hS2.done⟩ | exact ⟨⟨op, 0, rf0⟩, σ1, q1, ⟨_, rfl, Zy _, ⟨hop, Yc, Xj⟩, Zu⟩, hq1, rfl, hr1, hS.done⟩ | exact ⟨⟨op, 0, rf0⟩, none, q1, ⟨_, rfl, Zy _, ⟨hop, Yc, Xj⟩, Zu⟩, hq1, rfl, (fun r h => by cases h), (Wa.ask (q := pNo) hS).bad _⟩
     ·intro c5
      try (first | replace c5 := dFa c5 | replace c5 := Zi c5)
      refine Zf (Zb (Za rfl (Xc rfl rfl) (Za rfl (Zg rfl) (Ze (Zc ?_)))))
      refine Yi rfl ?_ ?_
      ·intro c6
       try (first | replace c6 := dTr c6 | replace c6 := Zk c6)
       rw [insP5 c6] at hS
       refine Zw (Zc (Xq rfl ?_))
       try rw [insP6 c7] at hS
       refine Zf (Zb (Za rfl (Zd rfl) (Yk fn87 rfl rfl 2 rfl h0.base (Rc_F h0) (tpName_any u b s hs σ1 q1 hq1 hr1) (fun h => h.elim) ?_)))
       rintro v cs' ⟨R', c, σ2, q2, ⟨rfl, hc, -⟩, hq2, rfl, hr2, hst2⟩
       have hS2 := hS.next hst2
       refine Za rfl (Zh (ff rfl) rfl) (Za rfl (Zh (ff rfl) rfl) (Xd (t1 rfl) rfl rfl 0 rfl rfl rfl rfl (Ze (Zc (Zf ?_)))))
       refine Zf (Zb (Za rfl (Zd rfl) (Za rfl (Ex_gtr rfl rfl) (Ze (Zc ?_)))))
       refine Yi rfl ?_ ?_
       ·intro c8
        try (first | replace c8 := dTr c8 | replace c8 := Zk c8)
        first
        | (exfalso; omega)
        |skip
         refine Zb (Za rfl (Zd rfl) (Yk fn87 rfl rfl 2 rfl h0.base (Rc_F h0) (tpName_any u b s hs σ2 q2 hq2 hr2) (fun h => h.elim) ?_))
         rintro v cs' ⟨R', nm, σ3, q3, ⟨rfl, hnm, -⟩, hq3, rfl, hr3, hst3⟩
         have hS3 := hS2.next hst3
         refine Za rfl (Zh (ff rfl) rfl) (Za rfl (Zh (ff rfl) rfl) (Xd (t1 rfl) rfl rfl 0 rfl rfl rfl rfl (Ze (Zc (Zf ?_)))))
         refine Zf (Zb (Za rfl (Zd rfl) (Za rfl (Xc rfl rfl) (Ze (Zc ?_)))))
         refine Yi rfl ?_ ?_
         ·intro c9
          try (first | replace c9 := dTr c9 | replace c9 := Zk c9)
          first
          | (exfalso; omega)
          |skip
           refine Zb (Za rfl (Zd rfl) (WL_callR fn132 rfl rfl 2 rfl h0.base (Rc_F h0) (tpTypes_any u b s 6 hs σ3 q3 hq3 hr3) (fun h => h.elim) ?_))
           rintro pv cs' R' ⟨ps, σ4, q4, ⟨hR, hpl, hpo⟩, hq4, rfl, hr4, hst4⟩
           have hS4 := hS3.next hst4
           refine Xm hR.left (Xz (p := ∃ p l c, pv = .slice p l c) (fun w hs => Xl hs.res.1) ?_)
           rintro ⟨p1, l1, c1', rfl⟩
           refine Za rfl (Zh (ff rfl) rfl) (Za rfl (Zh (ff rfl) rfl) (Xd (t1 rfl) rfl rfl 0 rfl rfl rfl rfl (Ze (Zc (Zf ?_)))))
           refine Zb (Za rfl (Zd rfl) (Za rfl (Ex_gtr rfl rfl) (Ze (Zc (Yi rfl ?_ ?_)))))
           ·intro c10
            try (first | replace c10 := dTr c10 | replace c10 := Zk c10)
            first
            | (exfalso; omega)
            |skip
             refine Zb (Za rfl (Zd rfl) ?_)
             first | (refine Yk fn90 rfl rfl 2 rfl h0.base (Rc_F h0) (Xv u b s hs σ4 q4 hq4 hr4) (fun h => h.elim) ?_; rintro v cs' ⟨R', t, σ5, q5, ⟨rfl, ht, -⟩, hq5, rfl, hr5, hst5⟩; have hS5 := hS4.next hst5) | (refine Yk fn90 rfl rfl 2 rfl h0.base (Rc_F h0) (Xv u b s hs σ3 q3 hq3 hr3) (fun h => h.elim) ?_; rintro v cs' ⟨R', t, σ5, q5, ⟨rfl, ht, -⟩, hq5, rfl, hr5, hst5⟩; have hS5 := hS3.next hst5)
             refine Za rfl (Zh (ff rfl) rfl) (Za rfl (Zh (ff rfl) rfl) (Yd (tn rfl) rfl rfl 0 rfl rfl rfl rfl (Ze (Zx (Zc ?_)))))
             refine Zf (Zb (Za rfl (Yb (tn rfl) rfl 0 rfl rfl) (Yd (tn rfl) rfl rfl 1 rfl rfl rfl rfl (Ze (Zc ?_)))))
             refine Zv (Rc_endR (Res_1 rfl (Xo (tn rfl) rfl (Yj 1 rfl) rfl)) 2 rfl ?_)
             first | exact ⟨⟨op, 0, ⟨c, nm, ps, t⟩⟩, σ5, q5, ⟨_, rfl, Asr.fst _ _, ⟨hop, Yc, Zr hc, Zr hnm, ht⟩, tys_255 hpl hpo⟩, hq5, rfl, hr5, hS5.done⟩ | exact ⟨⟨op, 0, ⟨c, nm, [], t⟩⟩, σ5, q5, ⟨_, rfl, Zy _, ⟨hop, Yc, Zr hc, Zr hnm, ht⟩, Zu⟩, hq5, rfl, hr5, hS5.done⟩ | exact ⟨⟨op, 0, ⟨c, mt, [], ⟨0, mt⟩⟩⟩, σ2, q2, ⟨_, rfl, Zy _, ⟨hop, Yc, Zr hc, Xt, tyOk_0⟩, Zu⟩, hq2, rfl, hr2, hS2.done⟩ | exact ⟨⟨op, n, rf0⟩, σ2, q2, ⟨_, rfl, Zy _, ⟨hop, hn, Xj⟩, Zu⟩, hq2, rfl, hr2, hS2.done⟩ | exact ⟨⟨op, 0, rf0⟩, σ1, q1, ⟨_, rfl, Zy _, ⟨hop, Yc, Xj⟩, Zu⟩, hq1, rfl, hr1, hS.done⟩ | exact ⟨⟨op, 0, rf0⟩, none, q1, ⟨_, rfl, Zy _, ⟨hop, Yc, Xj⟩, Zu⟩, hq1, rfl, (fun r h => by cases h), (Wa.ask (q := pNo) hS).bad _⟩
           ·intro c10
            try (first | replace c10 := dFa c10 | replace c10 := Zi c10)
            first
            | (exfalso; omega)
            |skip
             refine Zw (Zx (Zc (Zf (Zb (Za rfl (Yb (tn rfl) rfl 0 rfl rfl) ?_)))))
             refine Yd (tn rfl) rfl rfl 1 rfl rfl rfl rfl (Ze (Zc (Zv (Rc_endR (Res_1 rfl (Xo (tn rfl) rfl (Yj 1 rfl) rfl)) 2 rfl ?_))))
             first | exact ⟨⟨op, 0, ⟨c, nm, ps, t⟩⟩, σ5, q5, ⟨_, rfl, Asr.fst _ _, ⟨hop, Yc, Zr hc, Zr hnm, ht⟩, tys_255 hpl hpo⟩, hq5, rfl, hr5, hS5.done⟩ | exact ⟨⟨op, 0, ⟨c, nm, [], t⟩⟩, σ5, q5, ⟨_, rfl, Zy _, ⟨hop, Yc, Zr hc, Zr hnm, ht⟩, Zu⟩, hq5, rfl, hr5, hS5.done⟩ | exact ⟨⟨op, 0, ⟨c, mt, [], ⟨0, mt⟩⟩⟩, σ2, q2, ⟨_, rfl, Zy _, ⟨hop, Yc, Zr hc, Xt, tyOk_0⟩, Zu⟩, hq2, rfl, hr2, hS2.done⟩ | exact ⟨⟨op, n, rf0⟩, σ2, q2, ⟨_, rfl, Zy _, ⟨hop, hn, Xj⟩, Zu⟩, hq2, rfl, hr2, hS2.done⟩ | exact ⟨⟨op, 0, rf0⟩, σ1, q1, ⟨_, rfl, Zy _, ⟨hop, Yc, Xj⟩, Zu⟩, hq1, rfl, hr1, hS.done⟩ | exact ⟨⟨op, 0, rf0⟩, none, q1, ⟨_, rfl, Zy _, ⟨hop, Yc, Xj⟩, Zu⟩, hq1, rfl, (fun r h => by cases h), (Wa.ask (q := pNo) hS).bad _⟩
         ·intro c9
          try (first | replace c9 := dFa c9 | replace c9 := Zi c9)
          first
          | (exfalso; omega)
          |skip
           refine Zw (Zc (Zf (Zb (Za rfl (Zd rfl) (Za rfl (Ex_gtr rfl rfl) ?_)))))
           refine Ze (Zc (Yi rfl ?_ ?_))
           ·intro c10
            try (first | replace c10 := dTr c10 | replace c10 := Zk c10)
            first
            | (exfalso; omega)
            |skip
             refine Zb (Za rfl (Zd rfl) ?_)
             first | (refine Yk fn90 rfl rfl 2 rfl h0.base (Rc_F h0) (Xv u b s hs σ4 q4 hq4 hr4) (fun h => h.elim) ?_; rintro v cs' ⟨R', t, σ5, q5, ⟨rfl, ht, -⟩, hq5, rfl, hr5, hst5⟩; have hS5 := hS4.next hst5) | (refine Yk fn90 rfl rfl 2 rfl h0.base (Rc_F h0) (Xv u b s hs σ3 q3 hq3 hr3) (fun h => h.elim) ?_; rintro v cs' ⟨R', t, σ5, q5, ⟨rfl, ht, -⟩, hq5, rfl, hr5, hst5⟩; have hS5 := hS3.next hst5)
             refine Za rfl (Zh (ff rfl) rfl) (Za rfl (Zh (ff rfl) rfl) (Yd (tn rfl) rfl rfl 0 rfl rfl rfl rfl (Ze (Zx (Zc ?_)))))
             refine Zf (Zb (Za rfl (Yb (tn rfl) rfl 0 rfl rfl) (Yd (tn rfl) rfl rfl 1 rfl rfl rfl rfl (Ze (Zc ?_)))))
             refine Zv (Rc_endR (Res_1 rfl (Xo (tn rfl) rfl (Yj 1 rfl) rfl)) 2 rfl ?_)
             first | exact ⟨⟨op, 0, ⟨c, nm, ps, t⟩⟩, σ5, q5, ⟨_, rfl, Asr.fst _ _, ⟨hop, Yc, Zr hc, Zr hnm, ht⟩, tys_255 hpl hpo⟩, hq5, rfl, hr5, hS5.done⟩ | exact ⟨⟨op, 0, ⟨c, nm, [], t⟩⟩, σ5, q5, ⟨_, rfl, Zy _, ⟨hop, Yc, Zr hc, Zr hnm, ht⟩, Zu⟩, hq5, rfl, hr5, hS5.done⟩ | exact ⟨⟨op, 0, ⟨c, mt, [], ⟨0, mt⟩⟩⟩, σ2, q2, ⟨_, rfl, Zy _, ⟨hop, Yc, Zr hc, Xt, tyOk_0⟩, Zu⟩, hq2, rfl, hr2, hS2.done⟩ | exact ⟨⟨op, n, rf0⟩, σ2, q2, ⟨_, rfl, Zy _, ⟨hop, hn, Xj⟩, Zu⟩, hq2, rfl, hr2, hS2.done⟩ | exact ⟨⟨op, 0, rf0⟩, σ1, q1, ⟨_, rfl, Zy _, ⟨hop, Yc, Xj⟩, Zu⟩, hq1, rfl, hr1, hS.done⟩ | exact ⟨⟨op, 0, rf0⟩, none, q1, ⟨_, rfl, Zy _, ⟨hop, Yc, Xj⟩, Zu⟩, hq1, rfl, (fun r h => by cases h), (Wa.ask (q := pNo) hS).bad _⟩
           ·intro c10
            try (first | replace c10 := dFa c10 | replace c10 := Zi c10)
            first
            | (exfalso; omega)
            |skip
             refine Zw (Zx (Zc (Zf (Zb (Za rfl (Yb (tn rfl) rfl 0 rfl rfl) ?_)))))
             refine Yd (tn rfl) rfl rfl 1 rfl rfl rfl rfl (Ze (Zc (Zv (Rc_endR (Res_1 rfl (Xo (tn rfl) rfl (Yj 1 rfl) rfl)) 2 rfl ?_))))
             first | exact ⟨⟨op, 0, ⟨c, nm, ps, t⟩⟩, σ5, q5, ⟨_, rfl, Asr.fst _ _, ⟨hop, Yc, Zr hc, Zr hnm, ht⟩, tys_255 hpl hpo⟩, hq5, rfl, hr5, hS5.done⟩ | exact ⟨⟨op, 0, ⟨c, nm, [], t⟩⟩, σ5, q5, ⟨_, rfl, Zy _, ⟨hop, Yc, Zr hc, Zr hnm, ht⟩, Zu⟩, hq5, rfl, hr5, hS5.done⟩ | exact ⟨⟨op, 0, ⟨c, mt, [], ⟨0, mt⟩⟩⟩, σ2, q2, ⟨_, rfl, Zy _, ⟨hop, Yc, Zr hc, Xt, tyOk_0⟩, Zu⟩, hq2, rfl, hr2, hS2.done⟩ | exact ⟨⟨op, n, rf0⟩, σ2, q2, ⟨_, rfl, Zy _, ⟨hop, hn, Xj⟩, Zu⟩, hq2, rfl, hr2, hS2.done⟩ | exact ⟨⟨op, 0, rf0⟩, σ1, q1, ⟨_, rfl, Zy _, ⟨hop, Yc, Xj⟩, Zu⟩, hq1, rfl, hr1, hS.done⟩ | exact ⟨⟨op, 0, rf0⟩, none, q1, ⟨_, rfl, Zy _, ⟨hop, Yc, Xj⟩, Zu⟩, hq1, rfl, (fun r h => by cases h), (Wa.ask (q := pNo) hS).bad _⟩
       ·intro c8
        try (first | replace c8 := dFa c8 | replace c8 := Zi c8)
        first
        | (exfalso; omega)
        |skip
         refine Zw (Zc (Zf (Zf (Zb (Za rfl (Zd rfl) ?_)))))
         refine Za rfl (Xc rfl rfl) (Ze (Zc (Yi rfl ?_ ?_)))
         ·intro c9
          try (first | replace c9 := dTr c9 | replace c9 := Zk c9)
          first
          | (exfalso; omega)
          |skip
           refine Zb (Za rfl (Zd rfl) (WL_callR fn132 rfl rfl 2 rfl h0.base (Rc_F h0) (tpTypes_any u b s 6 hs σ3 q3 hq3 hr3) (fun h => h.elim) ?_))
           rintro pv cs' R' ⟨ps, σ4, q4, ⟨hR, hpl, hpo⟩, hq4, rfl, hr4, hst4⟩
           have hS4 := hS3.next hst4
           refine Xm hR.left (Xz (p := ∃ p l c, pv = .slice p l c) (fun w hs => Xl hs.res.1) ?_)
           rintro ⟨p1, l1, c1', rfl⟩
           refine Za rfl (Zh (ff rfl) rfl) (Za rfl (Zh (ff rfl) rfl) (Xd (t1 rfl) rfl rfl 0 rfl rfl rfl rfl (Ze (Zc (Zf ?_)))))
           refine Zb (Za rfl (Zd rfl) (Za rfl (Ex_gtr rfl rfl) (Ze (Zc (Yi rfl ?_ ?_)))))
           ·intro c10
            try (first | replace c10 := dTr c10 | replace c10 := Zk c10)
            first
            | (exfalso; omega)
            |skip
             refine Zb (Za rfl (Zd rfl) ?_)
             first | (refine Yk fn90 rfl rfl 2 rfl h0.base (Rc_F h0) (Xv u b s hs σ4 q4 hq4 hr4) (fun h => h.elim) ?_; rintro v cs' ⟨R', t, σ5, q5, ⟨rfl, ht, -⟩, hq5, rfl, hr5, hst5⟩; have hS5 := hS4.next hst5) | (refine Yk fn90 rfl rfl 2 rfl h0.base (Rc_F h0) (Xv u b s hs σ3 q3 hq3 hr3) (fun h => h.elim) ?_; rintro v cs' ⟨R', t, σ5, q5, ⟨rfl, ht, -⟩, hq5, rfl, hr5, hst5⟩; have hS5 := hS3.next hst5)
             refine Za rfl (Zh (ff rfl) rfl) (Za rfl (Zh (ff rfl) rfl) (Yd (tn rfl) rfl rfl 0 rfl rfl rfl rfl (Ze (Zx (Zc ?_)))))
             refine Zf (Zb (Za rfl (Yb (tn rfl) rfl 0 rfl rfl) (Yd (tn rfl) rfl rfl 1 rfl rfl rfl rfl (Ze (Zc ?_)))))
             refine Zv (Rc_endR (Res_1 rfl (Xo (tn rfl) rfl (Yj 1 rfl) rfl)) 2 rfl ?_)
             first | exact ⟨⟨op, 0, ⟨c, nm, ps, t⟩⟩, σ5, q5, ⟨_, rfl, Asr.fst _ _, ⟨hop, Yc, Zr hc, Zr hnm, ht⟩, tys_255 hpl hpo⟩, hq5, rfl, hr5, hS5.done⟩ | exact ⟨⟨op, 0, ⟨c, nm, [], t⟩⟩, σ5, q5, ⟨_, rfl, Zy _, ⟨hop, Yc, Zr hc, Zr hnm, ht⟩, Zu⟩, hq5, rfl, hr5, hS5.done⟩ | exact ⟨⟨op, 0, ⟨c, mt, [], ⟨0, mt⟩⟩⟩, σ2, q2, ⟨_, rfl, Zy _, ⟨hop, Yc, Zr hc, Xt, tyOk_0⟩, Zu⟩, hq2, rfl, hr2, hS2.done⟩ | exact ⟨⟨op, n, rf0⟩, σ2, q2, ⟨_, rfl, Zy _, ⟨hop, hn, Xj⟩, Zu⟩, hq2, rfl, hr2, hS2.done⟩ | exact ⟨⟨op, 0, rf0⟩, σ1, q1, ⟨_, rfl, Zy _, ⟨hop, Yc, Xj⟩, Zu⟩, hq1, rfl, hr1, hS.done⟩ | exact ⟨⟨op, 0, rf0⟩, none, q1, ⟨_, rfl, Zy _, ⟨hop, Yc, Xj⟩, Zu⟩, hq1, rfl, (fun r h => by cases h), (Wa.ask (q := pNo) hS).bad _⟩
           ·intro c10
            try (first | replace c10 := dFa c10 | replace c10 := Zi c10)
            first
            | (exfalso; omega)
            |skip
             refine Zw (Zx (Zc (Zf (Zb (Za rfl (Yb (tn rfl) rfl 0 rfl rfl) ?_)))))
             refine Yd (tn rfl) rfl rfl 1 rfl rfl rfl rfl (Ze (Zc (Zv (Rc_endR (Res_1 rfl (Xo (tn rfl) rfl (Yj 1 rfl) rfl)) 2 rfl ?_))))
             first | exact ⟨⟨op, 0, ⟨c, nm, ps, t⟩⟩, σ5, q5, ⟨_, rfl, Asr.fst _ _, ⟨hop, Yc, Zr hc, Zr hnm, ht⟩, tys_255 hpl hpo⟩, hq5, rfl, hr5, hS5.done⟩ | exact ⟨⟨op, 0, ⟨c, nm, [], t⟩⟩, σ5, q5, ⟨_, rfl, Zy _, ⟨hop, Yc, Zr hc, Zr hnm, ht⟩, Zu⟩, hq5, rfl, hr5, hS5.done⟩ | exact ⟨⟨op, 0, ⟨c, mt, [], ⟨0, mt⟩⟩⟩, σ2, q2, ⟨_, rfl, Zy _, ⟨hop, Yc, Zr hc, Xt, tyOk_0⟩, Zu⟩, hq2, rfl, hr2, hS2.done⟩ | exact ⟨⟨op, n, rf0⟩, σ2, q2, ⟨_, rfl, Zy _, ⟨hop, hn, Xj⟩, Zu⟩, hq2, rfl, hr2, hS2.done⟩ | exact ⟨⟨op, 0, rf0⟩, σ1, q1, ⟨_, rfl, Zy _, ⟨hop, Yc, Xj⟩, Zu⟩, hq1, rfl, hr1, hS.done⟩ | exact ⟨⟨op, 0, rf0⟩, none, q1, ⟨_, rfl, Zy _, ⟨hop, Yc, Xj⟩, Zu⟩, hq1, rfl, (fun r h => by cases h), (Wa.ask (q := pNo) hS).bad _⟩
         ·intro c9
          try (first | replace c9 := dFa c9 | replace c9 := Zi c9)
          first
          | (exfalso; omega)
          |skip
           refine Zw (Zc (Zf (Zb (Za rfl (Zd rfl) (Za rfl (Ex_gtr rfl rfl) ?_)))))
           refine Ze (Zc (Yi rfl ?_ ?_))
           ·intro c10
            try (first | replace c10 := dTr c10 | replace c10 := Zk c10)
            first
            | (exfalso; omega)
            |skip
             refine Zb (Za rfl (Zd rfl) ?_)
             first | (refine Yk fn90 rfl rfl 2 rfl h0.base (Rc_F h0) (Xv u b s hs σ4 q4 hq4 hr4) (fun h => h.elim) ?_; rintro v cs' ⟨R', t, σ5, q5, ⟨rfl, ht, -⟩, hq5, rfl, hr5, hst5⟩; have hS5 := hS4.next hst5) | (refine Yk fn90 rfl rfl 2 rfl h0.base (Rc_F h0) (Xv u b s hs σ3 q3 hq3 hr3) (fun h => h.elim) ?_; rintro v cs' ⟨R', t, σ5, q5, ⟨rfl, ht, -⟩, hq5, rfl, hr5, hst5⟩; have hS5 := hS3.next hst5)
             refine Za rfl (Zh (ff rfl) rfl) (Za rfl (Zh (ff rfl) rfl) (Yd (tn rfl) rfl rfl 0 rfl rfl rfl rfl (Ze (Zx (Zc ?_)))))
             refine Zf (Zb (Za rfl (Yb (tn rfl) rfl 0 rfl rfl) (Yd (tn rfl) rfl rfl 1 rfl rfl rfl rfl (Ze (Zc ?_)))))
             refine Zv (Rc_endR (Res_1 rfl (Xo (tn rfl) rfl (Yj 1 rfl) rfl)) 2 rfl ?_)
             first | exact ⟨⟨op, 0, ⟨c, nm, ps, t⟩⟩, σ5, q5, ⟨_, rfl, Asr.fst _ _, ⟨hop, Yc, Zr hc, Zr hnm, ht⟩, tys_255 hpl hpo⟩, hq5, rfl, hr5, hS5.done⟩ | exact ⟨⟨op, 0, ⟨c, nm, [], t⟩⟩, σ5, q5, ⟨_, rfl, Zy _, ⟨hop, Yc, Zr hc, Zr hnm, ht⟩, Zu⟩, hq5, rfl, hr5, hS5.done⟩ | exact ⟨⟨op, 0, ⟨c, mt, [], ⟨0, mt⟩⟩⟩, σ2, q2, ⟨_, rfl, Zy _, ⟨hop, Yc, Zr hc, Xt, tyOk_0⟩, Zu⟩, hq2, rfl, hr2, hS2.done⟩ | exact ⟨⟨op, n, rf0⟩, σ2, q2, ⟨_, rfl, Zy _, ⟨hop, hn, Xj⟩, Zu⟩, hq2, rfl, hr2, hS2.done⟩ | exact ⟨⟨op, 0, rf0⟩, σ1, q1, ⟨_, rfl, Zy _, ⟨hop, Yc, Xj⟩, Zu⟩, hq1, rfl, hr1, hS.done⟩ | exact ⟨⟨op, 0, rf0⟩, none, q1, ⟨_, rfl, Zy _, ⟨hop, Yc, Xj⟩, Zu⟩, hq1, rfl, (fun r h => by cases h), (Wa.ask (q := pNo) hS).bad _⟩
           ·intro c10
            try (first | replace c10 := dFa c10 | replace c10 := Zi c10)
            first
            | (exfalso; omega)
            |skip
             refine Zw (Zx (Zc (Zf (Zb (Za rfl (Yb (tn rfl) rfl 0 rfl rfl) ?_)))))
             refine Yd (tn rfl) rfl rfl 1 rfl rfl rfl rfl (Ze (Zc (Zv (Rc_endR (Res_1 rfl (Xo (tn rfl) rfl (Yj 1 rfl) rfl)) 2 rfl ?_))))
             first | exact ⟨⟨op, 0, ⟨c, nm, ps, t⟩⟩, σ5, q5, ⟨_, rfl, Asr.fst _ _, ⟨hop, Yc, Zr hc, Zr hnm, ht⟩, tys_255 hpl hpo⟩, hq5, rfl, hr5, hS5.done⟩ | exact ⟨⟨op, 0, ⟨c, nm, [], t⟩⟩, σ5, q5, ⟨_, rfl, Zy _, ⟨hop, Yc, Zr hc, Zr hnm, ht⟩, Zu⟩, hq5, rfl, hr5, hS5.done⟩ | exact ⟨⟨op, 0, ⟨c, mt, [], ⟨0, mt⟩⟩⟩, σ2, q2, ⟨_, rfl, Zy _, ⟨hop, Yc, Zr hc, Xt, tyOk_0⟩, Zu⟩, hq2, rfl, hr2, hS2.done⟩ | exact ⟨⟨op, n, rf0⟩, σ2, q2, ⟨_, rfl, Zy _, ⟨hop, hn, Xj⟩, Zu⟩, hq2, rfl, hr2, hS2.done⟩ | exact ⟨⟨op, 0, rf0⟩, σ1, q1, ⟨_, rfl, Zy _, ⟨hop, Yc, Xj⟩, Zu⟩, hq1, rfl, hr1, hS.done⟩ | exact ⟨⟨op, 0, rf0⟩, none, q1, ⟨_, rfl, Zy _, ⟨hop, Yc, Xj⟩, Zu⟩, hq1, rfl, (fun r h => by cases h), (Wa.ask (q := pNo) hS).bad _⟩
      ·intro c6
       try (first | replace c6 := dFa c6 | replace c6 := Zi c6)
       refine Zb (Za rfl (Xc rfl rfl) (Za rfl (Zg rfl) (Ze (Zc (Yi rfl ?_ ?_)))))
       ·intro c7
        try (first | replace c7 := dTr c7 | replace c7 := Zk c7)
        first
        | (exfalso; omega)
        |skip
         try rw [insP6 c7] at hS
         refine Zf (Zb (Za rfl (Zd rfl) (Yk fn87 rfl rfl 2 rfl h0.base (Rc_F h0) (tpName_any u b s hs σ1 q1 hq1 hr1) (fun h => h.elim) ?_)))
         rintro v cs' ⟨R', c, σ2, q2, ⟨rfl, hc, -⟩, hq2, rfl, hr2, hst2⟩
         have hS2 := hS.next hst2
         refine Za rfl (Zh (ff rfl) rfl) (Za rfl (Zh (ff rfl) rfl) (Xd (t1 rfl) rfl rfl 0 rfl rfl rfl rfl (Ze (Zc (Zf ?_)))))
         refine Zf (Zb (Za rfl (Zd rfl) (Za rfl (Ex_gtr rfl rfl) (Ze (Zc ?_)))))
         refine Yi rfl ?_ ?_
         ·intro c8
          try (first | replace c8 := dTr c8 | replace c8 := Zk c8)
          first
          | (exfalso; omega)
          |skip
           refine Zb (Za rfl (Zd rfl) (Yk fn87 rfl rfl 2 rfl h0.base (Rc_F h0) (tpName_any u b s hs σ2 q2 hq2 hr2) (fun h => h.elim) ?_))
           rintro v cs' ⟨R', nm, σ3, q3, ⟨rfl, hnm, -⟩, hq3, rfl, hr3, hst3⟩
           have hS3 := hS2.next hst3
           refine Za rfl (Zh (ff rfl) rfl) (Za rfl (Zh (ff rfl) rfl) (Xd (t1 rfl) rfl rfl 0 rfl rfl rfl rfl (Ze (Zc (Zf ?_)))))
           refine Zf (Zb (Za rfl (Zd rfl) (Za rfl (Xc rfl rfl) (Ze (Zc ?_)))))
           refine Yi rfl ?_ ?_
           ·intro c9
            try (first | replace c9 := dTr c9 | replace c9 := Zk c9)
            first
            | (exfalso; omega)
            |skip
             refine Zb (Za rfl (Zd rfl) (WL_callR fn132 rfl rfl 2 rfl h0.base (Rc_F h0) (tpTypes_any u b s 6 hs σ3 q3 hq3 hr3) (fun h => h.elim) ?_))
             rintro pv cs' R' ⟨ps, σ4, q4, ⟨hR, hpl, hpo⟩, hq4, rfl, hr4, hst4⟩
             have hS4 := hS3.next hst4
             refine Xm hR.left (Xz (p := ∃ p l c, pv = .slice p l c) (fun w hs => Xl hs.res.1) ?_)
             rintro ⟨p1, l1, c1', rfl⟩
             refine Za rfl (Zh (ff rfl) rfl) (Za rfl (Zh (ff rfl) rfl) (Xd (t1 rfl) rfl rfl 0 rfl rfl rfl rfl (Ze (Zc (Zf ?_)))))
             refine Zb (Za rfl (Zd rfl) (Za rfl (Ex_gtr rfl rfl) (Ze (Zc (Yi rfl ?_ ?_)))))
             ·intro c10
              try (first | replace c10 := dTr c10 | replace c10 := Zk c10)
              first
              | (exfalso; omega)
              |skip
               refine Zb (Za rfl (Zd rfl) ?_)
               first | (refine Yk fn90 rfl rfl 2 rfl h0.base (Rc_F h0) (Xv u b s hs σ4 q4 hq4 hr4) (fun h => h.elim) ?_; rintro v cs' ⟨R', t, σ5, q5, ⟨rfl, ht, -⟩, hq5, rfl, hr5, hst5⟩; have hS5 := hS4.next hst5) | (refine Yk fn90 rfl rfl 2 rfl h0.base (Rc_F h0) (Xv u b s hs σ3 q3 hq3 hr3) (fun h => h.elim) ?_; rintro v cs' ⟨R', t, σ5, q5, ⟨rfl, ht, -⟩, hq5, rfl, hr5, hst5⟩; have hS5 := hS3.next hst5)
               refine Za rfl (Zh (ff rfl) rfl) (Za rfl (Zh (ff rfl) rfl) (Yd (tn rfl) rfl rfl 0 rfl rfl rfl rfl (Ze (Zx (Zc ?_)))))
               refine Zf (Zb (Za rfl (Yb (tn rfl) rfl 0 rfl rfl) (Yd (tn rfl) rfl rfl 1 rfl rfl rfl rfl (Ze (Zc ?_)))))
               refine Zv (Rc_endR (Res_1 rfl (Xo (tn rfl) rfl (Yj 1 rfl) rfl)) 2 rfl ?_)
               first | exact ⟨⟨op, 0, ⟨c, nm, ps, t⟩⟩, σ5, q5, ⟨_, rfl, Asr.fst _ _, ⟨hop, Yc, Zr hc, Zr hnm, ht⟩, tys_255 hpl hpo⟩, hq5, rfl, hr5, hS5.done⟩ | exact ⟨⟨op, 0, ⟨c, nm, [], t⟩⟩, σ5, q5, ⟨_, rfl, Zy _, ⟨hop, Yc, Zr hc, Zr hnm, ht⟩, Zu⟩, hq5, rfl, hr5, hS5.done⟩ | exact ⟨⟨op, 0, ⟨c, mt, [], ⟨0, mt⟩⟩⟩, σ2, q2, ⟨_, rfl, Zy _, ⟨hop, Yc, Zr hc, Xt, tyOk_0⟩, Zu⟩, hq2, rfl, hr2, hS2.done⟩ | exact ⟨⟨op, n, rf0⟩, σ2, q2, ⟨_, rfl, Zy _, ⟨hop, hn, Xj⟩, Zu⟩, hq2, rfl, hr2, hS2.done⟩ | exact ⟨⟨op, 0, rf0⟩, σ1, q1, ⟨_, rfl, Zy _, ⟨hop, Yc, Xj⟩, Zu⟩, hq1, rfl, hr1, hS.done⟩ | exact ⟨⟨op, 0, rf0⟩, none, q1, ⟨_, rfl, Zy _, ⟨hop, Yc, Xj⟩, Zu⟩, hq1, rfl, (fun r h => by cases h), (Wa.ask (q := pNo) hS).bad _⟩
             ·intro c10
              try (first | replace c10 := dFa c10 | replace c10 := Zi c10)
              first
              | (exfalso; omega)
              |skip
               refine Zw (Zx (Zc (Zf (Zb (Za rfl (Yb (tn rfl) rfl 0 rfl rfl) ?_)))))
               refine Yd (tn rfl) rfl rfl 1 rfl rfl rfl rfl (Ze (Zc (Zv (Rc_endR (Res_1 rfl (Xo (tn rfl) rfl (Yj 1 rfl) rfl)) 2 rfl ?_))))
               first | exact ⟨⟨op, 0, ⟨c, nm, ps, t⟩⟩, σ5, q5, ⟨_, rfl, Asr.fst _ _, ⟨hop, Yc, Zr hc, Zr hnm, ht⟩, tys_255 hpl hpo⟩, hq5, rfl, hr5, hS5.done⟩ | exact ⟨⟨op, 0, ⟨c, nm, [], t⟩⟩, σ5, q5, ⟨_, rfl, Zy _, ⟨hop, Yc, Zr hc, Zr hnm, ht⟩, Zu⟩, hq5, rfl, hr5, hS5.done⟩ | exact ⟨⟨op, 0, ⟨c, mt, [], ⟨0, mt⟩⟩⟩, σ2, q2, ⟨_, rfl, Zy _, ⟨hop, Yc, Zr hc, Xt, tyOk_0⟩, Zu⟩, hq2, rfl, hr2, hS2.done⟩ | exact ⟨⟨op, n, rf0⟩, σ2, q2, ⟨_, rfl, Zy _, ⟨hop, hn, Xj⟩, Zu⟩, hq2, rfl, hr2, hS2.done⟩ | exact ⟨⟨op, 0, rf0⟩, σ1, q1, ⟨_, rfl, Zy _, ⟨hop, Yc, Xj⟩, Zu⟩, hq1, rfl, hr1, hS.done⟩ | exact ⟨⟨op, 0, rf0⟩, none, q1, ⟨_, rfl, Zy _, ⟨hop, Yc, Xj⟩, Zu⟩, hq1, rfl, (fun r h => by cases h), (Wa.ask (q := pNo) hS).bad _⟩
           ·intro c9
            try (first | replace c9 := dFa c9 | replace c9 := Zi c9)
            first
            | (exfalso; omega)
            |skip
             refine Zw (Zc (Zf (Zb (Za rfl (Zd rfl) (Za rfl (Ex_gtr rfl rfl) ?_)))))
             refine Ze (Zc (Yi rfl ?_ ?_))
             ·intro c10
              try (first | replace c10 := dTr c10 | replace c10 := Zk c10)
              first
              | (exfalso; omega)
              |skip
               refine Zb (Za rfl (Zd rfl) ?_)
               first | (refine Yk fn90 rfl rfl 2 rfl h0.base (Rc_F h0) (Xv u b s hs σ4 q4 hq4 hr4) (fun h => h.elim) ?_; rintro v cs' ⟨R', t, σ5, q5, ⟨rfl, ht, -⟩, hq5, rfl, hr5, hst5⟩; have hS5 := hS4.next hst5) | (refine Yk fn90 rfl rfl 2 rfl h0.base (Rc_F h0) (Xv u b s hs σ3 q3 hq3 hr3) (fun h => h.elim) ?_; rintro v cs' ⟨R', t, σ5, q5, ⟨rfl, ht, -⟩, hq5, rfl, hr5, hst5⟩; have hS5 := hS3.next hst5)
               refine Za rfl (Zh (ff rfl) rfl) (Za rfl (Zh (ff rfl) rfl) (Yd (tn rfl) rfl rfl 0 rfl rfl rfl rfl (Ze (Zx (Zc ?_)))))
               refine Zf (Zb (Za rfl (Yb (tn rfl) rfl 0 rfl rfl) (Yd (tn rfl) rfl rfl 1 rfl rfl rfl rfl (Ze (Zc ?_)))))
               refine Zv (Rc_endR (Res_1 rfl (Xo (tn rfl) rfl (Yj 1 rfl) rfl)) 2 rfl ?_)
               first | exact ⟨⟨op, 0, ⟨c, nm, ps, t⟩⟩, σ5, q5, ⟨_, rfl, Asr.fst _ _, ⟨hop, Yc, Zr hc, Zr hnm, ht⟩, tys_255 hpl hpo⟩, hq5, rfl, hr5, hS5.done⟩ | exact ⟨⟨op, 0, ⟨c, nm, [], t⟩⟩, σ5, q5, ⟨_, rfl, Zy _, ⟨hop, Yc, Zr hc, Zr hnm, ht⟩, Zu⟩, hq5, rfl, hr5, hS5.done⟩ | exact ⟨⟨op, 0, ⟨c, mt, [], ⟨0, mt⟩⟩⟩, σ2, q2, ⟨_, rfl, Zy _, ⟨hop, Yc, Zr hc, Xt, tyOk_0⟩, Zu⟩, hq2, rfl, hr2, hS2.done⟩ | exact ⟨⟨op, n, rf0⟩, σ2, q2, ⟨_, rfl, Zy _, ⟨hop, hn, Xj⟩, Zu⟩, hq2, rfl, hr2, hS2.done⟩ | exact ⟨⟨op, 0, rf0⟩, σ1, q1, ⟨_, rfl, Zy _, ⟨hop, Yc, Xj⟩, Zu⟩, hq1, rfl, hr1, hS.done⟩ | exact ⟨⟨op, 0, rf0⟩, none, q1, ⟨_, rfl, Zy _, ⟨hop, Yc, Xj⟩, Zu⟩, hq1, rfl, (fun r h => by cases h), (Wa.ask (q := pNo) hS).bad _⟩
             ·intro c10
              try (first | replace c10 := dFa c10 | replace c10 := Zi c10)
              first
              | (exfalso; omega)
              |skip
               refine Zw (Zx (Zc (Zf (Zb (Za rfl (Yb (tn rfl) rfl 0 rfl rfl) ?_)))))
               refine Yd (tn rfl) rfl rfl 1 rfl rfl rfl rfl (Ze (Zc (Zv (Rc_endR (Res_1 rfl (Xo (tn rfl) rfl (Yj 1 rfl) rfl)) 2 rfl ?_))))
               first | exact ⟨⟨op, 0, ⟨c, nm, ps, t⟩⟩, σ5, q5, ⟨_, rfl, Asr.fst _ _, ⟨hop, Yc, Zr hc, Zr hnm, ht⟩, tys_255 hpl hpo⟩, hq5, rfl, hr5, hS5.done⟩ | exact ⟨⟨op, 0, ⟨c, nm, [], t⟩⟩, σ5, q5, ⟨_, rfl, Zy _, ⟨hop, Yc, Zr hc, Zr hnm, ht⟩, Zu⟩, hq5, rfl, hr5, hS5.done⟩ | exact ⟨⟨op, 0, ⟨c, mt, [], ⟨0, mt⟩⟩⟩, σ2, q2, ⟨_, rfl, Zy _, ⟨hop, Yc, Zr hc, Xt, tyOk_0⟩, Zu⟩, hq2, rfl, hr2, hS2.done⟩ | exact ⟨⟨op, n, rf0⟩, σ2, q2, ⟨_, rfl, Zy _, ⟨hop, hn, Xj⟩, Zu⟩, hq2, rfl, hr2, hS2.done⟩ | exact ⟨⟨op, 0, rf0⟩, σ1, q1, ⟨_, rfl, Zy _, ⟨hop, Yc, Xj⟩, Zu⟩, hq1, rfl, hr1, hS.done⟩ | exact ⟨⟨op, 0, rf0⟩, none, q1, ⟨_, rfl, Zy _, ⟨hop, Yc, Xj⟩, Zu⟩, hq1, rfl, (fun r h => by cases h), (Wa.ask (q := pNo) hS).bad _⟩
         ·intro c8
          try (first | replace c8 := dFa c8 | replace c8 := Zi c8)
          first
          | (exfalso; omega)
          |skip
           refine Zw (Zc (Zf (Zf (Zb (Za rfl (Zd rfl) ?_)))))
           refine Za rfl (Xc rfl rfl) (Ze (Zc (Yi rfl ?_ ?_)))
           ·intro c9
            try (first | replace c9 := dTr c9 | replace c9 := Zk c9)
            first
            | (exfalso; omega)
            |skip
             refine Zb (Za rfl (Zd rfl) (WL_callR fn132 rfl rfl 2 rfl h0.base (Rc_F h0) (tpTypes_any u b s 6 hs σ3 q3 hq3 hr3) (fun h => h.elim) ?_))
             rintro pv cs' R' ⟨ps, σ4, q4, ⟨hR, hpl, hpo⟩, hq4, rfl, hr4, hst4⟩
             have hS4 := hS3.next hst4
             refine Xm hR.left (Xz (p := ∃ p l c, pv = .slice p l c) (fun w hs => Xl hs.res.1) ?_)
             rintro ⟨p1, l1, c1', rfl⟩
             refine Za rfl (Zh (ff rfl) rfl) (Za rfl (Zh (ff rfl) rfl) (Xd (t1 rfl) rfl rfl 0 rfl rfl rfl rfl (Ze (Zc (Zf ?_)))))
             refine Zb (Za rfl (Zd rfl) (Za rfl (Ex_gtr rfl rfl) (Ze (Zc (Yi rfl ?_ ?_)))))
             ·intro c10
              try (first | replace c10 := dTr c10 | replace c10 := Zk c10)
              first
              | (exfalso; omega)
              |skip
               refine Zb (Za rfl (Zd rfl) ?_)
               first | (refine Yk fn90 rfl rfl 2 rfl h0.base (Rc_F h0) (Xv u b s hs σ4 q4 hq4 hr4) (fun h => h.elim) ?_; rintro v cs' ⟨R', t, σ5, q5, ⟨rfl, ht, -⟩, hq5, rfl, hr5, hst5⟩; have hS5 := hS4.next hst5) | (refine Yk fn90 rfl rfl 2 rfl h0.base (Rc_F h0) (Xv u b s hs σ3 q3 hq3 hr3) (fun h => h.elim) ?_; rintro v cs' ⟨R', t, σ5, q5, ⟨rfl, ht, -⟩, hq5, rfl, hr5, hst5⟩; have hS5 := hS3.next hst5)
               refine Za rfl (Zh (ff rfl) rfl) (Za rfl (Zh (ff rfl) rfl) (Yd (tn rfl) rfl rfl 0 rfl rfl rfl rfl (Ze (Zx (Zc ?_)))))
               refine Zf (Zb (Za rfl (Yb (tn rfl) rfl 0 rfl rfl) (Yd (tn rfl) rfl rfl 1 rfl rfl rfl rfl (Ze (Zc ?_)))))
               refine Zv (Rc_endR (Res_1 rfl (Xo (tn rfl) rfl (Yj 1 rfl) rfl)) 2 rfl ?_)
               first | exact ⟨⟨op, 0, ⟨c, nm, ps, t⟩⟩, σ5, q5, ⟨_, rfl, Asr.fst _ _, ⟨hop, Yc, Zr hc, Zr hnm, ht⟩, tys_255 hpl hpo⟩, hq5, rfl, hr5, hS5.done⟩ | exact ⟨⟨op, 0, ⟨c, nm, [], t⟩⟩, σ5, q5, ⟨_, rfl, Zy _, ⟨hop, Yc, Zr hc, Zr hnm, ht⟩, Zu⟩, hq5, rfl, hr5, hS5.done⟩ | exact ⟨⟨op, 0, ⟨c, mt, [], ⟨0, mt⟩⟩⟩, σ2, q2, ⟨_, rfl, Zy _, ⟨hop, Yc, Zr hc, Xt, tyOk_0⟩, Zu⟩, hq2, rfl, hr2, hS2.done⟩ | exact ⟨⟨op, n, rf0⟩, σ2, q2, ⟨_, rfl, Zy _, ⟨hop, hn, Xj⟩, Zu⟩, hq2, rfl, hr2, hS2.done⟩ | exact ⟨⟨op, 0, rf0⟩, σ1, q1, ⟨_, rfl, Zy _, ⟨hop, Yc, Xj⟩, Zu⟩, hq1, rfl, hr1, hS.done⟩ | exact ⟨⟨op, 0, rf0⟩, none, q1, ⟨_, rfl, Zy _, ⟨hop, Yc, Xj⟩, Zu⟩, hq1, rfl, (fun r h => by cases h), (Wa.ask (q := pNo) hS).bad _⟩
             ·intro c10
              try (first | replace c10 := dFa c10 | replace c10 := Zi c10)
              first
              | (exfalso; omega)
              |skip
               refine Zw (Zx (Zc (Zf (Zb (Za rfl (Yb (tn rfl) rfl 0 rfl rfl) ?_)))))
               refine Yd (tn rfl) rfl rfl 1 rfl rfl rfl rfl (Ze (Zc (Zv (Rc_endR (Res_1 rfl (Xo (tn rfl) rfl (Yj 1 rfl) rfl)) 2 rfl ?_))))
               first | exact ⟨⟨op, 0, ⟨c, nm, ps, t⟩⟩, σ5, q5, ⟨_, rfl, Asr.fst _ _, ⟨hop, Yc, Zr hc, Zr hnm, ht⟩, tys_255 hpl hpo⟩, hq5, rfl, hr5, hS5.done⟩ | exact ⟨⟨op, 0, ⟨c, nm, [], t⟩⟩, σ5, q5, ⟨_, rfl, Zy _, ⟨hop, Yc, Zr hc, Zr hnm, ht⟩, Zu⟩, hq5, rfl, hr5, hS5.done⟩ | exact ⟨⟨op, 0, ⟨c, mt, [], ⟨0, mt⟩⟩⟩, σ2, q2, ⟨_, rfl, Zy _, ⟨hop, Yc, Zr hc, Xt, tyOk_0⟩, Zu⟩, hq2, rfl, hr2, hS2.done⟩ | exact ⟨⟨op, n, rf0⟩, σ2, q2, ⟨_, rfl, Zy _, ⟨hop, hn, Xj⟩, Zu⟩, hq2, rfl, hr2, hS2.done⟩ | exact ⟨⟨op, 0, rf0⟩, σ1, q1, ⟨_, rfl, Zy _, ⟨hop, Yc, Xj⟩, Zu⟩, hq1, rfl, hr1, hS.done⟩ | exact ⟨⟨op, 0, rf0⟩, none, q1, ⟨_, rfl, Zy _, ⟨hop, Yc, Xj⟩, Zu⟩, hq1, rfl, (fun r h => by cases h), (Wa.ask (q := pNo) hS).bad _⟩
           ·intro c9
            try (first | replace c9 := dFa c9 | replace c9 := Zi c9)
            first
            | (exfalso; omega)
            |skip
             refine Zw (Zc (Zf (Zb (Za rfl (Zd rfl) (Za rfl (Ex_gtr rfl rfl) ?_)))))
             refine Ze (Zc (Yi rfl ?_ ?_))
             ·intro c10
              try (first | replace c10 := dTr c10 | replace c10 := Zk c10)
              first
              | (exfalso; omega)
              |skip
               refine Zb (Za rfl (Zd rfl) ?_)
               first | (refine Yk fn90 rfl rfl 2 rfl h0.base (Rc_F h0) (Xv u b s hs σ4 q4 hq4 hr4) (fun h => h.elim) ?_; rintro v cs' ⟨R', t, σ5, q5, ⟨rfl, ht, -⟩, hq5, rfl, hr5, hst5⟩; have hS5 := hS4.next hst5) | (refine Yk fn90 rfl rfl 2 rfl h0.base (Rc_F h0) (Xv u b s hs σ3 q3 hq3 hr3) (fun h => h.elim) ?_; rintro v cs' ⟨R', t, σ5, q5, ⟨rfl, ht, -⟩, hq5, rfl, hr5, hst5⟩; have hS5 := hS3.next hst5)
               refine Za rfl (Zh (ff rfl) rfl) (Za rfl (Zh (ff rfl) rfl) (Yd (tn rfl) rfl rfl 0 rfl rfl rfl rfl (Ze (Zx (Zc ?_)))))
               refine Zf (Zb (Za rfl (Yb (tn rfl) rfl 0 rfl rfl) (Yd (tn rfl) rfl rfl 1 rfl rfl rfl rfl (Ze (Zc ?_)))))
               refine Zv (Rc_endR (Res_1 rfl (Xo (tn rfl) rfl (Yj 1 rfl) rfl)) 2 rfl ?_)
               first | exact ⟨⟨op, 0, ⟨c, nm, ps, t⟩⟩, σ5, q5, ⟨_, rfl, Asr.fst _ _, ⟨hop, Yc, Zr hc, Zr hnm, ht⟩, tys_255 hpl hpo⟩, hq5, rfl, hr5, hS5.done⟩ | exact ⟨⟨op, 0, ⟨c, nm, [], t⟩⟩, σ5, q5, ⟨_, rfl, Zy _, ⟨hop, Yc, Zr hc, Zr hnm, ht⟩, Zu⟩, hq5, rfl, hr5, hS5.done⟩ | exact ⟨⟨op, 0, ⟨c, mt, [], ⟨0, mt⟩⟩⟩, σ2, q2, ⟨_, rfl, Zy _, ⟨hop, Yc, Zr hc, Xt, tyOk_0⟩, Zu⟩, hq2, rfl, hr2, hS2.done⟩ | exact ⟨⟨op, n, rf0⟩, σ2, q2, ⟨_, rfl, Zy _, ⟨hop, hn, Xj⟩, Zu⟩, hq2, rfl, hr2, hS2.done⟩ | exact ⟨⟨op, 0, rf0⟩, σ1, q1, ⟨_, rfl, Zy _, ⟨hop, Yc, Xj⟩, Zu⟩, hq1, rfl, hr1, hS.done⟩ | exact ⟨⟨op, 0, rf0⟩, none, q1, ⟨_, rfl, Zy _, ⟨hop, Yc, Xj⟩, Zu⟩, hq1, rfl, (fun r h => by cases h), (Wa.ask (q := pNo) hS).bad _⟩
             ·intro c10
              try (first | replace c10 := dFa c10 | replace c10 := Zi c10)
              first
              | (exfalso; omega)
              |skip
               refine Zw (Zx (Zc (Zf (Zb (Za rfl (Yb (tn rfl) rfl 0 rfl rfl) ?_)))))
               refine Yd (tn rfl) rfl rfl 1 rfl rfl rfl rfl (Ze (Zc (Zv (Rc_endR (Res_1 rfl (Xo (tn rfl) rfl (Yj 1 rfl) rfl)) 2 rfl ?_))))
               first | exact ⟨⟨op, 0, ⟨c, nm, ps, t⟩⟩, σ5, q5, ⟨_, rfl, Asr.fst _ _, ⟨hop, Yc, Zr hc, Zr hnm, ht⟩, tys_255 hpl hpo⟩, hq5, rfl, hr5, hS5.done⟩ | exact ⟨⟨op, 0, ⟨c, nm, [], t⟩⟩, σ5, q5, ⟨_, rfl, Zy _, ⟨hop, Yc, Zr hc, Zr hnm, ht⟩, Zu⟩, hq5, rfl, hr5, hS5.done⟩ | exact ⟨⟨op, 0, ⟨c, mt, [], ⟨0, mt⟩⟩⟩, σ2, q2, ⟨_, rfl, Zy _, ⟨hop, Yc, Zr hc, Xt, tyOk_0⟩, Zu⟩, hq2, rfl, hr2, hS2.done⟩ | exact ⟨⟨op, n, rf0⟩, σ2, q2, ⟨_, rfl, Zy _, ⟨hop, hn, Xj⟩, Zu⟩, hq2, rfl, hr2, hS2.done⟩ | exact ⟨⟨op, 0, rf0⟩, σ1, q1, ⟨_, rfl, Zy _, ⟨hop, Yc, Xj⟩, Zu⟩, hq1, rfl, hr1, hS.done⟩ | exact ⟨⟨op, 0, rf0⟩, none, q1, ⟨_, rfl, Zy _, ⟨hop, Yc, Xj⟩, Zu⟩, hq1, rfl, (fun r h => by cases h), (Wa.ask (q := pNo) hS).bad _⟩
       ·intro c7
        try (first | replace c7 := dFa c7 | replace c7 := Zi c7)
        first
        | (exfalso; omega)
        |skip
         rw [insP0 c2 c3 c4 c5 c6 c7 (fun _ => c1)] at hS
         refine Zw (Zx (Zc (Zf (Zb (Za rfl (Yb (tn rfl) rfl 0 rfl rfl) ?_)))))
         refine Yd (tn rfl) rfl rfl 1 rfl rfl rfl rfl (Ze (Zc (Zv (Rc_endR (Res_1 rfl (Xo (tn rfl) rfl (Yj 1 rfl) rfl)) 2 rfl ?_))))
         first | exact ⟨⟨op, 0, ⟨c, nm, ps, t⟩⟩, σ5, q5, ⟨_, rfl, Asr.fst _ _, ⟨hop, Yc, Zr hc, Zr hnm, ht⟩, tys_255 hpl hpo⟩, hq5, rfl, hr5, hS5.done⟩ | exact ⟨⟨op, 0, ⟨c, nm, [], t⟩⟩, σ5, q5, ⟨_, rfl, Zy _, ⟨hop, Yc, Zr hc, Zr hnm, ht⟩, Zu⟩, hq5, rfl, hr5, hS5.done⟩ | exact ⟨⟨op, 0, ⟨c, mt, [], ⟨0, mt⟩⟩⟩, σ2, q2, ⟨_, rfl, Zy _, ⟨hop, Yc, Zr hc, Xt, tyOk_0⟩, Zu⟩, hq2, rfl, hr2, hS2.done⟩ | exact ⟨⟨op, n, rf0⟩, σ2, q2, ⟨_, rfl, Zy _, ⟨hop, hn, Xj⟩, Zu⟩, hq2, rfl, hr2, hS2.done⟩ | exact ⟨⟨op, 0, rf0⟩, σ1, q1, ⟨_, rfl, Zy _, ⟨hop, Yc, Xj⟩, Zu⟩, hq1, rfl, hr1, hS.done⟩ | exact ⟨⟨op, 0, rf0⟩, none, q1, ⟨_, rfl, Zy _, ⟨hop, Yc, Xj⟩, Zu⟩, hq1, rfl, (fun r h => by cases h), (Wa.ask (q := pNo) hS).bad _⟩
end Go.Proofs.YtpofmnfkdkmieaaGreat
