/- What is proved here: the statement's book keeps all lists of a class that came out. the statement's lists: a copy of instructions, with all its lists. rules by which a region that draws its order is gone through in every order that it may take. rules for a region that draws its order, where what is read of old memory may be taken first. -/
import Derived.Test.YtpofmnfkdkmieaaGreatQ19
import Derived.Test.YtpofmnfkdkmieaaGreatQ23
import Derived.Test.YtpofmnfkdkmieaaGreatQ03
import Derived.Orders
import Derived.OrdersHeld
set_option linter.unusedVariables false
set_option linter.unusedSimpArgs false
namespace Go.Proofs.YtpofmnfkdkmieaaGreat
open Go Go.RowKit At E
section
variable {w0 : World} {F : List Nat} {H : Hp} {R : Asr}
/-- An element of a list of one's own. -/
theorem row_own {β : Type} {cell : β → List Value} {e sz n cap g i : Nat} {l : List β} {y : β} (h : ∀ w, Sat w0 F H R w → w.ownsRow 0 e sz (.slice (some ⟨g, 0, none⟩) n cap) n (l.flatMap cell)) (hk : ∀ x ∈ l, (cell x).length = sz) (hi : l[i]? = some y) : Row w0 F H R g (0 + i * sz) (cell y) :=
 ⟨fun w hs j v hj => by
  have h1 := (h w hs).cells (g := g) rfl (i * sz + j) v (flat_get cell sz l hk i j y v hi hj)
  rw [Addr.add_lit, Nat.zero_add] at h1
  rw [Nat.zero_add]; exact h1⟩
theorem cell_own {β : Type} {cell : β → List Value} {e sz n cap g i o j : Nat} {l : List β} {y : β} {v : Value} (h : ∀ w, Sat w0 F H R w → w.ownsRow 0 e sz (.slice (some ⟨g, 0, none⟩) n cap) n (l.flatMap cell)) (hk : ∀ x ∈ l, (cell x).length = sz) (hi : l[i]? = some y) (hv : (cell y)[j]? = some v) (ho : o = 0 + i * sz + j) : Cell w0 F H R ⟨g, o, none⟩ v :=
 ⟨fun w hs => by rw [ho]; exact (row_own h hk hi).go w hs j v hv⟩
end
section
variable (A B C D E F G W : Asr)
theorem ta1 : (F.and (E.and (D.and G))).Imp (D.and (F.and (E.and G))) := (Asr.Imp.right (Asr.swap E D G)).trans (Asr.swap F D _)
theorem ta2 : ((A.and ((B.and C).and (D.and E))).and W).Imp (C.and (B.and (A.and (D.and (E.and W))))) :=
 (Asr.assoc _ _ _).trans ((Asr.Imp.right (Asr.assoc _ _ _)).trans ((Asr.Imp.right (Asr.comm B C).left).trans ((Asr.Imp.right (Asr.assoc _ _ _)).trans ((Asr.swap _ _ _).trans ((Asr.Imp.right (Asr.swap _ _ _)).trans (Asr.Imp.right (Asr.Imp.right (Asr.Imp.right (Asr.assoc _ _ _)))))))))
theorem ta3 : (B.and ((A.and G).and W)).Imp ((A.and B).and (G.and W)) := (Asr.Imp.right (Asr.assoc _ _ _)).trans ((Asr.swap _ _ _).trans (Asr.cossa _ _ _))
theorem ta4 : (A.and (B.and (C.and ((D.and E).and W)))).Imp (E.and (D.and (A.and (B.and (C.and W))))) := by
 have h1 : ((D.and E).and W).Imp (E.and (D.and W)) := (Asr.comm D E).left.trans (Asr.assoc _ _ _)
 have up : ∀ X Y : Asr, (X.and (E.and (D.and Y))).Imp (E.and (D.and (X.and Y))) := fun X Y => (Asr.swap _ _ _).trans (Asr.Imp.right (Asr.swap _ _ _))
 exact (Asr.Imp.right ((Asr.Imp.right ((Asr.Imp.right h1).trans (up C W))).trans (up B _))).trans (up A _)
theorem ta6 : (B.and (((A.and C).and G).and W)).Imp ((A.and B).and (C.and (G.and W))) := (Asr.Imp.right ((Asr.assoc _ _ _).trans (Asr.assoc _ _ _))).trans ((Asr.swap _ _ _).trans (Asr.cossa _ _ _))
theorem ta7 : (B.and (A.and W)).Imp ((A.and B).and W) := (Asr.swap B A W).trans (Asr.cossa A B W)
end
theorem BkOk.mono {k : Bk} {N M : Nat} (h : BkOk k N) (hNM : N ≤ M) : BkOk k M :=
 ⟨⟨h.t.1, Nat.le_trans h.t.2 hNM⟩, ⟨h.i.1, Nat.le_trans h.i.2 hNM⟩, ⟨h.f.1, Nat.le_trans h.f.2 hNM⟩, ⟨h.m.1, Nat.le_trans h.m.2 hNM⟩, ⟨h.h.1, Nat.le_trans h.h.2 hNM⟩, ⟨h.r.1, Nat.le_trans h.r.2 hNM⟩⟩
def mCnt (p : MeR) : Nat := p.2.cs.length + 2 * p.2.fs.length + 4
def cntL : List MeR → Nat
 | [] => 0
 | p :: l => mCnt p + cntL l
structure KcL where
 i : Nat
 bk : Bk
 N : Nat
theorem insC_len : ∀ (l : List InsR), ∀ x ∈ l, (insC x).length = 7 := fun _ _ _ => rfl
theorem frC_len : ∀ (l : List FrR), ∀ x ∈ l, (frC x).length = 3 := fun _ _ _ => rfl
theorem meC_len : ∀ (l : List MeR), ∀ x ∈ l, (meC x).length = 10 := fun _ _ _ => rfl
theorem drop_one {α : Type} {l : List α} {i : Nat} {x : α} (h : l[i]? = some x) : l.drop i = x :: l.drop (i + 1) := by
 have hi : i < l.length := by
  rcases Nat.lt_or_ge i l.length with h' | h'
  ·exact h'
  ·rw [List.getElem?_eq_none h'] at h; cases h
 rw [List.drop_eq_getElem_cons hi]
 rw [List.getElem?_eq_getElem hi] at h
 cases h; rfl
set_option maxHeartbeats 4000000 in
theorem keepClass_any (b : Nat) (bk : Bk) (N M : Nat) (c : Cl) (k : ClM) (hM : M + 4 ≤ 1099511627776) (hbk : BkOk bk N) (hN : N + 4 * (cntL k.ms + 2) ≤ M) (hfit : ClFit c k) :
  RkP Tryz.prog 50 #[.pointer (some ⟨b, 0, none⟩), .agg (clV c k.fv k.mv).toArray] b bk.C ((clA c k).and (bookA bk)) (bkOk M) := by
 intro w hs0
 obtain ⟨kfv, kmv, kms⟩ := k
 obtain ⟨pf, cf, hfv, -⟩ := owns_form hs0.res.1.1
 obtain ⟨pm, cm, hmv, hpm⟩ := owns_form hs0.res.1.2.1.1
 obtain ⟨-, -, ⟨hfl, -⟩, ⟨hml, hmf⟩⟩ := hfit
 replace hpm : Hid _ := hpm
 replace hmf : Hid _ := hmf
 dsimp only at hfv hmv hpm hml hmf hN hfl hs0 ⊢
 subst hfv; subst hmv
 refine opensF (hs0) (args := [.pointer (some ⟨b, 0, none⟩), .agg (clV c (.slice pf c.fields.length cf) (.slice pm kms.length cm)).toArray]) Tryz.func50 rfl Tryz.ntmps50 ?_
 refine Zf (Zb (WL_box rfl rfl ?_))
 intro b1 hb1
 refine Ze (Zc (Zf (Zf (Zb (Za rfl (Zg rfl) ?_)))))
 refine Ze (Zc (Zs (WC_imp (R' := (bookA bk).and ((fdsA (.slice pf c.fields.length cf) c.fields).and ((ownA 134 10 (.slice pm kms.length cm) kms.length (kms.flatMap meC)).and (bigA ((kms.drop 0).map meA))))) (Asr.comm _ _) (Xh (E' := (fun x : KcL => [(0, .pointer (some ⟨b, 0, none⟩)), (3, .pointer (some ⟨b1, 0, none⟩)), (4, .int .i64 (x.i : Nat))]) (⟨0, bk, N⟩)) ⟨rfl, rfl, rfl, trivial⟩ (Yy (X := KcL) (fun x : KcL => [(0, .pointer (some ⟨b, 0, none⟩)), (3, .pointer (some ⟨b1, 0, none⟩)), (4, .int .i64 (x.i : Nat))]) _ _ (fun x : KcL => [(b1, clV c (.slice pf c.fields.length cf) (.slice pm kms.length cm)), (b, x.bk.C)]) (fun x : KcL => (bookA x.bk).and ((fdsA (.slice pf c.fields.length cf) c.fields).and ((ownA 134 10 (.slice pm kms.length cm) kms.length (kms.flatMap meC)).and (bigA ((kms.drop x.i).map meA))))) (fun x : KcL => x.i ≤ kms.length ∧ BkOk x.bk x.N ∧ x.N + 4 * (cntL (kms.drop x.i) + 2) ≤ M) (fun x : KcL => kms.length - x.i) (⟨0, bk, N⟩) (⟨Nat.zero_le _, hbk, hN⟩) ?_)))))
 intro x hI
 refine Zf (Zf (Zb (Za rfl (Zd rfl) (Za rfl (Zh (ff rfl) rfl) (Za rfl (Zj (t1 rfl) rfl (Zl 0 rfl rfl)) ?_)))))
 refine Za rfl (Yg (ts rfl) rfl) (Za rfl (Xb rfl rfl) (Ze (Zc (Yi rfl ?_ ?_))))
 ·intro c1
  try (first | replace c1 := dTr c1 | replace c1 := Zk c1)
  have hxi : x.i < kms.length := by omega
  obtain ⟨⟨me, ⟨kp, kc, kh, kf, kcs, kfs⟩⟩, hp⟩ : ∃ p, kms[x.i]? = some p := ⟨_, List.getElem?_eq_getElem hxi⟩
  obtain ⟨g, hg⟩ := hpm.out (by omega)
  subst hg
  have hO := hI
  have hdr := drop_one hp
  rw [hdr] at hO
  have hcnt : x.N + 4 * (kcs.length + 2 * kfs.length + 4 + cntL (kms.drop (x.i + 1)) + 2) ≤ M := hO.2.2
  obtain ⟨-, -, hmok, hps, hics, hhds, hfrs⟩ := hmf.out _ (List.mem_of_getElem? hp)
  dsimp only at hps hics hhds hfrs
  refine Zw (Zc (Zf (Zs (Zf ?_))))
  refine WC_imp (R' := (bookA x.bk).and ((fdsA (.slice pf c.fields.length cf) c.fields).and ((ownA 134 10 (.slice (some ⟨g, 0, none⟩) kms.length cm) kms.length (kms.flatMap meC)).and ((meA (me, ⟨kp, kc, kh, kf, kcs, kfs⟩)).and (bigA ((kms.drop (x.i + 1)).map meA)))))) (by rw [hdr]; exact .refl _) ?_
  refine WC_know (p := (meC (me, ⟨kp, kc, kh, kf, kcs, kfs⟩)).all (·.oneCell') = true ∧ (∃ p c, kc = .slice p kcs.length c ∧ (0 < kcs.length → ∃ g, p = some ⟨g, 0, none⟩)) ∧ (∃ p c, kf = .slice p kfs.length c ∧ (0 < kfs.length → ∃ g, p = some ⟨g, 0, none⟩))) (fun w hs => ⟨one_Method _ w hs.res.2.1.2.1.2.1.1, owns_form hs.res.2.1.2.1.2.1.1.2.1.1.1, owns_form hs.res.2.1.2.1.2.1.1.2.1.2.1.2.1.1⟩) ?_
  rintro ⟨hone, ⟨pc, cc, hkc, hpc⟩, ⟨pz, cz, hkf, hpz⟩⟩
  subst hkc; subst hkf
  replace hpc : Hid _ := hpc
  replace hpz : Hid _ := hpz
  refine Zb (Za rfl (Zh (ff rfl) rfl) (Za rfl (Zj (t1 rfl) rfl (Zl 0 rfl rfl)) (Za rfl (Zd rfl) (Za rfl (Xk (ts rfl) rfl rfl ?_) ?_))))
  ·omega
  refine Za rfl (Ym (tn rfl) rfl (row_own (cell := meC) (l := kms) (fun w hs => hs.res.2.1.2.1.1) (meC_len _) hp) rfl) ?_
  refine Xg rfl (tz rfl) ?_
  intro b2 hb2
  refine Yd (tn rfl) rfl rfl 0 rfl rfl hone rfl (Ze (Zc (Zf (Zf (Zb ?_)))))
  refine Za rfl (Zg rfl) (Ze (Zc (Zs (WC_imp ((Asr.Imp.right (ta1 _ _ _ _)).trans (Asr.Imp.right (ta2 _ _ _ _ _ _))) (Xh (E' := (fun y : KcL => [(0, .pointer (some ⟨b, 0, none⟩)), (3, .pointer (some ⟨b1, 0, none⟩)), (4, .int .i64 (x.i : Nat)), (5, .pointer (some ⟨b2, 0, none⟩)), (6, .int .i64 (y.i : Nat))]) (⟨0, x.bk, x.N⟩)) ⟨rfl, rfl, rfl, rfl, rfl, trivial⟩ (Yy (X := KcL) (fun y : KcL => [(0, .pointer (some ⟨b, 0, none⟩)), (3, .pointer (some ⟨b1, 0, none⟩)), (4, .int .i64 (x.i : Nat)), (5, .pointer (some ⟨b2, 0, none⟩)), (6, .int .i64 (y.i : Nat))]) _ _ (fun y : KcL => [(b2, meC (me, ⟨kp, .slice pc kcs.length cc, kh, .slice pz kfs.length cz, kcs, kfs⟩)), (b1, clV c (.slice pf c.fields.length cf) (.slice (some ⟨g, 0, none⟩) kms.length cm)), (b, y.bk.C)]) (fun y : KcL => (bookA y.bk).and ((bigA ((kcs.drop y.i).map insA)).and ((ownA 75 7 (.slice pc kcs.length cc) kcs.length (kcs.flatMap insC)).and ((tysA kp me.params).and ((hdsA kh me.handlers).and ((frsA (.slice pz kfs.length cz) kfs).and ((fdsA (.slice pf c.fields.length cf) c.fields).and ((ownA 134 10 (.slice (some ⟨g, 0, none⟩) kms.length cm) kms.length (kms.flatMap meC)).and (bigA ((kms.drop (x.i + 1)).map meA)))))))))) (fun y : KcL => y.i ≤ kcs.length ∧ BkOk y.bk y.N ∧ y.N + 4 * (kcs.length - y.i + 2 * kfs.length + 4 + cntL (kms.drop (x.i + 1)) + 2) ≤ M) (fun y : KcL => kcs.length - y.i) (⟨0, x.bk, x.N⟩) (⟨Nat.zero_le _, hO.2.1, hcnt⟩) ?_))))))
  intro y hI
  refine Zf (Zf (Zb (Za rfl (Zd rfl) (Za rfl (Zh (ff rfl) rfl) (Za rfl (Zj (t1 rfl) rfl (Zl 0 rfl rfl)) ?_)))))
  refine Za rfl (Yg (ts rfl) rfl) (Za rfl (Xb rfl rfl) (Ze (Zc (Yi rfl ?_ ?_))))
  ·intro c2
   try (first | replace c2 := dTr c2 | replace c2 := Zk c2)
   have hyi : y.i < kcs.length := by omega
   obtain ⟨⟨ins, qv⟩, hq⟩ : ∃ p, kcs[y.i]? = some p := ⟨_, List.getElem?_eq_getElem hyi⟩
   obtain ⟨g2, hg2⟩ := hpc.out (by omega)
   subst hg2
   refine Zw (Zc (Zf (Zs (Zb (Za rfl (Zd rfl) ?_)))))
   refine Za rfl (Zh (ff rfl) rfl) (Za rfl (Zj (t1 rfl) rfl (Zl 0 rfl rfl)) (Za rfl (Zd rfl) (Za rfl (Xk (ts rfl) rfl rfl ?_) ?_)))
   ·omega
   refine Za rfl (Zh (ff rfl) rfl) (Za rfl (Zh (ff rfl) rfl) (Za rfl (Zj (t1 rfl) rfl (cell_own (cell := insC) (l := kcs) (j := 4) (fun w hs => hs.res.2.1.2.1.1) (insC_len _) hq rfl rfl)) ?_))
   rw [drop_one hq]; refine Xm (ta3 _ _ _ _) ?_; refine WL_callK fn81 rfl rfl 2 rfl (kpTypes b _ y.N (by omega) hI.2.1 _ _ _ (show ins.ref.params.length ≤ 2000000 from by have h9 := (hics.2 _ (List.mem_of_getElem? hq)).2.1; dsimp only at h9; omega)) ?_; rintro v cs' R' ⟨bk1, rfl, hR1, hbk1⟩; refine Xm hR1.left ?_
   refine Ze (Zx (Zc (Zb (Za rfl (Zd rfl) ?_))))
   (first | (refine Za rfl (Xa rfl rfl ?_) ?_; omega) | (refine Za rfl (Yp rfl rfl ?_) ?_; omega) | refine Za rfl (Yz rfl rfl) ?_)
   refine Za rfl (Zg rfl) (Ze ?_)
   refine Yn (⟨y.i + 1, bk1, y.N + 4⟩) ?_ (⟨by show y.i + 1 ≤ kcs.length; omega, hbk1, by show y.N + 4 + 4 * (kcs.length - (y.i + 1) + 2 * kfs.length + 4 + cntL (kms.drop (x.i + 1)) + 2) ≤ M; have h9 := hI.2.2; omega⟩) 0 rfl (rfl) ⟨rfl, rfl, rfl, rfl, rfl, trivial⟩
   show kcs.length - (y.i + 1) < kcs.length - y.i; omega
  ·intro c2
   try (first | replace c2 := dFa c2 | replace c2 := Zi c2)
   refine Yx (Yw (Yo (Yv (Zc (Zf ?_)))))
   refine Zf ?_
   have hI2 := hI
   have hyl : y.i = kcs.length := by omega
   refine WC_imp (Asr.Imp.right (Asr.snd _ _)) (Zb (Za rfl (Zg rfl) (Ze (Zc (Zs ?_)))))
   refine WC_imp (Asr.Imp.right (ta4 _ _ _ _ _ _)) ?_
   refine Xh (E' := (fun z : KcL => [(0, .pointer (some ⟨b, 0, none⟩)), (3, .pointer (some ⟨b1, 0, none⟩)), (4, .int .i64 (x.i : Nat)), (5, .pointer (some ⟨b2, 0, none⟩)), (7, .int .i64 (z.i : Nat))]) (⟨0, y.bk, y.N⟩)) ⟨rfl, rfl, rfl, rfl, rfl, trivial⟩ (Yy (X := KcL) (fun z : KcL => [(0, .pointer (some ⟨b, 0, none⟩)), (3, .pointer (some ⟨b1, 0, none⟩)), (4, .int .i64 (x.i : Nat)), (5, .pointer (some ⟨b2, 0, none⟩)), (7, .int .i64 (z.i : Nat))]) _ _ (fun z : KcL => [(b2, meC (me, ⟨kp, .slice pc kcs.length cc, kh, .slice pz kfs.length cz, kcs, kfs⟩)), (b1, clV c (.slice pf c.fields.length cf) (.slice (some ⟨g, 0, none⟩) kms.length cm)), (b, z.bk.C)]) (fun z : KcL => (bookA z.bk).and ((bigA ((kfs.drop z.i).map frA)).and ((ownA 176 3 (.slice pz kfs.length cz) kfs.length (kfs.flatMap frC)).and ((ownA 75 7 (.slice pc kcs.length cc) kcs.length (kcs.flatMap insC)).and ((tysA kp me.params).and ((hdsA kh me.handlers).and ((fdsA (.slice pf c.fields.length cf) c.fields).and ((ownA 134 10 (.slice (some ⟨g, 0, none⟩) kms.length cm) kms.length (kms.flatMap meC)).and (bigA ((kms.drop (x.i + 1)).map meA)))))))))) (fun z : KcL => z.i ≤ kfs.length ∧ BkOk z.bk z.N ∧ z.N + 4 * (2 * (kfs.length - z.i) + 4 + cntL (kms.drop (x.i + 1)) + 2) ≤ M) (fun z : KcL => kfs.length - z.i) (⟨0, y.bk, y.N⟩) (⟨Nat.zero_le _, hI2.2.1, by show y.N + 4 * (2 * (kfs.length - 0) + 4 + cntL (kms.drop (x.i + 1)) + 2) ≤ M; have h9 := hI2.2.2; omega⟩) ?_)
   intro z hI
   refine Zf (Zf (Zb (Za rfl (Zd rfl) (Za rfl (Zh (ff rfl) rfl) (Za rfl (Zj (t1 rfl) rfl (Zl 0 rfl rfl)) ?_)))))
   refine Za rfl (Yg (ts rfl) rfl) (Za rfl (Xb rfl rfl) (Ze (Zc (Yi rfl ?_ ?_))))
   ·intro c3
    try (first | replace c3 := dTr c3 | replace c3 := Zk c3)
    have hzi : z.i < kfs.length := by omega
    obtain ⟨⟨fr, lv, sv⟩, hq⟩ : ∃ p, kfs[z.i]? = some p := ⟨_, List.getElem?_eq_getElem hzi⟩
    obtain ⟨g2, hg2⟩ := hpz.out (by omega)
    subst hg2
    have hfk := hfrs.2 _ (List.mem_of_getElem? hq)
    refine Zw (Zc (Zf (Zs (Zf (Zb ?_)))))
    refine Za rfl (Zd rfl) (Za rfl (Zh (ff rfl) rfl) (Za rfl (Zj (t1 rfl) rfl (Zl 0 rfl rfl)) (Za rfl (Zd rfl) (Za rfl (Xk (ts rfl) rfl rfl ?_) ?_))))
    ·omega
    refine Za rfl (Zh (ff rfl) rfl) (Za rfl (Zj (t1 rfl) rfl (cell_own (cell := frC) (l := kfs) (j := 1) (fun w hs => hs.res.2.1.2.1.1) (frC_len _) hq rfl rfl)) ?_)
    rw [drop_one hq]; refine Xm (ta6 _ _ _ _ _) ?_; refine WL_callK fn81 rfl rfl 2 rfl (kpTypes b _ z.N (by omega) hI.2.1 _ _ _ (show fr.locals.length ≤ 2000000 from by have h9 := hfk.2.1.1; dsimp only at h9; omega)) ?_; rintro v cs' R' ⟨bk1, rfl, hR1, hbk1⟩; refine Xm hR1.left ?_
    refine Ze (Zc (Zb (Za rfl (Zd rfl) (Za rfl (Zh (ff rfl) rfl) (Za rfl (Zj (t1 rfl) rfl (Zl 0 rfl rfl)) ?_)))))
    refine Za rfl (Zd rfl) (Za rfl (Xk (ts rfl) rfl rfl ?_) ?_)
    ·omega
    refine Za rfl (Zh (ff rfl) rfl) (Za rfl (Zj (t1 rfl) rfl (cell_own (cell := frC) (l := kfs) (j := 2) (fun w hs => hs.res.2.1.2.1.2.1.1) (frC_len _) hq rfl rfl)) ?_)
    refine Xm (ta7 _ _ _) ?_; refine WL_callK fn81 rfl rfl 2 rfl (kpTypes b _ (z.N + 4) (by omega) hbk1 _ _ _ (show fr.stack.length ≤ 2000000 from by have h9 := hfk.2.2.1; dsimp only at h9; omega)) ?_; rintro v cs' R' ⟨bk2, rfl, hR2, hbk2⟩; refine Xm hR2.left ?_
    refine Ze (Zx (Zc (Zb (Za rfl (Zd rfl) ?_))))
    (first | (refine Za rfl (Xa rfl rfl ?_) ?_; omega) | (refine Za rfl (Yp rfl rfl ?_) ?_; omega) | refine Za rfl (Yz rfl rfl) ?_)
    refine Za rfl (Zg rfl) (Ze ?_)
    refine Yn (⟨z.i + 1, bk2, z.N + 4 + 4⟩) ?_ (⟨by show z.i + 1 ≤ kfs.length; omega, hbk2, by show z.N + 4 + 4 + 4 * (2 * (kfs.length - (z.i + 1)) + 4 + cntL (kms.drop (x.i + 1)) + 2) ≤ M; have h9 := hI.2.2; omega⟩) 0 rfl (rfl) ⟨rfl, rfl, rfl, rfl, rfl, trivial⟩
    show kfs.length - (z.i + 1) < kfs.length - z.i; omega
   ·intro c3
    try (first | replace c3 := dFa c3 | replace c3 := Zi c3)
    refine Yx (Yw (Yo (Yv (Zc (Zf ?_)))))
    have hI3 := hI
    have hzl : z.i = kfs.length := by omega
    refine WC_imp ((Asr.Imp.right (Asr.snd _ _)).trans (Asr.Imp.right ((Asr.Imp.right (Asr.swap _ _ _)).trans (Asr.swap _ _ _)))) (Zb (Za rfl (Zd rfl) (Za rfl (Zh (ff rfl) rfl) (Za rfl (Zj (t1 rfl) rfl (Zl 0 rfl rfl)) ?_))))
    refine Xm (ta7 _ _ _) ?_; refine WL_callK fn81 rfl rfl 2 rfl (kpTypes b _ z.N (by omega) hI3.2.1 _ _ _ (by have h9 := hps.1; omega)) ?_; rintro v cs' R' ⟨bk1, rfl, hR1, hbk1⟩; refine Xm (hR1.left.trans (Asr.Imp.right (Asr.swap _ _ _))) ?_
    refine Ze (Zc (Zf (Zb (Za rfl (Zd rfl) (Za rfl (Zh (ff rfl) rfl) ?_)))))
    refine Za rfl (Zj (t1 rfl) rfl (Zl 0 rfl rfl)) ?_
    refine Xm (ta7 _ _ _) ?_; refine WL_callK fn82 rfl rfl 2 rfl (kpInstrs b _ (z.N + 4) (by omega) hbk1 _ _ _ (by have h9 := hics.1; omega)) ?_; rintro v cs' R' ⟨bk2, rfl, hR2, hbk2⟩; refine Xm (hR2.left.trans (Asr.Imp.right (Asr.swap _ _ _))) ?_
    refine Ze (Zc (Zf (Zb (Za rfl (Zd rfl) (Za rfl (Zh (ff rfl) rfl) ?_)))))
    refine Za rfl (Zj (t1 rfl) rfl (Zl 0 rfl rfl)) ?_
    refine Xm (ta7 _ _ _) ?_; refine WL_callK fn84 rfl rfl 2 rfl (kpHandlers b _ (z.N + 4 + 4) (by omega) hbk2 _ _ _ (by have h9 := hhds.1; omega)) ?_; rintro v cs' R' ⟨bk3, rfl, hR3, hbk3⟩; refine Xm hR3.left ?_
    refine Ze (Zc (Zb (Za rfl (Zd rfl) (Za rfl (Zh (ff rfl) rfl) (Za rfl (Zj (t1 rfl) rfl (Zl 0 rfl rfl)) ?_)))))
    refine Xm (ta7 _ _ _) ?_; refine WL_callK fn85 rfl rfl 2 rfl (kpFrames b _ (z.N + 4 + 4 + 4) (by omega) hbk3 _ _ _ (by have h9 := hfrs.1; omega)) ?_; rintro v cs' R' ⟨bk4, rfl, hR4, hbk4⟩; refine Xm hR4.left ?_
    refine Ze (Zx (Zc (Zb (Za rfl (Zd rfl) ?_))))
    (first | (refine Za rfl (Xa rfl rfl ?_) ?_; omega) | (refine Za rfl (Yp rfl rfl ?_) ?_; omega) | refine Za rfl (Yz rfl rfl) ?_)
    refine Za rfl (Zg rfl) (Ze ?_)
    refine Yn (⟨x.i + 1, bk4, z.N + 4 + 4 + 4 + 4⟩) ?_ (⟨by show x.i + 1 ≤ kms.length; omega, hbk4, by show z.N + 4 + 4 + 4 + 4 + 4 * (cntL (kms.drop (x.i + 1)) + 2) ≤ M; have h9 := hI3.2.2; omega⟩) 1 rfl (rfl) ⟨rfl, rfl, rfl, trivial⟩
    show kms.length - (x.i + 1) < kms.length - x.i; omega
 ·intro c1
  try (first | replace c1 := dFa c1 | replace c1 := Zi c1)
  refine Yx (Yw (Yo (Yv (Zc (Zf ?_)))))
  have hxl : x.i = kms.length := by omega
  refine WC_imp (Asr.Imp.right ((Asr.Imp.right (Asr.fst _ _)).trans (Asr.comm _ _))) (Zb (Za rfl (Zd rfl) (Za rfl (Zh (ff rfl) rfl) (Za rfl (Zj (t1 rfl) rfl (Zl 0 rfl rfl)) ?_))))
  refine Xm (ta7 _ _ _) ?_; refine WL_callK fn86 rfl rfl 1 rfl (kpMethods b _ x.N (by have h9 := hI.2.2; omega) hI.2.1 _ _ _ (by omega)) ?_; rintro v cs' R' ⟨bk1, rfl, hR1, hbk1⟩; refine Xm ((hR1.left.trans (Asr.comm _ _)).trans (Asr.addNone _)) ?_
  refine Ze (Zc (Zb (Za rfl (Zd rfl) (Za rfl (Zh (ff rfl) rfl) (Za rfl (Zj (t1 rfl) rfl (Zl 0 rfl rfl)) ?_)))))
  refine WL_callK fn83 rfl rfl 1 rfl (kpFields b _ (x.N + 4) (by have h9 := hI.2.2; omega) hbk1 _ _ _ (by omega)) ?_; rintro v cs' R' ⟨bk2, rfl, hR2, hbk2⟩; refine Xm (hR2.left.trans (Asr.fst _ _)) ?_
  refine Ze (Rk_end0 rfl 1 rfl ?_)
  exact ⟨bk2, rfl, .refl _, hbk2.mono (by have h9 := hI.2.2; omega)⟩
end Go.Proofs.YtpofmnfkdkmieaaGreat
namespace Go.Proofs.YtpofmnfkdkmieaaGreat
open Go Go.RowKit At E
theorem RuP.mono {P : Program} {f : FuncId} {args : Array Value} {u : World} {b : Nat} {cs : List Value} {Rin : Asr} {ok ok' : Value → List Value → Asr → Prop} (h : RuP P f args u b cs Rin ok) (k : ∀ v cs' R', ok v cs' R' → ok' v cs' R') : RuP P f args u b cs Rin ok' := by
 intro w hb hF hs
 refine Calls.mono (h w hb hF hs) ?_
 rintro e w' ⟨v, cs', R', rfl, hok, hw⟩
 exact ⟨v, cs', R', rfl, k _ _ _ hok, hw⟩
/-- All lists, and where they lie. -/
structure Lx where
 vT : Value
 vI : Value
 vF : Value
 vM : Value
 vH : Value
 vR : Value
 sT : List (List Ty × Value)
 sI : List (List (Ins × Value) × Value)
 sF : List (List Fld × Value)
 sM : List (List (Me × MeM) × Value)
 sH : List (List Hd × Value)
 sR : List (List (Fr × Value × Value) × Value)
def Lx.C (k : Lx) : List Value := bkC k.vT k.vI k.vF k.vM k.vH k.vR
def lxA (k : Lx) : Asr := six (rowsA 69 71 2 tyV k.vT k.sT) (rowsA 76 75 7 insC k.vI k.sI) (rowsA 22 128 4 fdV k.vF k.sF) (rowsA 23 134 10 meC k.vM k.sM) (rowsA 131 169 4 hdV k.vH k.sH) (rowsA 132 176 3 frC k.vR k.sR)
/-- Room for more. -/
structure LxOk (k : Lx) (N : Nat) : Prop where
 t : k.sT.length ≤ N
 i : k.sI.length ≤ N
 f : k.sF.length ≤ N
 m : k.sM.length ≤ N
 h : k.sH.length ≤ N
 r : k.sR.length ≤ N
/-- A list that is the front of one of the rows (or empty). -/
def Pre {β : Type} (X : List β) (T : List (List β × Value)) (ps : List β) (qv : Value) : Prop := (ps = [] ∧ qv = .slice none 0 0) ∨ ∃ p c, qv = .slice p ps.length c ∧ (ps ++ X, Value.slice p (ps.length + X.length) c) ∈ T
theorem Pre.app {β : Type} {X : List β} {T : List (List β × Value)} {ps : List β} {qv : Value} (h : Pre X T ps qv) (T2 : List (List β × Value)) : Pre X (T ++ T2) ps qv := by
 rcases h with h | ⟨p, c, h1, h2⟩
 ·exact .inl h
 ·exact .inr ⟨p, c, h1, List.mem_append_left _ h2⟩
theorem Pre.one {β : Type} {X : List β} {T : List (List β × Value)} {ps : List β} {qv : Value} (h : Pre X T ps qv) : qv.oneCell' = true := by
 rcases h with ⟨-, rfl⟩ | ⟨p, c, rfl, -⟩ <;> rfl
theorem Pre.slice {β : Type} {X : List β} {T : List (List β × Value)} {ps : List β} {qv : Value} (h : Pre X T ps qv) : ∃ p n c, qv = .slice p n c := by
 rcases h with ⟨-, rfl⟩ | ⟨p, c, rfl, -⟩ <;> exact ⟨_, _, _, rfl⟩
theorem TysAt.one {w : World} {v : Value} {l : List Ty} (h : TysAt w v l) : v.oneCell' = true := by
 obtain ⟨p, c, rfl, -⟩ := h.is; rfl
theorem insV_one (ins : Ins) {pv : Value} (h : pv.oneCell' = true) : (insV ins pv).all (·.oneCell') = true := by
 simp only [insV, List.all_cons, List.all_nil, h]; rfl
theorem lxTyped (u : World) (b : Nat) (k : Lx) (tv : Value) (l : List Ty) (hv : TysAt u tv l) (hT : k.sT.length ≤ 1099511627776) :
  RuP Tryz.prog 76 #[.pointer (some ⟨b, 0, none⟩), tv] u b k.C (lxA k)
   (fun v cs' R' => ∃ k' : Lx, cs' = k'.C ∧ R'.Imp (lxA k') ∧ Pre tyX k'.sT l v ∧ ∃ vT' v', k' = { k with vT := vT', sT := k.sT ++ [(l ++ tyX, v')] }) := by
 refine RuP.mono (RuP.frame (lsTyped_any u b k.vT k.vI k.vF k.vM k.vH k.vR tv k.sT l hv hT) (out1 _ _ _ _ _ _)) ?_
 rintro v cs' R'' ⟨R', ⟨vT', p, c, rfl, rfl, hR⟩, rfl⟩
 exact ⟨{ k with vT := vT', sT := k.sT ++ [(l ++ tyX, .slice p (l.length + 2) c)] }, rfl, (Asr.Imp.left hR).trans (in1 _ _ _ _ _ _), .inr ⟨p, c, rfl, List.mem_append_right _ (List.mem_singleton.2 rfl)⟩, vT', _, rfl⟩
def ins77 : Ins := ⟨77, 0, ⟨mt, mt, [], ⟨0, mt⟩⟩⟩
def insX : List (Ins × Value) := [(ins77, .slice none 0 0), (ins77, .slice none 0 0)]
def tyRow (l : List Ty) : List Ty := l ++ tyX
/-- Instructions with where their types lie, as far as they are copied. -/
structure CdL where
 i : Nat
 k : Lx
 its : List (Ins × Value)
 v : Value
 T2 : List (List Ty × Value)
structure CdOk (k0 : Lx) (l : List Ins) (x : CdL) : Prop where
 i : x.i = x.its.length
 le : x.its.length ≤ l.length
 its : x.its.map (·.1) = l.take x.its.length
 pre : ∀ q ∈ x.its, Pre tyX x.k.sT q.1.ref.params q.2
 T : x.k.sT = k0.sT ++ x.T2
 T2 : x.T2.map (·.1) = (l.take x.its.length).map fun i => tyRow i.ref.params
 k : ∃ vT, x.k = { k0 with vT := vT, sT := x.k.sT }
theorem CdOk.len {k0 : Lx} {l : List Ins} {x : CdL} (h : CdOk k0 l x) : x.T2.length = x.its.length := by
 have := congrArg List.length h.T2
 have h2 := h.le
 simp only [List.length_map, List.length_take] at this
 omega
theorem CdOk.next {k0 : Lx} {l : List Ins} {x : CdL} {ins : Ins} {k' : Lx} {vT' v' pv v2 : Value} (h : CdOk k0 l x) (hi : l[x.its.length]? = some ins) (hp : Pre tyX k'.sT ins.ref.params pv) (hk : k' = { x.k with vT := vT', sT := x.k.sT ++ [(ins.ref.params ++ tyX, v')] }) :
  CdOk k0 l ⟨x.i + 1, k', x.its ++ [(ins, pv)], v2, x.T2 ++ [(ins.ref.params ++ tyX, v')]⟩ := by
 have hlt : x.its.length < l.length := by
  rcases Nat.lt_or_ge x.its.length l.length with h | h
  ·exact h
  ·rw [List.getElem?_eq_none h] at hi; cases hi
 have ht : l.take (x.its.length + 1) = l.take x.its.length ++ [ins] := by rw [List.take_add_one, hi]; rfl
 have hkT : k'.sT = x.k.sT ++ [(ins.ref.params ++ tyX, v')] := by rw [hk]
 refine ⟨by simp only [List.length_append, List.length_singleton, h.i], by simp only [List.length_append, List.length_singleton]; omega, ?_, ?_, ?_, ?_, ?_⟩
 ·simp only [List.length_append, List.length_singleton, List.map_append, List.map_cons, List.map_nil]; rw [ht, h.its]
 ·intro q hq
  rcases List.mem_append.1 hq with hq | hq
  ·rw [hkT]; exact (h.pre q hq).app _
  ·rw [List.mem_singleton.1 hq]; exact hp
 ·show k'.sT = _
  rw [hkT, h.T, List.append_assoc]
 ·simp only [List.length_append, List.length_singleton, List.map_append, List.map_cons, List.map_nil]; rw [ht, h.T2, List.map_append]; rfl
 ·obtain ⟨vT, hx⟩ := h.k
  refine ⟨vT', ?_⟩
  show k' = { k0 with vT := vT', sT := k'.sT }
  rw [hkT, hk, hx]
theorem CdOk.fin {k0 : Lx} {l : List Ins} {x : CdL} (h : CdOk k0 l x) (vI : Value) (r : List (List (Ins × Value) × Value)) : ∃ vT vI', ({ x.k with vI := vI, sI := x.k.sI ++ r } : Lx) = { k0 with vT := vT, vI := vI', sT := k0.sT ++ x.T2, sI := k0.sI ++ r } := by
 obtain ⟨i, k, its, v, T2⟩ := x
 obtain ⟨vT, hk⟩ := h.k
 have hT := h.T
 dsimp only at hk hT ⊢
 rw [hT] at hk
 subst hk
 exact ⟨vT, vI, rfl⟩
theorem insOf (u : World) {q : Option Addr} {n c : Nat} {l : List Ins} (h : InssAt u (.slice q n c) l) {i : Nat} {ins : Ins} (hi : l[i]? = some ins) : ∃ b o pv, q = some ⟨b, o, none⟩ ∧ b < u.heap.size ∧ TysAt u pv ins.ref.params ∧ ∀ j v, (insV ins pv)[j]? = some v → u.cell? ⟨b, o + i * 7 + j, none⟩ = some v := by
 obtain ⟨p, c', hv, -, hr⟩ := h.is
 cases hv
 obtain ⟨b, o, r, hp, hb, ⟨pv, rfl, ht, -⟩, hc⟩ := hr i ins hi
 exact ⟨b, o, pv, hp, hb, ht, hc⟩
theorem r2 (A B C D : Asr) : (A.and ((B.and C).and D)).Imp (B.and ((A.and C).and D)) := (Asr.Imp.right (Asr.assoc _ _ _)).trans ((Asr.swap _ _ _).trans (Asr.Imp.right (Asr.cossa _ _ _)))
theorem lxCoded (u : World) (b : Nat) (k : Lx) (N : Nat) (tv : Value) (l : List Ins) (hv : InssAt u tv l) (hk : LxOk k N) (hN : N + l.length + 1 ≤ 1099511627776) :
  RuP Tryz.prog 77 #[.pointer (some ⟨b, 0, none⟩), tv] u b k.C (lxA k)
   (fun v cs' R' => ∃ (k' : Lx) (its : List (Ins × Value)) (T2 : List (List Ty × Value)) (v2 : Value), cs' = k'.C ∧ R'.Imp (lxA k') ∧ its.map (·.1) = l ∧ Pre insX k'.sI its v ∧ (∀ q ∈ its, Pre tyX k'.sT q.1.ref.params q.2) ∧ T2.map (·.1) = l.map (fun i => tyRow i.ref.params) ∧ ∃ vT vI, k' = { k with vT := vT, vI := vI, sT := k.sT ++ T2, sI := k.sI ++ [(its ++ insX, v2)] }) := by
 intro w hu hF hs0
 obtain ⟨q, e, rfl, hl, -⟩ := hv.is
 replace hv : Hid _ := hv
 have hkt := hk.t; have hki := hk.i
 refine opensF (hs0) (args := [.pointer (some ⟨b, 0, none⟩), .slice q l.length e]) Tryz.func77 rfl Tryz.ntmps77 ?_
 refine Zf (Zb (Za rfl (Zg rfl) (Ze (Zc (Zf ?_)))))
 refine Zb (Za rfl (Zg rfl) (Ze (Zc (Zf (Zf ?_)))))
 refine Zb (Za rfl (Zg rfl) (Ze (Zc (Zs (WC_own 75 7 ?_)))))
 refine Xh (E' := (fun x : CdL => [(0, .pointer (some ⟨b, 0, none⟩)), (1, .slice q l.length e), (5, x.v), (6, .int .i64 (x.i : Nat))]) (⟨0, k, [], .slice none 0 0, []⟩)) ⟨rfl, rfl, rfl, rfl, trivial⟩ (Yy (X := CdL) (fun x : CdL => [(0, .pointer (some ⟨b, 0, none⟩)), (1, .slice q l.length e), (5, x.v), (6, .int .i64 (x.i : Nat))]) _ _ (fun x : CdL => [(b, x.k.C)]) (fun x : CdL => (ownA 75 7 x.v x.i (x.its.flatMap insC)).and (lxA x.k)) (fun x : CdL => CdOk k l x) (fun x : CdL => l.length - x.i) (⟨0, k, [], .slice none 0 0, []⟩) (⟨rfl, Nat.zero_le _, rfl, by simp, by simp, rfl, ⟨k.vT, rfl⟩⟩) ?_)
 intro x hI
 refine Zf (Zf (Zb (Za rfl (Zd rfl) (Za rfl (Zd rfl) (Za rfl (Yg (ts rfl) rfl) ?_)))))
 refine Za rfl (Xb rfl rfl) (Ze (Zc (Yi rfl ?_ ?_)))
 ·intro c1
  try (first | replace c1 := dTr c1 | replace c1 := Zk c1)
  have hxi : x.i < l.length := by omega
  have hii := hI.i
  obtain ⟨ins, hi⟩ : ∃ p, l[x.i]? = some p := ⟨_, List.getElem?_eq_getElem hxi⟩
  obtain ⟨g, o, pv, hq, hgb, hpv, hc⟩ := insOf u hv.out hi
  subst hq
  have hone := insV_one ins hpv.one
  have hsT : x.k.sT.length = k.sT.length + x.its.length := by rw [hI.T, List.length_append, hI.len]
  refine Zw (Zc (Zf (Zs (Zf (Zb ?_)))))
  refine Za rfl (Zd rfl) (Za rfl (Zd rfl) (Za rfl (Xk (ts rfl) rfl rfl ?_) ?_))
  ·omega
  refine Za rfl (Ym (tn rfl) rfl (row_oldU (vs := insV ins pv) hu hF hgb hc) rfl) (Xg rfl (tz rfl) ?_)
  intro b1 hb1
  refine Yd (tn rfl) rfl rfl 0 rfl rfl hone rfl (Ze (Zc (Zf (Zb (Za rfl (Zd rfl) ?_)))))
  refine Za rfl (Zh (ff rfl) rfl) (Za rfl (Zh (ff rfl) rfl) (Za rfl (Zj (t1 rfl) rfl (Zl 0 rfl rfl)) ?_))
  refine Xm (Asr.comm _ _) ?_; refine WL_callU fn76 rfl rfl 1 rfl hu hF (lxTyped u b x.k pv ins.ref.params hpv (by omega)) ?_; rintro v cs' R' ⟨k1, rfl, hR1, hpre, vT1, v', hk1⟩; obtain ⟨p1, n1, c1', hv1⟩ := hpre.slice; subst hv1; refine Xm (hR1.left.trans (Asr.comm _ _)) ?_
  refine Za rfl (Zh (ff rfl) rfl) (Za rfl (Zh (ff rfl) rfl) (Xd (t1 rfl) rfl rfl 0 rfl rfl rfl rfl (Ze (Zc (Zb ?_)))))
  refine Za rfl (Zd rfl) (Za rfl (Yb (tn rfl) rfl 0 rfl rfl) (WL_bs rfl (ts rfl) (tz rfl) rfl rfl rfl rfl rfl ?_))
  intro b2 hb2
  refine WL_app rfl (ta rfl) rfl rfl (Yj 0 rfl) rfl rfl (by unfold maxLen; omega) (by omega) ?_
  intro v1
  refine Za rfl (Zg rfl) (Ze (Zx (Zc (Zb (Za rfl (Zd rfl) ?_)))))
  (first | (refine Za rfl (Xa rfl rfl ?_) ?_; omega) | (refine Za rfl (Yp rfl rfl ?_) ?_; omega) | refine Za rfl (Yz rfl rfl) ?_)
  refine Za rfl (Zg rfl) (Ze ?_)
  refine Yn (⟨x.i + 1, k1, x.its ++ [(ins, .slice p1 n1 c1')], v1, x.T2 ++ [(ins.ref.params ++ tyX, v')]⟩) ?_ (hI.next (hii ▸ hi) hpre hk1) 2 rfl (by simp only [List.flatMap_append]; rfl) ⟨rfl, rfl, rfl, rfl, trivial⟩
  show l.length - (x.i + 1) < l.length - x.i; omega
 ·intro c1
  try (first | replace c1 := dFa c1 | replace c1 := Zi c1)
  refine Yx (Yw (Yo (Yv (Zc (Zf ?_)))))
  have hle := hI.le
  have hii := hI.i
  have hil : x.i = l.length := by omega
  have hsI : x.k.sI = k.sI := by obtain ⟨vT, h⟩ := hI.k; rw [h]
  have hsIl : x.k.sI.length = k.sI.length := by rw [hsI]
  refine Zb (Za rfl (Zd rfl) (Za rfl (Xs (tb rfl) rfl rfl) (Za rfl (Xs (tb rfl) rfl rfl) (WL_bs rfl (ts rfl) (tz rfl) rfl rfl rfl rfl rfl ?_))))
  intro b1 hb1
  refine WL_app rfl (ta rfl) rfl rfl (Yj 0 rfl) rfl rfl ?_ ?_ ?_
  ·unfold maxLen; omega
  ·omega
  intro v2
  refine Za rfl (Zg rfl) (Ze (Zc (Zf (WC_know (p := ∃ p c, v2 = .slice p (x.i + 2) c ∧ x.i + 2 ≤ c) (fun w hs => owns_cap hs.res.1 (by omega)) ?_))))
  rintro ⟨p2, c2, hv2, hc2⟩; subst hv2
  refine WC_imp ((Asr.Imp.right (out2 _ _ _ _ _ _)).trans (r2 _ _ _ _)) (Zb (Za rfl (Zd rfl) (Za rfl (Zd rfl) (Za rfl (Ys rfl) (Za rfl (Zh (ff rfl) rfl) ?_)))))
  refine Za rfl (Zj (t1 rfl) rfl (Zl 1 rfl rfl)) (Za rfl (Zd rfl) (WL_bs rfl (ts rfl) (tz rfl) rfl rfl rfl rfl rfl ?_))
  intro b2 hb2
  refine WL_app rfl (ta rfl) rfl rfl (Yj 0 rfl) rfl rfl (by unfold maxLen; omega) (by omega) ?_
  intro v3
  refine Za rfl (Ys rfl) (Za rfl (Zh (ff rfl) rfl) (Xz (p := ∃ p l c, v3 = .slice p l c) (fun w hs => Xl hs.res.1) ?_))
  rintro ⟨p3, l3, c3', hv3⟩; subst hv3
  refine Xd (t1 rfl) rfl rfl 2 rfl rfl rfl rfl (Ze (Zc (Zf (Zb (Za rfl (Zd rfl) ?_)))))
  refine Za rfl (Zd rfl) (Za rfl (Yg (ts rfl) rfl) (Za rfl (Ex_sliceL (ts rfl) rfl rfl ?_) ?_))
  ·omega
  refine Za rfl (Zg rfl) (Ze (Zc (Zv (Rk_endR (Res_1 rfl (RV_tmp rfl)) 2 rfl ?_))))
  exact ⟨{ x.k with vI := .slice p3 l3 c3', sI := x.k.sI ++ [(x.its ++ insX, .slice p2 (x.i + 2) c2)] }, x.its, x.T2, .slice p2 (x.i + 2) c2, rfl, (Asr.cossa _ _ _).trans ((Asr.Imp.left (by have h9 := rows_push (e' := 76) (e := 75) (sz := 7) (cell := insC) (v := .slice p3 l3 c3') (rows := x.k.sI) (l := x.its ++ insX) (u := .slice p2 (x.i + 2) c2); rw [List.length_append, List.flatMap_append, ← hii] at h9; exact h9)).trans (in2 _ _ _ _ _ _)), by have h9 := hI.its; rw [← hii, hil, List.take_length] at h9; exact h9, .inr ⟨p2, c2, by rw [← hii, hil], by show (_, Value.slice p2 (x.its.length + 2) c2) ∈ _; rw [← hii]; exact List.mem_append_right _ (List.mem_singleton.2 rfl)⟩, hI.pre, by have h9 := hI.T2; rw [← hii, hil, List.take_length] at h9; exact h9, hI.fin _ _⟩
end Go.Proofs.YtpofmnfkdkmieaaGreat
namespace Go.Proofs.YtpofmnfkdkmieaaGreat.E
open Go Go.RowKit
structure WA (P : Program) (n : Nat) (all : Array Oper) (fuel : Nat) (listed : Array Bool) (E : Env) (w0 : World) (F : List Nat) (H : Hp) (R : Asr) (fn : Func) (Z : Ending → World → Prop) (κ : List Kf) : Prop where
 go : ∀ w, Sat w0 F H R w → ∀ a, Ag n a E → wpAny P .any all (den P fn Z κ) fuel listed a w
section
variable {P : Program} {n : Nat} {E : Env} {w0 : World} {F : List Nat} {H : Hp} {R : Asr} {fn : Func} {Z : Ending → World → Prop} {κ : List Kf}
theorem WC_any {id : Nat} {l : List Oper} (hm : P.follows .mixedOrders = true) (h : WA P n l.toArray l.length (Array.replicate l.length false) E w0 F H R fn Z κ) : WC P n (.region id l.toArray true) E w0 F H R fn Z κ :=
 ⟨fun w hs a ha => wp_region_any hm (by rw [List.size_toArray]; exact h.go _ (hs.drawn _) a ha)⟩
theorem WA_done {all : Array Oper} {fuel : Nat} {listed : Array Bool} (hr : Region.ready .any all listed = []) (h : WQ P n .normal E w0 F H R fn Z κ) : WA P n all fuel listed E w0 F H R fn Z κ :=
 ⟨fun w hs a ha => wpAny_done hr (h.go w hs a ha) fuel⟩
theorem Xf {all : Array Oper} {fuel : Nat} {listed : Array Bool} {rs : List Nat} (hr : Region.ready .any all listed = rs) (hne : rs ≠ [])
  (h : ∀ i ∈ rs, ∃ o, all[i]? = some o ∧ WL P n all [o] E w0 F H R fn Z (⟨2, 0, .skip, wpAny P .any all (den P fn Z κ) fuel (listed.setIfInBounds i true)⟩ :: κ)) : WA P n all (fuel + 1) listed E w0 F H R fn Z κ :=
 ⟨fun w hs a ha => wpAny_all hr hne fun i hi => by
  obtain ⟨o, ho, hw⟩ := h i hi
  have h1 := hw.go w hs a ha
  unfold wpOp
  rw [ho]
  simp only [wpList] at h1
  simp only
  split
  ·rename_i hwant
   rw [if_pos hwant] at h1
   rcases h1 with h1 | ⟨h1, a0, w1, h2⟩
   ·left
    unfold Oper.wp at h1 ⊢
    generalize (execOp a.eval o).run P w = r at *
    cases r with
    | ok nx w' =>
     cases nx <;> simp only [Oper.upon] at h1 ⊢ <;>
      first
       | exact h1
       | exact Calls.mono h1 (fun e w'' he => by cases e <;> exact he)
       | exact Rows.mono h1 (fun _ _ he => he)
    | halt x w' => cases x <;> simp only [Oper.upon] at h1 ⊢ <;> exact h1
   ·exact .inr ⟨h1, a0, w1, h2⟩
  ·rename_i hwant
   rw [if_neg hwant] at h1
   exact h1⟩
theorem Xr {all : Array Oper} {fuel : Nat} {listed : Array Bool} (h : WA P n all fuel listed E w0 F H R fn Z κ) : WQ P n .normal E w0 F H R fn Z (⟨2, 0, .skip, wpAny P .any all (den P fn Z κ) fuel listed⟩ :: κ) := ⟨h.go⟩
end
end Go.Proofs.YtpofmnfkdkmieaaGreat.E
namespace Go.Proofs.YtpofmnfkdkmieaaGreat.E
open Go Go.RowKit
/-- What was there at u is there. -/
abbrev Old (u : World) : World → Prop := fun w => Sat u [] [] Asr.none w
theorem old_sat {u w0 w : World} {F : List Nat} {H : Hp} {R : Asr} (hu : Below u.heap.size u w0) (hF : ∀ x ∈ F, u.heap.size ≤ x) (hs : Sat w0 F H R w) : Old u w :=
 ⟨Fr.of_below (below_sat hu hF hs) [], by simp, by simp, by simp, trivial, by simp [Asr.none], by simp⟩
theorem den_pan {P : Program} {fn : Func} {Z : Ending → World → Prop} {c : List PanicEntry} {a : Act} {d : Option Tmp} {v : Value} {w : World} : ∀ κ : List Kf, den P fn Z κ (.panic c) (a.put d v) w → den P fn Z κ (.panic c) a w
 | [], h => by
  cases d with
  | none => exact h
  | some d => exact h
 | ⟨0, _, _, _⟩ :: κ, h => den_pan κ h
 | ⟨1, _, _, _⟩ :: κ, h => den_pan κ h
 | ⟨_ + 2, _, _, _⟩ :: κ, h => den_pan κ h
structure WH (w1 : World) (F1 : List Nat) (H1 : Hp) (R1 : Asr) (P : Program) (n : Nat) (all : Array Oper) (fuel : Nat) (listed : Array Bool) (E : Env) (w0 : World) (F : List Nat) (H : Hp) (R : Asr) (fn : Func) (Z : Ending → World → Prop) (κ : List Kf) : Prop where
 go : ∀ w, Sat w0 F H R w → ∀ a, Ag n a E → wpAnyH P .any all (den P fn Z κ) (fun w => Sat w1 F1 H1 R1 w) fuel listed a w
section
variable {w1 : World} {F1 : List Nat} {H1 : Hp} {R1 : Asr} {P : Program} {n : Nat} {E : Env} {w0 : World} {F : List Nat} {H : Hp} {R : Asr} {fn : Func} {Z : Ending → World → Prop} {κ : List Kf}
theorem WC_drop {c : Code} (j : Nat) (h : WC P n c E w0 F (H.drop j) R fn Z κ) : WC P n c E w0 F H R fn Z κ := ⟨fun w hs a ha => h.go w (hs.drop j) a ha⟩
theorem WC_held (w1 : World) (F1 : List Nat) (H1 : Hp) (R1 : Asr) {id : Nat} {l : List Oper} (hm : P.follows .mixedOrders = true) (h : WH w1 F1 H1 R1 P n l.toArray l.length (Array.replicate l.length false) E w0 F H R fn Z κ) : WC P n (.region id l.toArray true) E w0 F H R fn Z κ :=
 ⟨fun w hs a ha => wp_region_held (S := fun w => Sat w1 F1 H1 R1 w) hm (by rw [List.size_toArray]; exact h.go _ (hs.drawn _) a ha)⟩
theorem WC_heldM (j : Nat) {id : Nat} {l : List Oper} (hm : P.follows .mixedOrders = true) (h : WH w0 F (H.drop j) R P n l.toArray l.length (Array.replicate l.length false) E w0 F H R fn Z κ) : WC P n (.region id l.toArray true) E w0 F H R fn Z κ := WC_held w0 F (H.drop j) R hm h
theorem WH_done {all : Array Oper} {fuel : Nat} {listed : Array Bool} (hr : Region.ready .any all listed = []) (h : WQ P n .normal E w0 F H R fn Z κ) : WH w1 F1 H1 R1 P n all fuel listed E w0 F H R fn Z κ :=
 ⟨fun w hs a ha => wpAnyH_done hr (h.go w hs a ha) fuel⟩
theorem WH_op {all : Array Oper} {fuel : Nat} {listed : Array Bool} (i : Nat) {d : Nat} {o : Op} {t : TypeId} {p : String} {x : Array Edge} {v : Value} (hi : all[i]? = some ⟨some d, o, t, p, x, none⟩) (hs : Region.noSelect all = true) (hf : Region.free .any all listed i = true)
  (hr : (Region.ready .any all listed).contains i = true) (hd : Nat.blt d n = true) (hk : ∀ w, Sat w0 F H R w → Sat w1 F1 H1 R1 w) (he : Ex P n E w1 F1 H1 R1 o v)
  (h : WH w1 F1 H1 R1 P n all fuel (listed.setIfInBounds i true) ((d, v) :: E) w0 F H R fn Z κ) : WH w1 F1 H1 R1 P n all (fuel + 1) listed E w0 F H R fn Z κ :=
 ⟨fun w hw a ha => wpAnyH_take (v := v) hi hs hf hr (fun _ _ _ => den_pan κ) (.inl ⟨rfl, fun w' hw' => he.go w' hw' a ha _ _ _ _ _⟩) (hk w hw) (h.go w hw _ (ha.put hd v))⟩
theorem WH_step {all : Array Oper} {fuel : Nat} {listed : Array Bool} {rs : List Nat} (hr : Region.ready .any all listed = rs) (hne : rs ≠ [])
  (h : ∀ i ∈ rs, ∃ o, all[i]? = some o ∧ WL P n all [o] E w0 F H R fn Z (⟨2, 0, .skip, fun a w => Sat w1 F1 H1 R1 w ∧ wpAnyH P .any all (den P fn Z κ) (fun w => Sat w1 F1 H1 R1 w) fuel (listed.setIfInBounds i true) a w⟩ :: κ)) : WH w1 F1 H1 R1 P n all (fuel + 1) listed E w0 F H R fn Z κ :=
 ⟨fun w hs a ha => wpAnyH_all hr hne fun i hi => by
  obtain ⟨o, ho, hw⟩ := h i hi
  have h1 := hw.go w hs a ha
  unfold wpOp
  rw [ho]
  simp only [wpList] at h1
  simp only
  split
  ·rename_i hwant
   rw [if_pos hwant] at h1
   rcases h1 with h1 | ⟨h1, a0, w1, h2⟩
   ·left
    unfold Oper.wp at h1 ⊢
    generalize (execOp a.eval o).run P w = r at *
    cases r with
    | ok nx w' =>
     cases nx <;> simp only [Oper.upon] at h1 ⊢ <;>
      first
       | exact h1
       | exact Calls.mono h1 (fun e w'' he => by cases e <;> exact he)
       | exact Rows.mono h1 (fun _ _ he => he)
    | halt x w' => cases x <;> simp only [Oper.upon] at h1 ⊢ <;> exact h1
   ·exact .inr ⟨h1, a0, w1, h2⟩
  ·rename_i hwant
   rw [if_neg hwant] at h1
   exact h1⟩
theorem WQ_held {all : Array Oper} {fuel : Nat} {listed : Array Bool} (hk : ∀ w, Sat w0 F H R w → Sat w1 F1 H1 R1 w) (h : WH w1 F1 H1 R1 P n all fuel listed E w0 F H R fn Z κ) : WQ P n .normal E w0 F H R fn Z (⟨2, 0, .skip, fun a w => Sat w1 F1 H1 R1 w ∧ wpAnyH P .any all (den P fn Z κ) (fun w => Sat w1 F1 H1 R1 w) fuel listed a w⟩ :: κ) := ⟨fun w hs a ha => ⟨hk w hs, h.go w hs a ha⟩⟩
end
end Go.Proofs.YtpofmnfkdkmieaaGreat.E
