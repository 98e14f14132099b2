/- What is proved here: the statement Forms gives true for every class and all bytes. -/
import Derived.Test.YtpofmnfkdkmieaaGreatQ37
set_option linter.unusedVariables false
set_option linter.unusedSimpArgs false
namespace Go.Proofs.YtpofmnfkdkmieaaGreat
open Go Go.RowKit At E
def bk0 : Bk := ⟨nilS, nilS, nilS, nilS, nilS, nilS, [], [], [], [], [], []⟩
theorem sort0_A (e : Nat) (mk : Nat → List Value) (w : World) : (sortA e mk nilS []).A w := ⟨World.ownsRow_nil w 0 e 1, fun i u hi => by simp at hi, fun x hx => by simp [ownA, nilS, Value.ownBlock] at hx⟩
theorem bk0_S : (bookA bk0).S = [] := rfl
theorem bk0_A (w : World) : (bookA bk0).A w :=
 and0 (sort0_A _ _ w) (and0 (sort0_A _ _ w) (and0 (sort0_A _ _ w) (and0 (sort0_A _ _ w) (and0 (sort0_A _ _ w) (sort0_A _ _ w) rfl) rfl) rfl) rfl) rfl
theorem bk0_in (R : Asr) : R.Imp ((bookA bk0).and R) := ⟨fun x hx => by simpa [Asr.and, bk0_S] using hx, fun w hw => and0 (bk0_A w) hw bk0_S⟩
theorem bk0_ok : BkOk bk0 0 := ⟨⟨rfl, Nat.le_refl _⟩, ⟨rfl, Nat.le_refl _⟩, ⟨rfl, Nat.le_refl _⟩, ⟨rfl, Nat.le_refl _⟩, ⟨rfl, Nat.le_refl _⟩, ⟨rfl, Nat.le_refl _⟩⟩
theorem encS_le (c : Cl) : (if isClassB c then bytesS c else (⟨#[]⟩ : ByteArray)).size ≤ 4000000 := by
 split
 ·rename_i h
  have h1 := bytesTo_le (isClassB_small h) c.methods.length
  rw [List.take_length] at h1
  have : (bytesS c).size ≤ 2000000 := h1
  omega
 ·decide
theorem forms_any (c : Cl) (fv mv : Value) (s : ByteArray) (w : World) (hcl : ClAt w c fv mv) (hg : ClGood c) (hs : s.size ≤ 4000000) :
  Pure Tryz.prog 3 #[.agg (clV c fv mv).toArray, .string s] w (.bool true) := by
 obtain ⟨qf, ef, hfv, -, -⟩ := hcl.fs.is
 obtain ⟨qm, em, hmv, -, -⟩ := hcl.ms.is
 subst hfv; subst hmv
 replace hcl : Hid _ := hcl
 replace hg : Hid _ := hg
 refine opens (args := [.agg (clV c (.slice qf c.fields.length ef) (.slice qm c.methods.length em)).toArray, .string s]) Tryz.func3 rfl Tryz.ntmps3 ?_
 refine Zf (Zb (WL_box rfl rfl ?_))
 intro b0 hb0
 refine Za rfl (Zg rfl) (Ze (Zc (Zf (Zb (Za rfl (Xs (tb rfl) rfl rfl) ?_)))))
 refine WL_box rfl rfl ?_
 intro b1 hb1
 refine Za rfl (Zg rfl) (Ze (Zc (Zf (Zb (Xi fn13 rfl rfl (fun w' _ => begun_any w') ?_)))))
 refine Za rfl (Zg rfl) (Ze (Zc (Zf (Zb (Za rfl (Zd rfl) ?_)))))
 refine Za rfl (Yb (tn rfl) rfl 1 rfl rfl) ?_
 refine Xm (bk0_in _) ?_; refine WL_callU fn14 rfl rfl 0 rfl (Below.refl _ w) (by simp) (encodes_any w b1 bk0 0 c _ _ hcl.out hg.out (by omega) bk0_ok) ?_; rintro v cs' R' ⟨rfl, bk1, rfl, hR1, hbk1⟩; refine Xm hR1.left ?_
 refine Za rfl (Zg rfl) (Ze (Zc (Zf (Zb (Za rfl (Zd rfl) ?_)))))
 refine Za rfl (Zd rfl) ?_
 refine WL_callK fn15 rfl rfl 0 rfl (decodes_any b1 bk1 _ s (by omega) hbk1 hs) ?_; rintro v cs' R' ⟨rfl, bk2, rfl, hR2, hbk2⟩; refine Xm hR2.left ?_
 refine Za rfl (Zg rfl) (Ze (Zc (Zf (Zb (Za rfl (Zd rfl) ?_)))))
 refine Xi fn16 rfl rfl (fun w' hs => looks_any b1 bk2 w' (bookAt_of (i := 0) hs rfl hs.res.1 hbk2 (by omega))) ?_
 refine Za rfl (Zg rfl) (Ze (Zc (Zf (Zf (Zb ?_)))))
 refine Za rfl (Zd rfl) (Za rfl (Ex_not rfl) (Za rfl (Zd rfl) (Zo rfl rfl rfl (Zd rfl) (Zo rfl rfl rfl (Ex_not rfl) (Za rfl (Zz rfl rfl) ?_)))))
 refine Za rfl (Zd rfl) (Zo rfl rfl rfl (Zd rfl) (Zo rfl rfl rfl (Ex_not rfl) (Za rfl (Zz rfl rfl) (Za rfl (Zd rfl) (Zo rfl rfl rfl (Zd rfl) ?_)))))
 refine Zo rfl rfl rfl (Ex_not rfl) (Za rfl (Zz rfl rfl) (Ze (Zc (WC_false rfl (Zw ?_)))))
 refine Zc (Zf (Zb (Za rfl (Yb (tn rfl) rfl 1 rfl rfl) (Xi fn17 rfl rfl (fun w' hs => refEncode_any c _ _ w' (hcl.out.mono (lowOf hs))) ?_))))
 refine Za rfl (Zd rfl) (Za rfl (Ex_ext rfl rfl) (Za rfl (Ex_ext rfl rfl) (Za rfl (Zg rfl) (Za rfl (Zg rfl) (Ze ?_)))))
 refine Zc (Zf (Zf (Zb (Za rfl (Zd rfl) (Za rfl (Ex_neq rfl rfl) ?_)))))
 refine Ze (Zc (Yi rfl ?_ ?_))
 ·intro c2
  try (first | replace c2 := dTr c2 | replace c2 := Zk c2)
  refine Zf (Zb (Za rfl (Zg rfl) (Ze (Zc (Zv ?_)))))
  refine Zq (Yh rfl rfl ?_)
  rfl
 ·intro c2
  try (first | replace c2 := dFa c2 | replace c2 := Zi c2)
  refine Zw (Zc (Zf (Zb (Za rfl (Zd rfl) (Za rfl (Zd rfl) ?_)))))
  refine WL_callK fn15 rfl rfl 0 rfl (decodes_any b1 bk2 _ _ (by omega) hbk2 (encS_le c)) ?_; rintro v cs' R' ⟨rfl, bk3, rfl, hR3, hbk3⟩; refine Xm hR3.left ?_
  refine Za rfl (Zg rfl) (Ze (Zc (Zf (Zb (Za rfl (Zd rfl) ?_)))))
  refine Za rfl (Zd rfl) ?_
  refine WL_callK fn15 rfl rfl 0 rfl (decodes_any b1 bk3 _ _ (by omega) hbk3 (encS_le c)) ?_; rintro v cs' R' ⟨rfl, bk4, rfl, hR4, hbk4⟩; refine Xm hR4.left ?_
  refine Za rfl (Zg rfl) (Ze (Zc (Zf (Zb (Za rfl (Zd rfl) ?_)))))
  refine Xi fn16 rfl rfl (fun w' hs => looks_any b1 bk4 w' (bookAt_of (i := 0) hs rfl hs.res.1 hbk4 (by omega))) ?_
  refine Za rfl (Zg rfl) (Ze (Zc (Zf (Zb (Za rfl (Zd rfl) ?_)))))
  refine Za rfl (Zd rfl) (Zo rfl rfl rfl (Zd rfl) (Za rfl (Zt rfl rfl) (Za rfl (Zd rfl) (Zo rfl rfl rfl (Zd rfl) (Za rfl (Zt rfl rfl) ?_)))))
  refine Za rfl (Zg rfl) (Ze (Zc (Zv (Yh rfl rfl ?_))))
  rfl
end Go.Proofs.YtpofmnfkdkmieaaGreat
