/- What is proved here: the statement's encodes gives true for every class, and the book grows by what was lent. the document's first example, written and read; the statement Forms. -/
import Derived.Test.YtpofmnfkdkmieaaGreatQ36
set_option linter.unusedVariables false
set_option linter.unusedSimpArgs false
namespace Go.Proofs.YtpofmnfkdkmieaaGreat
open Go Go.RowKit At E
theorem rows0_S {β : Type} (e' e sz : Nat) (cell : β → List Value) : (rowsA e' e sz cell (.slice none 0 0) []).S = [] := rfl
theorem rows0_A {β : Type} (e' e sz : Nat) (cell : β → List Value) (w : World) : (rowsA e' e sz cell (.slice none 0 0) []).A w := ⟨World.ownsRow_nil w 0 e' 1, trivial, fun x hx => by simp [ownA, Value.ownBlock] at hx⟩
theorem and0 {A B : Asr} {w : World} (ha : A.A w) (hb : B.A w) (hS : A.S = []) : (A.and B).A w := ⟨ha, hb, fun x hx => by rw [hS] at hx; cases hx⟩
theorem lx0_S : (lxA lx0).S = [] := rfl
theorem lx0_A (w : World) : (lxA lx0).A w :=
 and0 (rows0_A _ _ _ _ w) (and0 (rows0_A _ _ _ _ w) (and0 (rows0_A _ _ _ _ w) (and0 (rows0_A _ _ _ _ w) (and0 (rows0_A _ _ _ _ w) (rows0_A _ _ _ _ w) rfl) rfl) rfl) rfl) rfl
theorem lx0_in (R : Asr) : R.Imp ((lxA lx0).and R) := ⟨fun x hx => by simpa [Asr.and, lx0_S] using hx, fun w hw => and0 (lx0_A w) hw lx0_S⟩
theorem apart_of {w0 w : World} {F : List Nat} {H : Hp} {R Rin : Asr} (hs : Sat w0 F H (Rin.and R) w) {i j a b : Nat} {ca cb : List Value} (hi : H[i]? = some (b, cb)) (hj : H[j]? = some (a, ca)) (hne : i ≠ j) : a ∉ b :: Rin.S := by
 intro h
 rcases List.mem_cons.1 h with h | h
 ·subst h
  have h1 : (H.map (·.1))[i]? = some a := by rw [List.getElem?_map, hi]; rfl
  have h2 : (H.map (·.1))[j]? = some a := by rw [List.getElem?_map, hj]; rfl
  have hlt : i < (H.map (·.1)).length := by
   rcases Nat.lt_or_ge i (H.map (·.1)).length with h' | h'
   ·exact h'
   ·rw [List.getElem?_eq_none h'] at h1; cases h1
  exact hne ((List.getElem?_inj hlt hs.apart).1 (h1.trans h2.symm))
 ·exact hs.rapart _ (List.mem_of_getElem? hj) (List.mem_append_left _ h)
theorem lxLen_of {c : Cl} {k : Lx} (ho : LxOf c k) (hg : ClGood c) : LxLen k ∧ lxN k ≤ 5000000 := by
 have n1 := congrArg List.length ho.T; have n2 := congrArg List.length ho.I; have n3 := congrArg List.length ho.F; have n4 := congrArg List.length ho.M; have n5 := congrArg List.length ho.H; have n6 := congrArg List.length ho.R
 simp only [List.length_map, List.length_cons, List.length_nil] at n1 n2 n3 n4 n5 n6
 have hn := hg.n; have hm := hg.ms.1
 refine ⟨⟨fun r hr => ?_, fun r hr => ?_, fun r hr => ?_, fun r hr => ?_, fun r hr => ?_, fun r hr => ?_⟩, by unfold lxN; omega⟩
 ·obtain ⟨m, hm, hl⟩ := List.mem_flatMap.1 (mem_of_map ho.T hr)
  have := (mT_ok (hg.ms.2 m hm) _ hl).1; omega
 ·obtain ⟨m, hm, hl⟩ := List.mem_map.1 (mem_of_map ho.I hr)
  have := congrArg List.length hl; simp only [List.length_map, List.length_append, List.length_cons, List.length_nil] at this
  have := (hg.ms.2 m hm).cs.1; omega
 ·have hl := List.mem_singleton.1 (mem_of_map ho.F hr)
  have := congrArg List.length hl; simp only [fdX, List.length_append, List.length_cons, List.length_nil] at this
  have := hg.fs.1; omega
 ·have hl := List.mem_singleton.1 (mem_of_map ho.M hr)
  have := congrArg List.length hl; simp only [List.length_map, List.length_append, List.length_cons, List.length_nil] at this
  omega
 ·obtain ⟨m, hm, hl⟩ := List.mem_map.1 (mem_of_map ho.H hr)
  have := congrArg List.length hl; simp only [hdX, List.length_append, List.length_cons, List.length_nil] at this
  have := (hg.ms.2 m hm).hs.1; omega
 ·obtain ⟨m, hm, hl⟩ := List.mem_map.1 (mem_of_map ho.R hr)
  have := congrArg List.length hl; simp only [List.length_map, List.length_append, List.length_cons, List.length_nil] at this
  have := (hg.ms.2 m hm).fs.1; omega
set_option maxHeartbeats 4000000 in
theorem encodes_any (u : World) (b : Nat) (bk : Bk) (N : Nat) (c : Cl) (fv mv : Value) (hcl : ClAt u c fv mv) (hg : ClGood c) (hN : N ≤ 1000000000) (hbk : BkOk bk N) :
  RuP Tryz.prog 14 #[.pointer (some ⟨b, 0, none⟩), .agg (clV c fv mv).toArray] u b bk.C (bookA bk) (fun v cs' R' => v = .bool true ∧ bkOk (N + 20000000) v cs' R') := by
 intro w hu hF hs0
 have hn9 : (c.methods.flatMap mT).length ≤ 1000000000 := Nat.le_trans hg.n (by omega)
 obtain ⟨qf, ef, hfv, -, -⟩ := hcl.fs.is
 obtain ⟨qm, em, hmv, -, -⟩ := hcl.ms.is
 subst hfv; subst hmv
 replace hcl : Hid _ := hcl
 replace hg : Hid _ := hg
 refine opensF (hs0) (args := [.pointer (some ⟨b, 0, none⟩), .agg (clV c (.slice qf c.fields.length ef) (.slice qm c.methods.length em)).toArray]) Tryz.func14 rfl Tryz.ntmps14 ?_
 refine Zf (Zb (WL_box rfl rfl ?_))
 intro b1 hb1
 refine Za rfl (Zg rfl) (Ze (Zc (Zf (Zb (Za rfl (Xs (tb rfl) rfl rfl) ?_)))))
 refine WL_box rfl rfl ?_
 intro b2 hb2
 refine Za rfl (Zg rfl) (Ze (Zc (Zf (Zb (Za rfl (Xs (tb rfl) rfl rfl) ?_)))))
 refine WL_box rfl rfl ?_
 intro b3 hb3
 refine Za rfl (Zg rfl) (Ze (Zc (Zf (Zb (Za rfl (Zd rfl) ?_)))))
 refine Za rfl (Yb (tn rfl) rfl 2 rfl rfl) ?_
 refine Xm (lx0_in _) ?_; refine WL_callU fn45 rfl rfl 1 rfl hu hF (lxClassed u b2 _ _ c hcl.out hn9) ?_; rintro v cs' R' ⟨k1, fv1, mv1, ms1, rfl, rfl, hR1, ho1, hpf1, hms1, hpm1⟩; obtain ⟨a1, a2, a3, ha⟩ := hpf1.slice; subst ha; obtain ⟨d1, d2, d3, hd⟩ := hpm1.slice; subst hd; refine Xm hR1.left ?_
 refine Xg rfl (tz rfl) ?_
 intro b4 hb4
 refine Yd (tn rfl) rfl rfl 0 rfl rfl rfl rfl (Ze (Zc (Zf (Zb (Za rfl (Zd rfl) ?_)))))
 refine Za rfl (Yb (tn rfl) rfl 3 rfl rfl) ?_
 refine Xm (lx0_in _) ?_; refine WL_callU fn45 rfl rfl 1 rfl hu hF (lxClassed u b3 _ _ c hcl.out hn9) ?_; rintro v cs' R' ⟨k2, fv2, mv2, ms2, rfl, rfl, hR2, ho2, hpf2, hms2, hpm2⟩; refine Xm hR2.left ?_
 refine Ze (Zc (Zf (Zb (Za rfl (Yb (tn rfl) rfl 0 rfl rfl) (Xi fn26 rfl rfl (fun w' hs => encode_any c _ _ w' (clAt_of (rowsIn_of hs.res.2.1.1 ho1 hg.out) hg.out hpf1 hms1 hpm1)) ?_)))))
 refine Za rfl (Zd rfl) (Za rfl (Ex_ext rfl rfl) (Za rfl (Ex_ext rfl rfl) (Za rfl (Zg rfl) (Za rfl (Zg rfl) (Ze ?_)))))
 refine Zc (Zf (Zb (Za rfl (Yb (tn rfl) rfl 3 rfl rfl) (Xi fn17 rfl rfl (fun w' hs => refEncode_any c _ _ w' (hcl.out.mono (below_sat hu hF hs))) ?_))))
 refine Za rfl (Zd rfl) (Za rfl (Ex_ext rfl rfl) (Za rfl (Ex_ext rfl rfl) (Za rfl (Zg rfl) (Za rfl (Zg rfl) (Ze ?_)))))
 refine Zc (Zf (Zb (Za rfl (Zd rfl) (Za rfl (Zd rfl) (Xi fn46 rfl rfl (fun w' hs => sameLists_any b2 b3 k1 k2 _ _ _ _ _ _ w' (lsAt_of (i := 2) hs rfl hs.res.2.1.1 ho1 hg.out) (lsAt_of (i := 1) hs rfl hs.res.1 ho2 hg.out)) ?_)))))
 refine Za rfl (Zg rfl) (Ze (Zc (Zf (Zb (Za rfl (Yb (tn rfl) rfl 0 rfl rfl) ?_)))))
 refine Za rfl (Yb (tn rfl) rfl 3 rfl rfl) (Xi fn44 rfl rfl (fun w' hs => sameClass_any c _ _ _ _ w' (clAt_of (rowsIn_of hs.res.2.1.1 ho1 hg.out) hg.out hpf1 hms1 hpm1) (hcl.out.mono (below_sat hu hF hs))) ?_)
 refine Za rfl (Zg rfl) (Ze (Zc (Zf (Zb (Za rfl (Zd rfl) ?_)))))
 refine Za rfl (Zd rfl) ?_
 refine Xm ((Asr.comm _ _).trans (Asr.Imp.left (Asr.comm _ _))) ?_; refine WL_callKC fn47 rfl rfl 4 rfl (keepLists_any b b2 bk k1 N (N + 20000000) hbk (by have h9 := (lxLen_of ho1 hg.out).2; omega) (by omega) (lxLen_of ho1 hg.out).1) (fun w hs => ⟨(own_cells (i := 2) hs rfl).1, apart_of (i := 4) (j := 2) hs rfl rfl (by omega)⟩) ?_; rintro v cs' R' ⟨bk1, rfl, hRb, hbk1⟩; refine Xm (hRb.left.trans (Asr.fst _ _)) ?_
 refine Ze (Zc (Zf (Zb (Za rfl (Zd rfl) (Za rfl (Zd rfl) ?_)))))
 refine Zo rfl rfl rfl (Zd rfl) (Za rfl (Zt rfl rfl) (Za rfl (Zd rfl) (Zo rfl rfl rfl (Zd rfl) (Zo rfl rfl rfl (Zd rfl) (Zo rfl rfl rfl (Ex_eqlS1 rfl rfl) ?_)))))
 refine Za rfl (Zt rfl rfl) (Za rfl (Zd rfl) (Zo rfl rfl rfl (Zd rfl) (WL_callYes fn48 rfl rfl rfl rfl (fun w _ => num_any _ w) ?_)))
 refine Zo rfl rfl rfl (Zd rfl) (Zo rfl rfl rfl (Ex_eqlI1 rfl rfl) (Za rfl (Zt rfl rfl) (Za rfl (Zg rfl) (Ze (Zc ?_)))))
 refine Zv (Rk_endR (Res_1 rfl (RV_tmp rfl)) 4 rfl ?_)
 exact ⟨rfl, bk1, rfl, .refl _, hbk1⟩
end Go.Proofs.YtpofmnfkdkmieaaGreat
namespace Go.Proofs.YtpofmnfkdkmieaaGreat.E
open Go Go.RowKit
/-- A block of cells. -/
def blockA (b : Nat) (cs : List Value) : Asr := ⟨[b], fun w => ∃ t, w.heap[b]? = some (.cells cs.toArray t (0, 0)), fun w w' h hs => by obtain ⟨t, ht⟩ := h; exact ⟨t, by rw [hs b (List.mem_singleton.2 rfl)]; exact ht⟩⟩
theorem Sat.give {w0 w : World} {F : List Nat} {H : Hp} {R : Asr} {b : Nat} {cs : List Value} (h : Sat w0 F ((b, cs) :: H) R w) : Sat w0 F H ((blockA b cs).and R) w := by
 have hm : (b, cs) ∈ (b, cs) :: H := List.mem_cons_self
 have hap := h.apart
 simp only [List.map_cons, List.nodup_cons] at hap
 refine ⟨h.low, fun p hp => h.own p (List.mem_cons_of_mem _ hp), fun p hp => h.hi p (List.mem_cons_of_mem _ hp), hap.2, ⟨h.own _ hm, h.res, fun x hx => by rw [List.mem_singleton.1 hx]; exact h.rapart _ hm⟩, ?_, ?_⟩
 ·intro k hk
  rcases List.mem_append.1 hk with hk | hk
  ·rw [List.mem_singleton.1 hk]; exact ⟨h.hi _ hm, h.lt hm⟩
  ·exact h.rhi k hk
 ·intro p hp hk
  rcases List.mem_append.1 hk with hk | hk
  ·exact hap.1 (by rw [← List.mem_singleton.1 hk]; exact List.mem_map_of_mem hp)
  ·exact h.rapart p (List.mem_cons_of_mem _ hp) hk
theorem WQ_give {P : Program} {n : Nat} {E : Env} {w0 : World} {F : List Nat} {H : Hp} {R : Asr} {fn : Func} {Z : Ending → World → Prop} {κ : List Kf} {x : Exit} {b : Nat} {cs : List Value} (h : WQ P n x E w0 F H ((blockA b cs).and R) fn Z κ) : WQ P n x E w0 F ((b, cs) :: H) R fn Z κ := ⟨fun w hs a ha => h.go w hs.give a ha⟩
end Go.Proofs.YtpofmnfkdkmieaaGreat.E
namespace Go.Proofs.YtpofmnfkdkmieaaGreat
open Go Go.RowKit At E
def smI1 : Ins := ⟨1, 7, rf0⟩
def smI2 : Ins := ⟨27, 0, rf0⟩
def smI3 : Ins := ⟨22, 0, rf0⟩
def smM : Me := ⟨⟨#[109, 97, 105, 110]⟩, true, [], ⟨0, mt⟩, 0, 1, [smI1, smI2, smI3], [], []⟩
def smC : Cl := ⟨⟨#[65]⟩, ⟨#[79, 98, 106, 101, 99, 116]⟩, [], [smM]⟩
def smB : ByteArray := ⟨#[67, 76, 65, 83, 1, 65, 6, 79, 98, 106, 101, 99, 116, 0, 1, 4, 109, 97, 105, 110, 1, 0, 0, 0, 1, 3, 0, 1, 7, 0, 0, 0, 0, 0, 0, 0, 27, 22, 0, 0]⟩
theorem sm_class : isClassB smC = true := by kernel_rfl
theorem sm_bytes : bytesS smC = smB := by kernel_rfl
theorem sm_dec : okOnly (decL false true (dl smB)) = some smC := by kernel_rfl
def smIs : List Value := insV smI1 nilS ++ insV smI2 nilS ++ insV smI3 nilS
def smMs (b : Nat) : List Value := meV smM nilS (.slice (some ⟨b, 0, none⟩) 3 3) nilS nilS
def smA (b1 b2 : Nat) : Asr := (blockA b1 smIs).and ((blockA b2 (smMs b1)).and Asr.none)
def smV (b2 : Nat) : Value := .agg (clV smC nilS (.slice (some ⟨b2, 0, none⟩) 1 1)).toArray
theorem blk_cell {w : World} {b : Nat} {cs : List Value} (h : (blockA b cs).A w) : b < w.heap.size ∧ ∀ j v, cs[j]? = some v → w.cell? ⟨b, 0 + j, none⟩ = some v := by
 obtain ⟨t, ht⟩ := h
 refine ⟨?_, fun j v hj => ?_⟩
 ·rcases Nat.lt_or_ge b w.heap.size with h' | h'
  ·exact h'
  ·rw [Array.getElem?_eq_none h'] at ht; cases ht
 ·rw [Nat.zero_add]; simp [World.cell?, ht, hj]
theorem strOk_le {s : ByteArray} (n : Nat) (h : s.size = n) (hn : n ≤ 1048576) : strOk s := by unfold strOk; omega
theorem intOk_of {n : Int} (h : 0 ≤ n) (h' : n ≤ 1000) : intOk n := by unfold intOk; omega
theorem smI_ok (op n : Int) (h : 0 ≤ op) (h' : op ≤ 1000) (h1 : 0 ≤ n) (h1' : n ≤ 1000) : insOk ⟨op, n, rf0⟩ := ⟨intOk_of h h', intOk_of h1 h1', Xj⟩
theorem one_at {α : Type} {x y : α} {i : Nat} (h : [x][i]? = some y) : i = 0 ∧ y = x := by
 match i, h with
 | 0, h => exact ⟨rfl, (Option.some.inj h).symm⟩
theorem three_at {α : Type} {x y z t : α} {i : Nat} (h : [x, y, z][i]? = some t) : (i = 0 ∧ t = x) ∨ (i = 1 ∧ t = y) ∨ (i = 2 ∧ t = z) := by
 match i, h with
 | 0, h => exact .inl ⟨rfl, (Option.some.inj h).symm⟩
 | 1, h => exact .inr (.inl ⟨rfl, (Option.some.inj h).symm⟩)
 | 2, h => exact .inr (.inr ⟨rfl, (Option.some.inj h).symm⟩)
theorem app_at {a b c : List Value} {n j : Nat} {u : Value} (ha : a.length = n) (h : b[j]? = some u) : (a ++ b ++ c)[n + j]? = some u := by
 have hj : j < b.length := by
  rcases Nat.lt_or_ge j b.length with h' | h'
  ·exact h'
  ·rw [List.getElem?_eq_none h'] at h; cases h
 rw [List.append_assoc, List.getElem?_append_right (by omega), ha, Nat.add_sub_cancel_left, List.getElem?_append_left hj]; exact h
theorem sm_at {w : World} {b1 b2 : Nat} (h : (smA b1 b2).A w) : ClAt w smC nilS (.slice (some ⟨b2, 0, none⟩) 1 1) := by
 obtain ⟨l1, c1⟩ := blk_cell h.1
 obtain ⟨l2, c2⟩ := blk_cell h.2.1.1
 have hI : InssAt w (.slice (some ⟨b1, 0, none⟩) 3 3) [smI1, smI2, smI3] := by
  refine ⟨some ⟨b1, 0, none⟩, 3, rfl, ⟨by simp, by simp⟩, fun i x hi => ?_⟩
  rcases three_at hi with ⟨rfl, rfl⟩ | ⟨rfl, rfl⟩ | ⟨rfl, rfl⟩
  ·exact ⟨b1, 0, insV smI1 nilS, rfl, l1, ⟨nilS, rfl, tysAt_nil w, smI_ok 1 7 (by omega) (by omega) (by omega) (by omega)⟩, fun j u hj => by
    have := c1 (0 + j) u (app_at (a := []) (c := insV smI2 nilS ++ insV smI3 nilS) rfl hj); rw [← Nat.add_assoc] at this; exact this⟩
  ·exact ⟨b1, 0, insV smI2 nilS, rfl, l1, ⟨nilS, rfl, tysAt_nil w, smI_ok 27 0 (by omega) (by omega) (by omega) (by omega)⟩, fun j u hj => by
    have := c1 (7 + j) u (app_at (a := insV smI1 nilS) rfl hj); rw [← Nat.add_assoc] at this; exact this⟩
  ·exact ⟨b1, 0, insV smI3 nilS, rfl, l1, ⟨nilS, rfl, tysAt_nil w, smI_ok 22 0 (by omega) (by omega) (by omega) (by omega)⟩, fun j u hj => by
    have h9 := app_at (a := insV smI1 nilS ++ insV smI2 nilS) (c := []) (n := 14) rfl hj
    rw [List.append_nil] at h9
    have := c1 (14 + j) u h9; rw [← Nat.add_assoc] at this; exact this⟩
 refine ⟨⟨none, 0, rfl, ⟨by simp [smC], by simp [smC]⟩, fun i x hi => by simp [smC] at hi⟩, ?_, strOk_le 1 rfl (by omega), strOk_le 6 rfl (by omega)⟩
 refine ⟨some ⟨b2, 0, none⟩, 1, rfl, ⟨by simp [smC], by simp [smC]⟩, fun i x hi => ?_⟩
 obtain ⟨rfl, rfl⟩ := one_at hi
 refine ⟨b2, 0, smMs b1, rfl, l2, ⟨_, _, _, _, rfl, tysAt_nil w, hI, hdsAt_nil w, frsAt_nil w, strOk_le 4 rfl (by omega), tyOk_0, Yc, intOk_of (by decide) (by decide)⟩, fun j u hj => c2 j u hj⟩
theorem small_any (w : World) : FnP Tryz.prog 19 #[] w (fun v R' => ∃ b1 b2, v = smV b2 ∧ R' = smA b1 b2) False := by
 refine opens (args := []) Tryz.func19 rfl Tryz.ntmps19 ?_
 refine Zf (Zb (Xg rfl (tz rfl) ?_))
 intro b0 hb0
 refine Ze (Zc (Zf (Zb (Za rfl (Xs (tb rfl) rfl rfl) (Za rfl (Xs (tb rfl) rfl rfl) ?_)))))
 refine Za rfl (Xs (tb rfl) rfl rfl) (WL_bs rfl (ts rfl) (tz rfl) rfl rfl rfl rfl rfl ?_)
 intro b1 hb1
 refine Za rfl (Xs (tb rfl) rfl rfl) (WL_bs rfl (ts rfl) (tz rfl) rfl rfl rfl rfl rfl ?_)
 intro b2 hb2
 refine Za rfl (Xs (tb rfl) rfl rfl) (Yd (tn rfl) rfl rfl 2 rfl rfl rfl rfl (Ze (Zc (Zv (WQ_give (WQ_give (Fn_end (Res_1 rfl (Xo (tn rfl) rfl (Yj 0 rfl) rfl)) ?_)))))))
 exact ⟨b1, b2, rfl, rfl⟩
theorem smEnc (b1 b2 : Nat) (w : World) (h : (smA b1 b2).A w) : Pure Tryz.prog 26 #[smV b2] w (.tuple #[.string smB, .int .i64 0]) := by
 have := encode_any smC _ _ w (sm_at h)
 rw [sm_class, if_pos rfl, if_pos rfl, sm_bytes] at this
 exact this
theorem smDec (w : World) : FnP Tryz.prog 25 #[.string smB] w (fun v R' => ∃ k : ClM, v = .tuple #[.agg (clV smC k.fv k.mv).toArray, .int .i64 0] ∧ R'.Imp (clA smC k) ∧ ClFit smC k) False := by
 have := decode_any smB w (by decide)
 rw [sm_dec] at this
 refine Calls.mono this ?_
 rintro e w' (⟨v, R', rfl, hok, hw⟩ | ⟨hm, -, -⟩)
 ·refine .inl ⟨v, R', rfl, ?_, hw⟩
  rcases hok with ⟨c, k, ho, rfl, hR, hfit⟩ | ⟨ho, -⟩
  ·cases ho
   exact ⟨k, rfl, hR, hfit⟩
  ·cases ho
 ·exact hm.elim
theorem begun_any (w : World) : Pure Tryz.prog 13 #[] w (.bool true) := by
 refine opens (args := []) Tryz.func13 rfl Tryz.ntmps13 ?_
 refine Zf (Zb (Za rfl (Zg rfl) (Ze (Zc (Zf ?_)))))
 refine Zb (WL_callF fn19 rfl rfl (fun w' _ => small_any w') (fun h => h.elim) ?_)
 rintro v R1 ⟨x1, x2, rfl, rfl⟩
 refine Xi fn26 rfl rfl (fun w' hs => smEnc x1 x2 w' hs.res.1) ?_
 refine Za rfl (Zd rfl) (Za rfl (Ex_ext rfl rfl) (Za rfl (Ex_ext rfl rfl) (Za rfl (Zg rfl) (Za rfl (Zg rfl) (Ze ?_)))))
 refine Zc (Zf (Zb (WL_callF fn25 rfl rfl (fun w' _ => smDec w') (fun h => h.elim) ?_)))
 rintro v R2 ⟨⟨fv, mv, ms⟩, rfl, hR2, hfit⟩
 refine Xm hR2.left ?_
 refine Xz (p := (clV smC fv mv).all (·.oneCell') = true) (fun w hs => clA_one hs.res.1) ?_
 intro h11
 refine Za rfl (Zd rfl) (Za rfl (Ex_ext rfl rfl) (Za rfl (Ex_ext rfl rfl) (Xg rfl (tz rfl) ?_)))
 intro b0 hb0
 refine Yd (tn rfl) rfl rfl 0 rfl rfl h11 rfl (Za rfl (Zg rfl) (Ze (Zc (Zf (WC_any mixed ?_)))))
 refine Xf (rs := [0, 1]) (by kernel_rfl) (by simp) ?_
 simp only [List.forall_mem_cons, List.not_mem_nil, false_imp_iff, implies_true, and_true]
 refine ⟨?_, ?_⟩
 ·refine ⟨_, rfl, ?_⟩
  refine Za rfl (Yb (tn rfl) rfl 0 rfl rfl) (Ze (Xr (Xf (rs := [1]) (by kernel_rfl) (by simp) ?_)))
  simp only [List.forall_mem_cons, List.not_mem_nil, false_imp_iff, implies_true, and_true]
  ·refine ⟨_, rfl, ?_⟩
   refine WL_callF fn19 rfl rfl (fun w' _ => small_any w') (fun h => h.elim) ?_
   rintro v R3 ⟨x3, x4, rfl, rfl⟩
   refine Ze (Xr (Xf (rs := [2]) (by kernel_rfl) (by simp) ?_))
   simp only [List.forall_mem_cons, List.not_mem_nil, false_imp_iff, implies_true, and_true]
   ·refine ⟨_, rfl, ?_⟩
    refine Xi fn44 rfl rfl (fun w' hs => sameClass_any smC _ _ _ _ w' (clA_at (k := ⟨fv, mv, ms⟩) hs.res.2.1.1 hfit) (sm_at hs.res.1)) ?_
    refine Ze (Xr (Xf (rs := [3]) (by kernel_rfl) (by simp) ?_))
    simp only [List.forall_mem_cons, List.not_mem_nil, false_imp_iff, implies_true, and_true]
    ·refine ⟨_, rfl, ?_⟩
     refine Za rfl (Zg rfl) (Ze (Xr (WA_done (by kernel_rfl) ?_)))
     refine Zc (Zf (Zb (Za rfl (Zd rfl) (Za rfl (Ex_eqlS1 rfl rfl) (Za rfl (Zd rfl) ?_)))))
     refine Zo rfl rfl rfl (Zd rfl) (Zo rfl rfl rfl (Ex_eqlI1 rfl rfl) (Za rfl (Zt rfl rfl) (Za rfl (Zd rfl) (Zo rfl rfl rfl (Zd rfl) (Zo rfl rfl rfl (Ex_eqlI1 rfl rfl) ?_)))))
     refine Za rfl (Zt rfl rfl) (Za rfl (Zd rfl) (Zo rfl rfl rfl (Zd rfl) (Za rfl (Zt rfl rfl) (Za rfl (Zg rfl) (Ze ?_)))))
     refine Zc (Zv (Yh rfl rfl ?_))
     rfl
 ·refine ⟨_, rfl, ?_⟩
  refine WL_callF fn19 rfl rfl (fun w' _ => small_any w') (fun h => h.elim) ?_
  rintro v R3 ⟨x3, x4, rfl, rfl⟩
  refine Ze (Xr (Xf (rs := [0]) (by kernel_rfl) (by simp) ?_))
  simp only [List.forall_mem_cons, List.not_mem_nil, false_imp_iff, implies_true, and_true]
  ·refine ⟨_, rfl, ?_⟩
   refine Za rfl (Yb (tn rfl) rfl 0 rfl rfl) (Ze (Xr (Xf (rs := [2]) (by kernel_rfl) (by simp) ?_)))
   simp only [List.forall_mem_cons, List.not_mem_nil, false_imp_iff, implies_true, and_true]
   ·refine ⟨_, rfl, ?_⟩
    refine Xi fn44 rfl rfl (fun w' hs => sameClass_any smC _ _ _ _ w' (clA_at (k := ⟨fv, mv, ms⟩) hs.res.2.1.1 hfit) (sm_at hs.res.1)) ?_
    refine Ze (Xr (Xf (rs := [3]) (by kernel_rfl) (by simp) ?_))
    simp only [List.forall_mem_cons, List.not_mem_nil, false_imp_iff, implies_true, and_true]
    ·refine ⟨_, rfl, ?_⟩
     refine Za rfl (Zg rfl) (Ze (Xr (WA_done (by kernel_rfl) ?_)))
     refine Zc (Zf (Zb (Za rfl (Zd rfl) (Za rfl (Ex_eqlS1 rfl rfl) (Za rfl (Zd rfl) ?_)))))
     refine Zo rfl rfl rfl (Zd rfl) (Zo rfl rfl rfl (Ex_eqlI1 rfl rfl) (Za rfl (Zt rfl rfl) (Za rfl (Zd rfl) (Zo rfl rfl rfl (Zd rfl) (Zo rfl rfl rfl (Ex_eqlI1 rfl rfl) ?_)))))
     refine Za rfl (Zt rfl rfl) (Za rfl (Zd rfl) (Zo rfl rfl rfl (Zd rfl) (Za rfl (Zt rfl rfl) (Za rfl (Zg rfl) (Ze ?_)))))
     refine Zc (Zv (Yh rfl rfl ?_))
     rfl
end Go.Proofs.YtpofmnfkdkmieaaGreat
