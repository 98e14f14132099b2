/- What is proved here: the document's own answers typed and sign write a signature; the signatures of two methods are the same text just where the methods have one signature. two methods' signatures are the same text just where the methods have one name, one list of parameters and one result. the document's own answer IsClass answers as the plain function does. -/
import Derived.Test.YtpofmnfkdkmieaaGreatQ10
import Derived.Test.YtpofmnfkdkmieaaGreatQ11
set_option linter.unusedVariables false
set_option linter.unusedSimpArgs false
namespace Go.Proofs.YtpofmnfkdkmieaaGreat
open Go.RowKit At E
def typedS (k : Nat) (c : ByteArray) : ByteArray := (⟨#[48, 49, 50, 51, 52, 53]⟩ : ByteArray).extract k (k + 1) ++ c
def typedT (t : Ty) : ByteArray := typedS t.kind.toNat t.cls
def signTo (nm : ByteArray) (l : List Ty) : ByteArray := l.foldl (fun s t => s ++ ⟨#[44]⟩ ++ typedT t) nm
def signS (m : Me) : ByteArray := signTo m.name m.params ++ ⟨#[58]⟩ ++ typedT m.result
theorem typedS_size (k : Nat) (c : ByteArray) (hk : k ≤ 5) : (typedS k c).size = 1 + c.size := by
 unfold typedS
 rw [ByteArray.size_append, ByteArray.size_extract]
 have : (⟨#[48, 49, 50, 51, 52, 53]⟩ : ByteArray).size = 6 := rfl
 rw [this]; omega
theorem typedK_any (k : Nat) (c : ByteArray) (hk : k ≤ 5) (hc : strOk c) (w : World) : Pure Tryz.prog 136 #[.agg #[.int .i64 (k : Nat), .string c]] w (.string (typedS k c)) := by
 unfold strOk at hc
 have h6 : (⟨#[48, 49, 50, 51, 52, 53]⟩ : ByteArray).size = 6 := rfl
 refine opens (args := [.agg #[.int .i64 (k : Nat), .string c]]) Tryz.func136 rfl Tryz.ntmps136 ?_
 refine Zf (Zb (WL_box rfl rfl ?_))
 intro b0 hb0
 refine Za rfl (Zg rfl) (Ze (Zc (Zf (WC_draw mixed (by kernel_rfl) ?_))))
 refine Zm rfl (Zh (ff rfl) rfl) (Zm rfl (Zj (t1 rfl) rfl (Zl 0 rfl rfl)) (Zm rfl (Zh (ff rfl) rfl) (Zm rfl (Zj (t1 rfl) rfl (Zl 0 rfl rfl)) ?_)))
 (first | (refine Zm rfl (Xa rfl rfl ?_) ?_; omega) | (refine Zm rfl (Yp rfl rfl ?_) ?_; omega) | refine Zm rfl (Yz rfl rfl) ?_)
 refine Zm rfl (Ex_sliceS (tstr rfl) rfl rfl rfl ?_ ?_) ?_
 ·first | omega | (rw [h6]; omega)
 ·first | omega | (rw [h6]; omega)
 refine Zm rfl (Zh (ff rfl) rfl) (Zm rfl (Zj (t1 rfl) rfl (Zl 0 rfl rfl)) (Zm rfl (Ex_addS rfl rfl ?_) ?_))
 ·rw [ByteArray.size_extract, h6]; omega
 refine Zm rfl (Zg rfl) (WO_nil (Zc (Zv (Yh rfl rfl ?_))))
 rfl
theorem typed_any (t : Ty) (h0 : 0 ≤ t.kind) (h5 : t.kind ≤ 5) (ht : tyOk t) (w : World) : Pure Tryz.prog 136 #[.agg (tyV t).toArray] w (.string (typedT t)) := by
 have e : tyV t = [.int .i64 ((t.kind.toNat : Nat) : Int), .string t.cls] := by unfold tyV; rw [Int.toNat_of_nonneg h0]
 rw [e]
 exact typedK_any t.kind.toNat t.cls (by omega) ht.2 w
theorem signTo_le (nm : ByteArray) (l : List Ty) (h : ∀ t ∈ l, t.cls.size ≤ 12 ∧ 0 ≤ t.kind ∧ t.kind ≤ 5) (hn : nm.size ≤ 12) : ∀ k, (signTo nm (l.take k)).size ≤ 12 + l.length * 14 := by
 intro k
 have key : ∀ (l : List Ty) (s : ByteArray), (∀ t ∈ l, t.cls.size ≤ 12 ∧ 0 ≤ t.kind ∧ t.kind ≤ 5) → (l.foldl (fun s t => s ++ ⟨#[44]⟩ ++ typedT t) s).size ≤ s.size + l.length * 14 := by
  intro l
  induction l with
  | nil => intro s _; simp
  | cons t r ih =>
   intro s h
   have h1 := h t List.mem_cons_self
   have h2 := ih (s ++ ⟨#[44]⟩ ++ typedT t) (fun u hu => h u (List.mem_cons_of_mem _ hu))
   have h3 : (typedT t).size = 1 + t.cls.size := typedS_size _ _ (by omega)
   have h4 : (⟨#[44]⟩ : ByteArray).size = 1 := rfl
   simp only [ByteArray.size_append, h3, h4] at h2
   simp only [List.foldl_cons, List.length_cons, Nat.add_mul, Nat.one_mul]
   omega
 have h1 := key (l.take k) nm (fun t ht => h t (List.mem_of_mem_take ht))
 have h2 : (l.take k).length * 14 ≤ l.length * 14 := Nat.mul_le_mul_right _ (by rw [List.length_take]; omega)
 unfold signTo
 omega
theorem sign_any (m : Me) (pv : Value) (w : World) (hv : TysAt w pv m.params) (hp : ∀ t ∈ m.params, t.cls.size ≤ 12 ∧ 0 ≤ t.kind ∧ t.kind ≤ 5) (hr : m.result.cls.size ≤ 12 ∧ 0 ≤ m.result.kind ∧ m.result.kind ≤ 5) (hn : m.name.size ≤ 12) (hro : tyOk m.result) :
  Pure Tryz.prog 96 #[.string m.name, pv, .agg (tyV m.result).toArray] w (.string (signS m)) := by
 obtain ⟨p, c, rfl, hl, hrr⟩ := hv.parts
 replace hrr : Hid _ := hrr
 have hle := signTo_le m.name m.params hp hn
 replace hle : Hid _ := hle
 have h1 : (⟨#[44]⟩ : ByteArray).size = 1 := rfl
 have h2 : (⟨#[58]⟩ : ByteArray).size = 1 := rfl
 have hTr : (typedT m.result).size = 1 + m.result.cls.size := typedS_size _ _ (by omega)
 refine opens (args := [.string m.name, .slice p m.params.length c, .agg (tyV m.result).toArray]) Tryz.func96 rfl Tryz.ntmps96 ?_
 refine Zf (Zb (WL_box rfl rfl ?_))
 intro b0 hb0
 refine Za rfl (Zg rfl) (Ze (Zc (Zf (Zb (Za rfl (Zd rfl) ?_)))))
 refine Za rfl (Zg rfl) (Ze (Zc (Zf (Zf (Zb ?_)))))
 refine Za rfl (Zg rfl) (Ze (Zc (Zs (Xh (E' := (fun k : Nat => [(1, .slice p m.params.length c), (5, .pointer (some ⟨b0, 0, none⟩)), (7, .string (signTo m.name (m.params.take k))), (8, .int .i64 (k : Nat))]) (0)) ⟨rfl, rfl, rfl, rfl, trivial⟩ (Yy (X := Nat) (fun k : Nat => [(1, .slice p m.params.length c), (5, .pointer (some ⟨b0, 0, none⟩)), (7, .string (signTo m.name (m.params.take k))), (8, .int .i64 (k : Nat))]) _ _ (fun k : Nat => [(b0, tyV m.result)]) (fun k : Nat => Asr.none) (fun k : Nat => k ≤ m.params.length) (fun k : Nat => m.params.length - k) (0) (Nat.zero_le _) ?_)))))
 intro k hI
 refine Zf (Zf (Zb (Za rfl (Zd rfl) (Za rfl (Zd rfl) (Za rfl (Yg (ts rfl) rfl) ?_)))))
 refine Za rfl (Xb rfl rfl) (Ze (Zc (Yi rfl ?_ ?_)))
 ·intro c1
  try (first | replace c1 := dTr c1 | replace c1 := Zk c1)
  have hk : k < m.params.length := by omega
  obtain ⟨b, o, hp', hb, hc⟩ := hrr.out k m.params[k] (List.getElem?_eq_getElem hk)
  subst hp'
  have hT : (typedT m.params[k]).size = 1 + m.params[k].cls.size := typedS_size _ _ (by have := hp _ (List.getElem_mem hk); omega)
  have hT2 := (hp _ (List.getElem_mem hk)).1
  refine Zw (Zc (Zf (Zs (Zb (Za rfl (Zd rfl) ?_)))))
  refine Za rfl (Ex_addS rfl rfl ?_) ?_
  ·have h3 := hle.out k; simp only [ByteArray.size_append, h1, h2]; omega
  refine Za rfl (Zd rfl) (Za rfl (Zd rfl) (Za rfl (Xk (ts rfl) rfl rfl ?_) ?_))
  ·omega
  refine Za rfl (Ym (tn rfl) rfl (Yt hc hb) rfl) (Xi fn136 rfl rfl (fun w _ => typed_any _ (hp _ (List.getElem_mem hk)).2.1 (hp _ (List.getElem_mem hk)).2.2 (hv.ok _ (List.getElem_mem hk)) w) ?_)
  refine Za rfl (Ex_addS rfl rfl ?_) ?_
  ·have h3 := hle.out k; simp only [ByteArray.size_append, h1, h2]; omega
  refine Za rfl (Zg rfl) (Ze (Zx (Zc (Zb (Za rfl (Zd rfl) ?_)))))
  (first | (refine Za rfl (Xa rfl rfl ?_) ?_; omega) | (refine Za rfl (Yp rfl rfl ?_) ?_; omega) | refine Za rfl (Yz rfl rfl) ?_)
  refine Za rfl (Zg rfl) (Ze ?_)
  refine WQ_same (s := 7) (v' := .string (signTo m.name (m.params.take (k + 1)))) rfl (by rw [List.take_succ_eq_append_getElem hk]; unfold signTo; rw [List.foldl_append]; rfl) ?_
  refine Yn (k + 1) ?_ (hk) 0 rfl (rfl) ⟨rfl, rfl, rfl, rfl, trivial⟩
  omega
 ·intro c1
  try (first | replace c1 := dFa c1 | replace c1 := Zi c1)
  refine Yx (Yw (Yo (Yv (Zc (Zf ?_)))))
  refine Zb (Za rfl (Zd rfl) (Za rfl (Ex_addS rfl rfl ?_) ?_))
  ·have h3 := hle.out k; simp only [ByteArray.size_append, h1, h2]; omega
  refine Za rfl (Yb (tn rfl) rfl 0 rfl rfl) (Xi fn136 rfl rfl (fun w _ => typed_any m.result hr.2.1 hr.2.2 hro w) ?_)
  refine Za rfl (Ex_addS rfl rfl ?_) ?_
  ·have h3 := hle.out k; simp only [ByteArray.size_append, h1, h2]; omega
  refine Za rfl (Zg rfl) (Ze (Zc (Zv (Yh rfl rfl ?_))))
  rw [List.take_of_length_le (by omega)]; rfl
end Go.Proofs.YtpofmnfkdkmieaaGreat
namespace Go.Proofs.YtpofmnfkdkmieaaGreat
open Go.RowKit At E
def bl (s : ByteArray) : List UInt8 := s.data.toList
theorem bl_append (a b : ByteArray) : bl (a ++ b) = bl a ++ bl b := by unfold bl; rw [ByteArray.data_append, Array.toList_append]
theorem bl_inj {a b : ByteArray} (h : bl a = bl b) : a = b := ByteArray.ext (Array.toList_inj.1 h)
theorem bl_mk (l : List UInt8) : bl ⟨l.toArray⟩ = l := rfl
def noSep (l : List UInt8) : Prop := ∀ c ∈ l, c ≠ 44 ∧ c ≠ 58
theorem okAt_sep {s : ByteArray} {k : Nat} (h : k < s.size) (ho : okAt s k = true) : s[k] ≠ 44 ∧ s[k] ≠ 58 := by
 unfold okAt letB digB at ho
 rw [byteAt_of h] at ho
 constructor
 all_goals
  intro e
  rw [e] at ho
  simp at ho
theorem name_noSep {s : ByteArray} (h : isNameB s = true) : noSep (bl s) := by
 intro c hc
 obtain ⟨k, hk⟩ := List.mem_iff_getElem?.1 hc
 unfold isNameB at h
 simp only [Bool.and_eq_true] at h
 have hlt : k < s.size := by
  rcases Nat.lt_or_ge k s.size with h' | h'
  ·exact h'
  ·have : (bl s).length = s.size := Array.length_toList
   rw [List.getElem?_eq_none (by omega)] at hk; cases hk
 have ho := List.all_eq_true.1 h.2 k (List.mem_range.2 hlt)
 have e : s[k] = c := by
  have h1 : (bl s)[k]? = some s[k] := by unfold bl; rw [Array.getElem?_toList]; exact Array.getElem?_eq_getElem hlt
  rw [h1] at hk; exact Option.some.inj hk
 rw [← e]; exact okAt_sep hlt ho
theorem mt_noSep : noSep (bl ⟨#[]⟩) := by intro c hc; cases hc
theorem type_noSep {t : Ty} {v o : Bool} (h : isTypeB t v o = true) : noSep (bl t.cls) ∧ 0 ≤ t.kind ∧ t.kind ≤ 5 := by
 unfold isTypeB at h
 split at h
 ·simp only [Bool.and_eq_true, decide_eq_true_eq] at h; rw [h.2]; exact ⟨mt_noSep, by omega, by omega⟩
 split at h
 ·simp only [decide_eq_true_eq] at h; rw [h]; exact ⟨mt_noSep, by omega, by omega⟩
 split at h
 ·exact ⟨name_noSep h, by omega, by omega⟩
 split at h
 ·simp only [Bool.and_eq_true, decide_eq_true_eq] at h; rw [h.2]; exact ⟨mt_noSep, by omega, by omega⟩
 ·cases h
theorem digit (k : Nat) (hk : k ≤ 5) : bl ((⟨#[48, 49, 50, 51, 52, 53]⟩ : ByteArray).extract k (k + 1)) = [UInt8.ofNat (48 + k)] := by
 match k, hk with
 | 0, _ => decide
 | 1, _ => decide
 | 2, _ => decide
 | 3, _ => decide
 | 4, _ => decide
 | 5, _ => decide
structure TyGood (t : Ty) : Prop where
 sep : noSep (bl t.cls)
 lo : 0 ≤ t.kind
 hi : t.kind ≤ 5
theorem typedT_bl {t : Ty} (h : TyGood t) : bl (typedT t) = UInt8.ofNat (48 + t.kind.toNat) :: bl t.cls := by
 have := h.lo; have := h.hi
 unfold typedT typedS
 rw [bl_append, digit _ (by omega)]; rfl
theorem typedT_sep {t : Ty} (h : TyGood t) : noSep (bl (typedT t)) := by
 rw [typedT_bl h]
 intro c hc
 cases hc with
 | head =>
  have h1 := h.lo; have h2 := h.hi
  have : t.kind.toNat ≤ 5 := by omega
  revert this
  generalize t.kind.toNat = k
  intro hk
  match k, hk with
  | 0, _ => decide
  | 1, _ => decide
  | 2, _ => decide
  | 3, _ => decide
  | 4, _ => decide
  | 5, _ => decide
 | tail _ hm => exact h.sep c hm
theorem typedT_inj {t u : Ty} (ht : TyGood t) (hu : TyGood u) (h : bl (typedT t) = bl (typedT u)) : t.kind = u.kind ∧ t.cls = u.cls := by
 rw [typedT_bl ht, typedT_bl hu] at h
 injection h with h1 h2
 refine ⟨?_, bl_inj h2⟩
 have a1 := ht.lo; have a2 := ht.hi; have b1 := hu.lo; have b2 := hu.hi
 have e : (UInt8.ofNat (48 + t.kind.toNat)).toNat = (UInt8.ofNat (48 + u.kind.toNat)).toNat := by rw [h1]
 rw [UInt8.toNat_ofNat', UInt8.toNat_ofNat'] at e
 omega
theorem sep_cut : ∀ {a b r s : List UInt8} {x y : UInt8}, noSep a → noSep b → (x = 44 ∨ x = 58) → (y = 44 ∨ y = 58) → a ++ x :: r = b ++ y :: s → a = b ∧ x = y ∧ r = s
 | [], [], _, _, _, _, _, _, _, _, h => by
  simp only [List.nil_append] at h
  injection h with h1 h2
  exact ⟨rfl, h1, h2⟩
 | [], c :: b, _, _, _, _, _, hb, hx, _, h => by
  simp only [List.nil_append, List.cons_append] at h
  injection h with h1 _
  have := hb c List.mem_cons_self
  rw [← h1] at this
  rcases hx with hx | hx
  ·exact absurd hx this.1
  ·exact absurd hx this.2
 | c :: a, [], _, _, _, _, ha, _, _, hy, h => by
  simp only [List.nil_append, List.cons_append] at h
  injection h with h1 _
  have := ha c List.mem_cons_self
  rw [h1] at this
  rcases hy with hy | hy
  ·exact absurd hy this.1
  ·exact absurd hy this.2
 | c :: a, d :: b, _, _, _, _, ha, hb, hx, hy, h => by
  simp only [List.cons_append] at h
  injection h with h1 h2
  have ⟨e1, e2, e3⟩ := sep_cut (fun z hz => ha z (List.mem_cons_of_mem _ hz)) (fun z hz => hb z (List.mem_cons_of_mem _ hz)) hx hy h2
  exact ⟨by rw [h1, e1], e2, e3⟩
/-- What stands behind the name. -/
def tailL : List Ty → Ty → List UInt8
 | [], r => 58 :: bl (typedT r)
 | t :: l, r => 44 :: (bl (typedT t) ++ tailL l r)
theorem signTo_bl : ∀ (l : List Ty) (s : ByteArray) (r : Ty), bl (l.foldl (fun s t => s ++ ⟨#[44]⟩ ++ typedT t) s ++ ⟨#[58]⟩ ++ typedT r) = bl s ++ tailL l r
 | [], s, r => by
  show bl (s ++ ⟨#[58]⟩ ++ typedT r) = _
  rw [bl_append, bl_append, List.append_assoc]; rfl
 | t :: l, s, r => by
  rw [List.foldl_cons, signTo_bl l _ r, bl_append, bl_append, List.append_assoc, List.append_assoc]; rfl
theorem tail_inj : ∀ {l l' : List Ty} {r r' : Ty}, (∀ t ∈ l, TyGood t) → (∀ t ∈ l', TyGood t) → TyGood r → TyGood r' → tailL l r = tailL l' r' →
  l.map (fun t => (t.kind, t.cls)) = l'.map (fun t => (t.kind, t.cls)) ∧ r.kind = r'.kind ∧ r.cls = r'.cls
 | [], [], _, _, _, _, hr, hr', h => by
  simp only [tailL] at h
  injection h with _ h2
  exact ⟨rfl, typedT_inj hr hr' h2⟩
 | [], _ :: _, _, _, _, _, _, _, h => by
  simp only [tailL] at h
  injection h with h1 _
  cases h1
 | _ :: _, [], _, _, _, _, _, _, h => by
  simp only [tailL] at h
  injection h with h1 _
  cases h1
 | t :: l, u :: l', r, r', hl, hl', hr, hr', h => by
  simp only [tailL] at h
  injection h with _ h2
  have key : ∀ (l : List Ty) (r : Ty), ∃ x s, (x = 44 ∨ x = 58) ∧ tailL l r = x :: s := by
   intro l r
   cases l with
   | nil => exact ⟨58, _, .inr rfl, rfl⟩
   | cons a b => exact ⟨44, _, .inl rfl, rfl⟩
  obtain ⟨x, s, hx, ex⟩ := key l r
  obtain ⟨y, s', hy, ey⟩ := key l' r'
  rw [ex, ey] at h2
  have ht := hl t List.mem_cons_self
  have hu := hl' u List.mem_cons_self
  have ⟨e1, e2, e3⟩ := sep_cut (typedT_sep ht) (typedT_sep hu) hx hy h2
  have hrest : tailL l r = tailL l' r' := by rw [ex, ey, e2, e3]
  have ⟨f1, f2⟩ := tail_inj (fun z hz => hl z (List.mem_cons_of_mem _ hz)) (fun z hz => hl' z (List.mem_cons_of_mem _ hz)) hr hr' hrest
  have ⟨g1, g2⟩ := typedT_inj ht hu e1
  exact ⟨by simp [f1, g1, g2], f2⟩
structure SigGood (m : Me) : Prop where
 nm : noSep (bl m.name)
 ps : ∀ t ∈ m.params, TyGood t
 rs : TyGood m.result
theorem sign_eq {a b : Me} (ha : SigGood a) (hb : SigGood b) : eqS (signS a) (signS b) = sameSig a b := by
 unfold eqS
 have h1 : bl (signS a) = bl a.name ++ tailL a.params a.result := signTo_bl _ _ _
 have h2 : bl (signS b) = bl b.name ++ tailL b.params b.result := signTo_bl _ _ _
 have key : ∀ (l : List Ty) (r : Ty), ∃ x s, (x = 44 ∨ x = 58) ∧ tailL l r = x :: s := by
  intro l r
  cases l with
  | nil => exact ⟨58, _, .inr rfl, rfl⟩
  | cons a b => exact ⟨44, _, .inl rfl, rfl⟩
 rw [Bool.eq_iff_iff]
 simp only [sameSig, Bool.and_eq_true, decide_eq_true_eq]
 constructor
 ·intro h
  have h3 : bl (signS a) = bl (signS b) := by rw [h]
  rw [h1, h2] at h3
  obtain ⟨x, s, hx, ex⟩ := key a.params a.result
  obtain ⟨y, s', hy, ey⟩ := key b.params b.result
  rw [ex, ey] at h3
  have ⟨e1, e2, e3⟩ := sep_cut ha.nm hb.nm hx hy h3
  have hrest : tailL a.params a.result = tailL b.params b.result := by rw [ex, ey, e2, e3]
  have ⟨f1, f2, f3⟩ := tail_inj ha.ps hb.ps ha.rs hb.rs hrest
  exact ⟨⟨⟨bl_inj e1, f1⟩, f2⟩, f3⟩
 ·rintro ⟨⟨⟨e1, e2⟩, e3⟩, e4⟩
  apply bl_inj
  rw [h1, h2, e1]
  congr 1
  have hr : a.result = b.result := by
   cases ha' : a.result; cases hb' : b.result
   rw [ha', hb'] at e3 e4
   simp only at e3 e4
   rw [e3, e4]
  rw [hr]
  have hp : a.params = b.params := by
   refine List.map_inj_right ?_ |>.1 e2
   intro x y hxy
   cases x; cases y
   simp only [Prod.mk.injEq] at hxy
   rw [hxy.1, hxy.2]
  rw [hp]
theorem isMethodB_sig {m : Me} (h : isMethodB m = true) : SigGood m := by
 unfold isMethodB isHeadB at h
 simp only [Bool.and_eq_true, decide_eq_true_eq] at h
 obtain ⟨⟨⟨⟨⟨⟨⟨⟨⟨⟨⟨⟨⟨⟨h1, h2⟩, h3⟩, h4⟩, h5⟩, h6⟩, h7⟩, h8⟩, h9⟩, h10⟩, h11⟩, h12⟩, h13⟩, h14⟩, h15⟩ := h
 refine ⟨name_noSep h1, fun t ht => ?_, ?_⟩
 ·have := type_noSep (List.all_eq_true.1 h2 t ht)
  exact ⟨this.1, this.2.1, this.2.2⟩
 ·have := type_noSep h3
  exact ⟨this.1, this.2.1, this.2.2⟩
end Go.Proofs.YtpofmnfkdkmieaaGreat
namespace Go.Proofs.YtpofmnfkdkmieaaGreat
open Go.RowKit At E
def clHead (c : Cl) : Bool := isNameB c.name && isNameB c.super && decide ((c.fields.length : Int) ≤ 20) && decide ((c.methods.length : Int) ≤ 20)
theorem isClassB_eq (c : Cl) : isClassB c = (clHead c && (List.range c.fields.length).all (fdAt c.fields) && (List.range c.methods.length).all (meAt c.methods)) := rfl
theorem cls_head {c : Cl} (h : clHead c = false) : isClassB c = false := by rw [isClassB_eq, h]; rfl
theorem cls_fds {c : Cl} (h : (List.range c.fields.length).all (fdAt c.fields) = false) : isClassB c = false := by rw [isClassB_eq, h]; simp
theorem cls_mes {c : Cl} (h : (List.range c.methods.length).all (meAt c.methods) = false) : isClassB c = false := by rw [isClassB_eq, h]; simp
theorem cls_yes {c : Cl} (h1 : clHead c = true) (h2 : (List.range c.fields.length).all (fdAt c.fields) = true) (h3 : (List.range c.methods.length).all (meAt c.methods) = true) : isClassB c = true := by rw [isClassB_eq, h1, h2, h3]; rfl
set_option maxHeartbeats 2000000 in
theorem isClass_any (c : Cl) (fv mv : Value) (w : World) (hc0 : ClAt w c fv mv) : Pure Tryz.prog 54 #[.agg (clV c fv mv).toArray] w (.bool (isClassB c)) := by
 obtain ⟨p1, e1, rfl, hl1, hr1⟩ := hc0.fs.is
 obtain ⟨p2, e2, rfl, hl2, hr2⟩ := hc0.ms.is
 replace hr1 : Hid _ := hr1
 replace hr2 : Hid _ := hr2
 have hnm := hc0.ok
 clear hc0
 refine opens (args := [.agg (clV c (.slice p1 c.fields.length e1) (.slice p2 c.methods.length e2)).toArray]) Tryz.func54 rfl Tryz.ntmps54 ?_
 refine Zf (Zb (WL_box rfl rfl ?_))
 intro b0 hb0
 refine Za rfl (Zg rfl) (Ze (Zc (Zf (Zb (Za rfl (Zh (ff rfl) rfl) ?_)))))
 refine Za rfl (Zj (t1 rfl) rfl (Zl 0 rfl rfl)) (Xi fn93 rfl rfl (fun w _ => isName_any _ w hnm.1) ?_)
 refine Za rfl (Zg rfl) (Ze (Zc (Zf (Zb (Za rfl (Zh (ff rfl) rfl) ?_)))))
 refine Za rfl (Zj (t1 rfl) rfl (Zl 0 rfl rfl)) (Xi fn93 rfl rfl (fun w _ => isName_any _ w hnm.2) ?_)
 refine Za rfl (Zg rfl) (Ze (Zc (Zf (Zf (Zb ?_)))))
 refine Za rfl (Zd rfl) (Za rfl (Ex_not rfl) (Za rfl (Zd rfl) (Yr rfl rfl rfl ?_ ?_)))
 ·intro h1
  try (first | replace h1 := dTr h1 | replace h1 := Zk h1)
  refine Zp rfl rfl rfl (Zp rfl rfl rfl (Za rfl (Zt rfl rfl) (Za rfl (Zd rfl) (Zp rfl rfl rfl (Zp rfl rfl rfl ?_)))))
  refine Zp rfl rfl rfl (Zp rfl rfl rfl (Za rfl (Zt rfl rfl) (Za rfl (Zd rfl) (Zp rfl rfl rfl (Zp rfl rfl rfl ?_)))))
  refine Zp rfl rfl rfl (Zp rfl rfl rfl (Za rfl (Zt rfl rfl) (Ze (Zc (Xq rfl ?_)))))
  have hF := cls_head (c := c) (by first | (simp_all [clHead]; done) | (simp_all [clHead]; omega))
  refine Zf (Zb (Za rfl (Zg rfl) (Ze (Zc (Zv ?_)))))
  refine Zq (Yh rfl rfl ?_)
  first | exact congrArg Value.bool hF.symm | exact congrArg Value.bool (cls_yes hHd hFd hMe).symm
 ·intro h1
  try (first | replace h1 := dFa h1 | replace h1 := Zi h1)
  refine Zo rfl rfl rfl (Zd rfl) (Zo rfl rfl rfl (Ex_not rfl) (Za rfl (Zz rfl rfl) (Za rfl (Zd rfl) (Yr rfl rfl rfl ?_ ?_))))
  ·intro h2
   try (first | replace h2 := dTr h2 | replace h2 := Zk h2)
   refine Zp rfl rfl rfl (Zp rfl rfl rfl (Zp rfl rfl rfl (Zp rfl rfl rfl (Za rfl (Zt rfl rfl) (Za rfl (Zd rfl) ?_)))))
   refine Zp rfl rfl rfl (Zp rfl rfl rfl (Zp rfl rfl rfl (Zp rfl rfl rfl (Za rfl (Zt rfl rfl) (Ze ?_)))))
   refine Zc (Xq rfl ?_)
   have hF := cls_head (c := c) (by first | (simp_all [clHead]; done) | (simp_all [clHead]; omega))
   refine Zf (Zb (Za rfl (Zg rfl) (Ze (Zc (Zv ?_)))))
   refine Zq (Yh rfl rfl ?_)
   first | exact congrArg Value.bool hF.symm | exact congrArg Value.bool (cls_yes hHd hFd hMe).symm
  ·intro h2
   try (first | replace h2 := dFa h2 | replace h2 := Zi h2)
   refine Zo rfl rfl rfl (Zh (ff rfl) rfl) (Zo rfl rfl rfl (Zj (t1 rfl) rfl (Zl 0 rfl rfl)) (Zo rfl rfl rfl (Yg (ts rfl) rfl) (Zo rfl rfl rfl (Ex_gtr rfl rfl) (Za rfl (Zz rfl rfl) (Za rfl (Zd rfl) ?_)))))
   refine Yr rfl rfl rfl ?_ ?_
   ·intro h3
    try (first | replace h3 := dTr h3 | replace h3 := Zk h3)
    refine Zp rfl rfl rfl (Zp rfl rfl rfl (Zp rfl rfl rfl (Zp rfl rfl rfl (Za rfl (Zt rfl rfl) (Ze ?_)))))
    refine Zc (Xq rfl ?_)
    have hF := cls_head (c := c) (by first | (simp_all [clHead]; done) | (simp_all [clHead]; omega))
    refine Zf (Zb (Za rfl (Zg rfl) (Ze (Zc (Zv ?_)))))
    refine Zq (Yh rfl rfl ?_)
    first | exact congrArg Value.bool hF.symm | exact congrArg Value.bool (cls_yes hHd hFd hMe).symm
   ·intro h3
    try (first | replace h3 := dFa h3 | replace h3 := Zi h3)
    refine Zo rfl rfl rfl (Zh (ff rfl) rfl) (Zo rfl rfl rfl (Zj (t1 rfl) rfl (Zl 0 rfl rfl)) (Zo rfl rfl rfl (Yg (ts rfl) rfl) (Zo rfl rfl rfl (Ex_gtr rfl rfl) (Za rfl (Zz rfl rfl) (Ze ?_)))))
    refine Zc (Yi rfl ?_ ?_)
    ·intro c1
     try (first | replace c1 := dTr c1 | replace c1 := Zk c1)
     have hF := cls_head (c := c) (by first | (simp_all [clHead]; done) | (simp_all [clHead]; omega))
     refine Zf (Zb (Za rfl (Zg rfl) (Ze (Zc (Zv ?_)))))
     refine Zq (Yh rfl rfl ?_)
     first | exact congrArg Value.bool hF.symm | exact congrArg Value.bool (cls_yes hHd hFd hMe).symm
    ·intro c1
     try (first | replace c1 := dFa c1 | replace c1 := Zi c1)
     have hHd : clHead c = true := by first | (simp_all [clHead]; done) | (simp_all [clHead]; omega)
     refine Zw (Zc (Zf (Zf (Zb (Za rfl (Zg rfl) ?_)))))
     refine Ze (Zc (Zs (Xh (E' := (fun i : Nat => [(1, .pointer (some ⟨b0, 0, none⟩)), (5, .int .i64 (i : Nat))]) (0)) ⟨rfl, rfl, trivial⟩ (Yy (X := Nat) (fun i : Nat => [(1, .pointer (some ⟨b0, 0, none⟩)), (5, .int .i64 (i : Nat))]) _ _ (fun i : Nat => [(b0, clV c (.slice p1 c.fields.length e1) (.slice p2 c.methods.length e2))]) (fun i : Nat => Asr.none) (fun i : Nat => i ≤ c.fields.length ∧ (List.range i).all (fdAt c.fields) = true) (fun i : Nat => c.fields.length - i) (0) (⟨Nat.zero_le _, rfl⟩) ?_))))
     intro i hI
     refine Zf (Zf (Zb (Za rfl (Zd rfl) (Za rfl (Zh (ff rfl) rfl) (Za rfl (Zj (t1 rfl) rfl (Zl 0 rfl rfl)) ?_)))))
     refine Za rfl (Yg (ts rfl) rfl) (Za rfl (Xb rfl rfl) (Ze (Zc (Yi rfl ?_ ?_))))
     ·intro c2
      try (first | replace c2 := dTr c2 | replace c2 := Zk c2)
      have hi : i < c.fields.length := by omega
      obtain ⟨b, o, r, hp, hb, ⟨hr, hfo⟩, hc⟩ := hr1.out i c.fields[i] (List.getElem?_eq_getElem hi)
      subst hp; subst hr
      refine Zw (Zc (Zf (Zs (Zf (Zb ?_)))))
      refine Za rfl (Zh (ff rfl) rfl) (Za rfl (Zj (t1 rfl) rfl (Zl 0 rfl rfl)) (Za rfl (Zd rfl) (Za rfl (Xk (ts rfl) rfl rfl ?_) ?_)))
      ·omega
      refine Za rfl (Zh (ff rfl) rfl) (Za rfl (Zj (t1 rfl) rfl (Zn (hc 0 _ rfl) hb)) (Xi fn93 rfl rfl (fun w _ => isName_any _ w hfo.1) ?_))
      refine Za rfl (Zg rfl) (Ze (Zc (Zf (Zb (Za rfl (Zh (ff rfl) rfl) ?_)))))
      refine Za rfl (Zj (t1 rfl) rfl (Zl 0 rfl rfl)) (Za rfl (Zd rfl) (Za rfl (Xk (ts rfl) rfl rfl ?_) ?_))
      ·omega
      refine Za rfl (Zh (ff rfl) rfl) (Za rfl (Ym (tn rfl) rfl (Yt (sub_row hc 2 2) hb) rfl) (Xi fn94 rfl rfl (fun w _ => isType_any _ _ _ w hfo.2) ?_))
      refine Za rfl (Zg rfl) (Ze (Zc (Zf (Zf (Zb ?_)))))
      refine Za rfl (Zd rfl) (Za rfl (Ex_not rfl) (Za rfl (Zd rfl) (Yr rfl rfl rfl ?_ ?_)))
      ·intro h4
       try (first | replace h4 := dTr h4 | replace h4 := Zk h4)
       refine Zp rfl rfl rfl (Zp rfl rfl rfl (Za rfl (Zt rfl rfl) (Ze (Zc (Xq rfl ?_)))))
       have hF := cls_fds (range_no hi (by rw [fdAt_some hi]; simp_all))
       refine Zf (Zb (Za rfl (Zg rfl) (Ze (Zc (Zv ?_)))))
       refine Zq (Zq (Zq (Zq (Zq (Zq ?_)))))
       refine Yh rfl rfl ?_
       first | exact congrArg Value.bool hF.symm | exact congrArg Value.bool (cls_yes hHd hFd hMe).symm
      ·intro h4
       try (first | replace h4 := dFa h4 | replace h4 := Zi h4)
       refine Zo rfl rfl rfl (Zd rfl) (Zo rfl rfl rfl (Ex_not rfl) (Za rfl (Zz rfl rfl) (Ze (Zc (Yi rfl ?_ ?_)))))
       ·intro c3
        try (first | replace c3 := dTr c3 | replace c3 := Zk c3)
        have hF := cls_fds (range_no hi (by rw [fdAt_some hi]; simp_all))
        refine Zf (Zb (Za rfl (Zg rfl) (Ze (Zc (Zv ?_)))))
        refine Zq (Zq (Zq (Zq (Zq (Zq ?_)))))
        refine Yh rfl rfl ?_
        first | exact congrArg Value.bool hF.symm | exact congrArg Value.bool (cls_yes hHd hFd hMe).symm
       ·intro c3
        try (first | replace c3 := dFa c3 | replace c3 := Zi c3)
        refine Zw (Zc (Zf (Zb (Za rfl (Zg rfl) (Ze ?_)))))
        refine Zc (Zs ?_)
        have hO := hI
        refine Xh (E' := (fun k : Nat => [(1, .pointer (some ⟨b0, 0, none⟩)), (5, .int .i64 (i : Nat)), (6, .bool (isNameB c.fields[i].name)), (7, .bool (isTypeB c.fields[i].ty false false)), (8, .int .i64 (k : Nat))]) (0)) ⟨rfl, rfl, rfl, rfl, rfl, trivial⟩ (Yy (X := Nat) (fun k : Nat => [(1, .pointer (some ⟨b0, 0, none⟩)), (5, .int .i64 (i : Nat)), (6, .bool (isNameB c.fields[i].name)), (7, .bool (isTypeB c.fields[i].ty false false)), (8, .int .i64 (k : Nat))]) _ _ (fun k : Nat => [(b0, clV c (.slice (some ⟨b, o, none⟩) c.fields.length e1) (.slice p2 c.methods.length e2))]) (fun k : Nat => Asr.none) (fun k : Nat => k ≤ i ∧ (List.range k).all (fdNe c.fields i) = true) (fun k : Nat => i - k) (0) (⟨Nat.zero_le _, rfl⟩) ?_)
        intro k hI
        refine Zf (Zf (Zb (Za rfl (Zd rfl) (Za rfl (Zd rfl) (Za rfl (Xb rfl rfl) ?_)))))
        refine Ze (Zc (Yi rfl ?_ ?_))
        ·intro c4
         try (first | replace c4 := dTr c4 | replace c4 := Zk c4)
         have hki : k < i := by omega
         have hk : k < c.fields.length := by omega
         obtain ⟨b', o', r', hp', hb', ⟨hr', -⟩, hc'⟩ := hr1.out k c.fields[k] (List.getElem?_eq_getElem hk)
         cases hp'; subst hr'
         refine Zw (Zc (Zf (Zs (Zf (WC_draw mixed (by kernel_rfl) ?_)))))
         refine Zm rfl (Zh (ff rfl) rfl) (Zm rfl (Zj (t1 rfl) rfl (Zl 0 rfl rfl)) (Zm rfl (Zd rfl) (Zm rfl (Xk (ts rfl) rfl rfl ?_) ?_)))
         ·omega
         refine Zm rfl (Zh (ff rfl) rfl) ?_
         (first | refine Zm rfl (Zj (t1 rfl) rfl (Zn (hc' 0 _ rfl) hb')) ?_ | refine Zm rfl (Zj (t1 rfl) rfl (Zn (hc 0 _ rfl) hb)) ?_)
         refine Zm rfl (Zh (ff rfl) rfl) (Zm rfl (Zj (t1 rfl) rfl (Zl 0 rfl rfl)) (Zm rfl (Zd rfl) (Zm rfl (Xk (ts rfl) rfl rfl ?_) ?_)))
         ·omega
         refine Zm rfl (Zh (ff rfl) rfl) ?_
         (first | refine Zm rfl (Zj (t1 rfl) rfl (Zn (hc' 0 _ rfl) hb')) ?_ | refine Zm rfl (Zj (t1 rfl) rfl (Zn (hc 0 _ rfl) hb)) ?_)
         refine Zm rfl (Ex_eqlS rfl rfl) (WO_nil (Zc (Yi rfl ?_ ?_)))
         ·intro c5
          try (first | replace c5 := dTr c5 | replace c5 := Zk c5)
          have hF := cls_fds (range_no hi (by rw [fdAt_some hi, show fdNew c.fields i = false from range_no hki (by rw [fdNe_some hi hk]; simp_all)]; simp))
          refine Zf (Zb (Za rfl (Zg rfl) (Ze (Zc (Zv ?_)))))
          refine Zq (Zq (Zq (Zq (Zq (Zq ?_)))))
          refine Zq (Zq (Zq (Yh rfl rfl ?_)))
          first | exact congrArg Value.bool hF.symm | exact congrArg Value.bool (cls_yes hHd hFd hMe).symm
         ·intro c5
          try (first | replace c5 := dFa c5 | replace c5 := Zi c5)
          refine Zw (Zx (Zc (Zb (Za rfl (Zd rfl) ?_))))
          (first | (refine Za rfl (Xa rfl rfl ?_) ?_; omega) | (refine Za rfl (Yp rfl rfl ?_) ?_; omega) | refine Za rfl (Yz rfl rfl) ?_)
          refine Za rfl (Zg rfl) (Ze ?_)
          refine Yn (k + 1) ?_ (⟨by omega, range_snoc hI.2 (by rw [fdNe_some hi hk]; simp_all)⟩) 0 rfl (rfl) ⟨rfl, rfl, rfl, rfl, rfl, trivial⟩
          omega
        ·intro c4
         try (first | replace c4 := dFa c4 | replace c4 := Zi c4)
         have hN : fdNew c.fields i = true := range_end hI.1 (by omega) hI.2
         have hA : fdAt c.fields i = true := by rw [fdAt_some hi, hN]; simp_all
         refine Yx (Yw (Yo (Yv (Zx (Zc ?_)))))
         refine Zb (Za rfl (Zd rfl) ?_)
         (first | (refine Za rfl (Xa rfl rfl ?_) ?_; omega) | (refine Za rfl (Yp rfl rfl ?_) ?_; omega) | refine Za rfl (Yz rfl rfl) ?_)
         refine Za rfl (Zg rfl) (Ze ?_)
         refine Yn (i + 1) ?_ (⟨by omega, range_snoc hO.2 hA⟩) 0 rfl (rfl) ⟨rfl, rfl, trivial⟩
         omega
     ·intro c2
      try (first | replace c2 := dFa c2 | replace c2 := Zi c2)
      have hFd := range_end hI.1 (by omega) hI.2
      refine Yx (Yw (Yo (Yv (Zc (Zf ?_)))))
      refine Zf (Zb (Za rfl (Zg rfl) (Ze (Zc (Zs ?_)))))
      refine Xh (E' := (fun i : Nat => [(1, .pointer (some ⟨b0, 0, none⟩)), (9, .int .i64 (i : Nat))]) (0)) ⟨rfl, rfl, trivial⟩ (Yy (X := Nat) (fun i : Nat => [(1, .pointer (some ⟨b0, 0, none⟩)), (9, .int .i64 (i : Nat))]) _ _ (fun i : Nat => [(b0, clV c (.slice p1 c.fields.length e1) (.slice p2 c.methods.length e2))]) (fun i : Nat => Asr.none) (fun i : Nat => i ≤ c.methods.length ∧ (List.range i).all (meAt c.methods) = true) (fun i : Nat => c.methods.length - i) (0) (⟨Nat.zero_le _, rfl⟩) ?_)
      intro i hI
      refine Zf (Zf (Zb (Za rfl (Zd rfl) (Za rfl (Zh (ff rfl) rfl) (Za rfl (Zj (t1 rfl) rfl (Zl 0 rfl rfl)) ?_)))))
      refine Za rfl (Yg (ts rfl) rfl) (Za rfl (Xb rfl rfl) (Ze (Zc (Yi rfl ?_ ?_))))
      ·intro c6
       try (first | replace c6 := dTr c6 | replace c6 := Zk c6)
       have hi : i < c.methods.length := by omega
       obtain ⟨b, o, r, hp, hb, ⟨pv, cv, hv, fv, hr, hmp⟩, hc⟩ := hr2.out i c.methods[i] (List.getElem?_eq_getElem hi)
       subst hp; subst hr
       refine Zw (Zc (Zf (Zs (Zf (Zb ?_)))))
       refine Za rfl (Zh (ff rfl) rfl) (Za rfl (Zj (t1 rfl) rfl (Zl 0 rfl rfl)) (Za rfl (Zd rfl) (Za rfl (Xk (ts rfl) rfl rfl ?_) ?_)))
       ·omega
       refine Za rfl (Ym (tn rfl) rfl (Yt hc hb) rfl) (Xi fn95 rfl rfl (fun w hs => isMethod_any _ _ _ _ _ w (hmp.mono (lowOf hs))) ?_)
       refine Za rfl (Zg rfl) (Ze (Zc (Zf (Zf (Zb ?_)))))
       refine Za rfl (Zd rfl) (Za rfl (Ex_not rfl) (Ze (Zc (Yi rfl ?_ ?_))))
       ·intro c7
        try (first | replace c7 := dTr c7 | replace c7 := Zk c7)
        have hF := cls_mes (range_no hi (by rw [meAt_some hi]; simp_all))
        refine Zf (Zb (Za rfl (Zg rfl) (Ze (Zc (Zv ?_)))))
        refine Zq (Zq (Zq (Zq (Zq (Zq ?_)))))
        refine Yh rfl rfl ?_
        first | exact congrArg Value.bool hF.symm | exact congrArg Value.bool (cls_yes hHd hFd hMe).symm
       ·intro c7
        try (first | replace c7 := dFa c7 | replace c7 := Zi c7)
        have hmb : isMethodB c.methods[i] = true := by simp_all
        have hsm := isMethodB_small hmb
        have hsg := isMethodB_sig hmb
        refine Zw (Zc (Zf (Zb (Za rfl (Zg rfl) (Ze ?_)))))
        refine Zc (Zs ?_)
        have hO := hI
        refine Xh (E' := (fun k : Nat => [(1, .pointer (some ⟨b0, 0, none⟩)), (9, .int .i64 (i : Nat)), (11, .int .i64 (k : Nat))]) (0)) ⟨rfl, rfl, rfl, trivial⟩ (Yy (X := Nat) (fun k : Nat => [(1, .pointer (some ⟨b0, 0, none⟩)), (9, .int .i64 (i : Nat)), (11, .int .i64 (k : Nat))]) _ _ (fun k : Nat => [(b0, clV c (.slice p1 c.fields.length e1) (.slice (some ⟨b, o, none⟩) c.methods.length e2))]) (fun k : Nat => Asr.none) (fun k : Nat => k ≤ i ∧ (List.range k).all (meNe c.methods i) = true) (fun k : Nat => i - k) (0) (⟨Nat.zero_le _, rfl⟩) ?_)
        intro k hI
        refine Zf (Zf (Zb (Za rfl (Zd rfl) (Za rfl (Zd rfl) (Za rfl (Xb rfl rfl) ?_)))))
        refine Ze (Zc (Yi rfl ?_ ?_))
        ·intro c8
         try (first | replace c8 := dTr c8 | replace c8 := Zk c8)
         have hki : k < i := by omega
         have hk : k < c.methods.length := by omega
         obtain ⟨b', o', r', hp', hb', ⟨pv', cv', hv', fv', hr', hmp'⟩, hc'⟩ := hr2.out k c.methods[k] (List.getElem?_eq_getElem hk)
         cases hp'; subst hr'
         have hmb' : isMethodB c.methods[k] = true := by have h9 := List.all_eq_true.1 hO.2 k (List.mem_range.2 hki); rw [meAt_some hk, Bool.and_eq_true] at h9; exact h9.1
         have hsm' := isMethodB_small hmb'
         have hsg' := isMethodB_sig hmb'
         refine Zw (Zc (Zf (Zs (Zf (WC_draw mixed (by kernel_rfl) ?_)))))
         refine Zm rfl (Zh (ff rfl) rfl) (Zm rfl (Zj (t1 rfl) rfl (Zl 0 rfl rfl)) (Zm rfl (Zd rfl) (Zm rfl (Xk (ts rfl) rfl rfl ?_) ?_)))
         ·omega
         refine Zm rfl (Zh (ff rfl) rfl) ?_
         (first | refine Zm rfl (Zj (t1 rfl) rfl (Zn (hc' 0 _ rfl) hb')) ?_ | refine Zm rfl (Zj (t1 rfl) rfl (Zn (hc' 2 _ rfl) hb')) ?_ | refine Zm rfl (Zj (t1 rfl) rfl (Yt (sub_row hc' 3 2) hb')) ?_)
         refine Zm rfl (Zh (ff rfl) rfl) (Zm rfl (Zj (t1 rfl) rfl (Zl 0 rfl rfl)) (Zm rfl (Zd rfl) (Zm rfl (Xk (ts rfl) rfl rfl ?_) ?_)))
         ·omega
         refine Zm rfl (Zh (ff rfl) rfl) ?_
         (first | refine Zm rfl (Zj (t1 rfl) rfl (Zn (hc' 0 _ rfl) hb')) ?_ | refine Zm rfl (Zj (t1 rfl) rfl (Zn (hc' 2 _ rfl) hb')) ?_ | refine Zm rfl (Zj (t1 rfl) rfl (Yt (sub_row hc' 3 2) hb')) ?_)
         refine Zm rfl (Zh (ff rfl) rfl) (Zm rfl (Zj (t1 rfl) rfl (Zl 0 rfl rfl)) (Zm rfl (Zd rfl) (Zm rfl (Xk (ts rfl) rfl rfl ?_) ?_)))
         ·omega
         refine Zm rfl (Zh (ff rfl) rfl) ?_
         (first | refine Zm rfl (Ym (tn rfl) rfl (Zn (hc' 0 _ rfl) hb') rfl) ?_ | refine Zm rfl (Ym (tn rfl) rfl (Zn (hc' 2 _ rfl) hb') rfl) ?_ | refine Zm rfl (Ym (tn rfl) rfl (Yt (sub_row hc' 3 2) hb') rfl) ?_)
         refine WO_call fn96 rfl rfl (fun w hs => sign_any _ _ w (hmp'.ps.mono (lowOf hs)) (fun t ht => ⟨hsm'.pt t ht, (hsg'.ps t ht).lo, (hsg'.ps t ht).hi⟩) ⟨hsm'.rt, hsg'.rs.lo, hsg'.rs.hi⟩ hsm'.nm hmp'.ok.2.1) ?_
         refine Zm rfl (Zg rfl) (WO_nil (Zc (Zf (WC_draw mixed (by kernel_rfl) ?_))))
         refine Zm rfl (Zh (ff rfl) rfl) (Zm rfl (Zj (t1 rfl) rfl (Zl 0 rfl rfl)) (Zm rfl (Zd rfl) (Zm rfl (Xk (ts rfl) rfl rfl ?_) ?_)))
         ·omega
         refine Zm rfl (Zh (ff rfl) rfl) ?_
         (first | refine Zm rfl (Zj (t1 rfl) rfl (Zn (hc 0 _ rfl) hb)) ?_ | refine Zm rfl (Zj (t1 rfl) rfl (Zn (hc 2 _ rfl) hb)) ?_ | refine Zm rfl (Zj (t1 rfl) rfl (Yt (sub_row hc 3 2) hb)) ?_)
         refine Zm rfl (Zh (ff rfl) rfl) (Zm rfl (Zj (t1 rfl) rfl (Zl 0 rfl rfl)) (Zm rfl (Zd rfl) (Zm rfl (Xk (ts rfl) rfl rfl ?_) ?_)))
         ·omega
         refine Zm rfl (Zh (ff rfl) rfl) ?_
         (first | refine Zm rfl (Zj (t1 rfl) rfl (Zn (hc 0 _ rfl) hb)) ?_ | refine Zm rfl (Zj (t1 rfl) rfl (Zn (hc 2 _ rfl) hb)) ?_ | refine Zm rfl (Zj (t1 rfl) rfl (Yt (sub_row hc 3 2) hb)) ?_)
         refine Zm rfl (Zh (ff rfl) rfl) (Zm rfl (Zj (t1 rfl) rfl (Zl 0 rfl rfl)) (Zm rfl (Zd rfl) (Zm rfl (Xk (ts rfl) rfl rfl ?_) ?_)))
         ·omega
         refine Zm rfl (Zh (ff rfl) rfl) ?_
         (first | refine Zm rfl (Ym (tn rfl) rfl (Zn (hc 0 _ rfl) hb) rfl) ?_ | refine Zm rfl (Ym (tn rfl) rfl (Zn (hc 2 _ rfl) hb) rfl) ?_ | refine Zm rfl (Ym (tn rfl) rfl (Yt (sub_row hc 3 2) hb) rfl) ?_)
         refine WO_call fn96 rfl rfl (fun w hs => sign_any _ _ w (hmp.ps.mono (lowOf hs)) (fun t ht => ⟨hsm.pt t ht, (hsg.ps t ht).lo, (hsg.ps t ht).hi⟩) ⟨hsm.rt, hsg.rs.lo, hsg.rs.hi⟩ hsm.nm hmp.ok.2.1) ?_
         refine Zm rfl (Zg rfl) (WO_nil (Zc (Zf (Zb (Za rfl (Zd rfl) ?_)))))
         refine Za rfl (Zd rfl) (Za rfl (Ex_eqlS rfl rfl) (Ze (Zc (Yi rfl ?_ ?_))))
         ·intro c9
          try (first | replace c9 := dTr c9 | replace c9 := Zk c9)
          have hsame := sign_eq hsg' hsg
          have hF := cls_mes (range_no hi (by rw [meAt_some hi, show meNew c.methods i = false from range_no hki (by rw [meNe_some hi hk, ← hsame]; simp [eqS, c9])]; simp))
          refine Zf (Zb (Za rfl (Zg rfl) (Ze (Zc (Zv ?_)))))
          refine Zq (Zq (Zq (Zq (Zq (Zq ?_)))))
          refine Zq (Zq (Zq (Yh rfl rfl ?_)))
          first | exact congrArg Value.bool hF.symm | exact congrArg Value.bool (cls_yes hHd hFd hMe).symm
         ·intro c9
          try (first | replace c9 := dFa c9 | replace c9 := Zi c9)
          have hsame := sign_eq hsg' hsg
          refine Zw (Zx (Zc (Zb (Za rfl (Zd rfl) ?_))))
          (first | (refine Za rfl (Xa rfl rfl ?_) ?_; omega) | (refine Za rfl (Yp rfl rfl ?_) ?_; omega) | refine Za rfl (Yz rfl rfl) ?_)
          refine Za rfl (Zg rfl) (Ze ?_)
          refine Yn (k + 1) ?_ (⟨by omega, range_snoc hI.2 (by rw [meNe_some hi hk, ← hsame]; simp [eqS, c9])⟩) 0 rfl (rfl) ⟨rfl, rfl, rfl, trivial⟩
          omega
        ·intro c8
         try (first | replace c8 := dFa c8 | replace c8 := Zi c8)
         have hN : meNew c.methods i = true := range_end hI.1 (by omega) hI.2
         have hA : meAt c.methods i = true := by rw [meAt_some hi, hN, hmb]; rfl
         refine Yx (Yw (Yo (Yv (Zx (Zc ?_)))))
         refine Zb (Za rfl (Zd rfl) ?_)
         (first | (refine Za rfl (Xa rfl rfl ?_) ?_; omega) | (refine Za rfl (Yp rfl rfl ?_) ?_; omega) | refine Za rfl (Yz rfl rfl) ?_)
         refine Za rfl (Zg rfl) (Ze ?_)
         refine Yn (i + 1) ?_ (⟨by omega, range_snoc hO.2 hA⟩) 0 rfl (rfl) ⟨rfl, rfl, trivial⟩
         omega
      ·intro c6
       try (first | replace c6 := dFa c6 | replace c6 := Zi c6)
       have hMe := range_end hI.1 (by omega) hI.2
       refine Yx (Yw (Yo (Yv (Zc (Zf ?_)))))
       refine Zb (Za rfl (Zg rfl) (Ze (Zc (Zv (Yh rfl rfl ?_)))))
       first | exact congrArg Value.bool hF.symm | exact congrArg Value.bool (cls_yes hHd hFd hMe).symm
end Go.Proofs.YtpofmnfkdkmieaaGreat
