/- What is proved here: the program's reader (package wire): lists of all sorts, instructions, handlers, frames, fields, methods. rules for methods that own their receiver's block and more, and read old memory; for a list that is copied. -/
import Derived.Test.YtpofmnfkdkmieaaGreatQ19
import Derived.Test.YtpofmnfkdkmieaaGreatQ17
import Derived.Test.YtpofmnfkdkmieaaGreatQ22
set_option linter.unusedVariables false
set_option linter.unusedSimpArgs false
namespace Go.Proofs.YtpofmnfkdkmieaaGreat
open Go.RowKit At E
section
variable {P : Program} {n : Nat} {E : Env} {w0 : World} {F : List Nat} {H : Hp} {R : Asr} {fn : Func} {Z : Ending → World → Prop} {κ : List Kf}
/-- A call of a method value. -/
theorem WL_callRV {all : Array Oper} {l : List Oper} {d f b : Nat} {g : Operand} {pv : Value} {ts : Array TypeId} {t : TypeId} {p : String} {e : Array Edge} {cs : List Value} {u : World} {ok : Value → List Value → Asr → Prop} {may : Prop} (hf : IsFn P f)
  (hd : Nat.blt d n = true) (hg : ev E g = some (.func (.func f) #[pv] #[])) (i : Nat) (hp : H[i]? = some (b, cs)) (hu : Below u.heap.size u w0) (hF : ∀ x ∈ F, u.heap.size ≤ x) (hc : RcP P f #[pv] u b cs ok may)
  (hn : may → WD P n E u fn Z κ)
  (h : ∀ v cs' R', ok v cs' R' → WL P n all l ((d, v) :: E) w0 F (H.set i (b, cs')) (R'.and R) fn Z κ) :
  WL P n all (⟨some d, .call ⟨.value g, #[], ts⟩, t, p, e, none⟩ :: l) E w0 F H R fn Z κ :=
 ⟨fun w hs a ha => wpList_plain rfl fun K hK => by
  unfold Oper.wp; rw [run_callV rfl (ha.eval hg) hf]
  refine Calls.mono (P := P) (f := f) (by have := hc w (rc_now hu hF hs hp); simpa using this) ?_
  rintro e w' (⟨v, cs', R', rfl, hok, hw⟩ | ⟨hm, rfl, hb⟩)
  ·exact hK _ _ ((h v cs' R' hok).go w' (rc_then hs hp hw) _ (ha.put hd _))
  ·exact (hn hm).go w' hb _ ha⟩
end
def listP {α : Type} (most : Nat) (p : Ps α) (n : Nat) : Ps (List α) := if (true && decide (most < n)) = true then pNo else pMany p n
theorem listP_no {α : Type} {most n : Nat} {p : Ps α} {r : List UInt8} (h : most < n) : listP most p n r = none := by unfold listP; rw [if_pos (by simp [h])]; rfl
theorem listP_ok {α : Type} {most n : Nat} {p : Ps α} (h : ¬ most < n) : listP most p n = pFrom p [] n := by unfold listP; rw [if_neg (by simp [h]), pMany_from]
/-- An element that was read. -/
def repE {α β : Type} (fst : β → α) (cell : β → List Value) (asr : β → Asr) (ok : β → Prop) : α → Value → Asr → Prop := fun x v R' => ∃ y, fst y = x ∧ v = .agg (cell y).toArray ∧ R'.Imp (asr y) ∧ ok y
def repL {α β : Type} (e k : Nat) (fst : β → α) (cell : β → List Value) (asr : β → Asr) (ok : β → Prop) : List α → Value → Asr → Prop := fun l v R' =>
 ∃ ls : List β, ls.map fst = l ∧ R'.Imp ((ownA e k v ls.length (ls.flatMap cell)).and (bigA (ls.map asr))) ∧ ls.length ≤ 65535 ∧ ∀ y ∈ ls, ok y
theorem RdP.mono {α : Type} {f : FuncId} {args : Array Value} {u : World} {b : Nat} {p : Ps α} {rep rep' : α → Value → Asr → Prop} (h : RdP f args u b p rep) (k : ∀ x v R', rep x v R' → rep' x v R') : RdP f args u b p rep' := by
 intro r hrl w h0
 refine Calls.mono (h r hrl w h0) ?_
 rintro e w' (⟨v, cs', R', rfl, ⟨x, r1, hp, rfl, hr1, hrep⟩, hw⟩ | ⟨hm, rfl, hb⟩)
 ·exact .inl ⟨_, _, _, rfl, ⟨x, r1, hp, rfl, hr1, k _ _ _ hrep⟩, hw⟩
 ·exact .inr ⟨hm, rfl, hb⟩
structure RdL (β : Type) where
 r : List UInt8
 v : Value
 l : List β
def noA {α : Type} (_ : α) : Asr := Asr.none
theorem noA_drop {α : Type} : ∀ (A : Asr) (ls : List α), (A.and (bigA (ls.map noA))).Imp A := fun A _ => Asr.fst _ _
abbrev InsR := Ins × Value
abbrev FrR := Fr × Value × Value
abbrev MeR := Me × MeM
def fIns (p : InsR) : Ins := p.1
def fFr (p : FrR) : Fr := p.1
def fMe (p : MeR) : Me := p.1
def fId {α : Type} (x : α) : α := x
theorem one_Type (t : Ty) (w : World) (_ : (noA t).A w) : (tyV t).all (·.oneCell') = true := rfl
theorem one_Field (t : Fld) (w : World) (_ : (noA t).A w) : (fdV t).all (·.oneCell') = true := rfl
theorem one_Handler (t : Hd) (w : World) (_ : (noA t).A w) : (hdV t).all (·.oneCell') = true := rfl
theorem one_Instr (t : InsR) (w : World) (h : (insA t).A w) : (insC t).all (·.oneCell') = true := by
 have h1 : t.2.oneCell' = true := own_one h
 simp only [insC, insV, List.all_cons, List.all_nil, h1]; rfl
theorem one_Frame (t : FrR) (w : World) (h : (frA t).A w) : (frC t).all (·.oneCell') = true := by
 have h1 : t.2.1.oneCell' = true := own_one h.1
 have h2 : t.2.2.oneCell' = true := own_one h.2.1
 simp only [frC, frV, List.all_cons, List.all_nil, h1, h2]; rfl
theorem one_Method (t : MeR) (w : World) (h : (meA t).A w) : (meC t).all (·.oneCell') = true := by
 have h1 : t.2.pv.oneCell' = true := own_one h.1
 have h2 : t.2.cv.oneCell' = true := own_one h.2.1.1.1
 have h3 : t.2.hv.oneCell' = true := own_one h.2.1.2.1.1
 have h4 : t.2.fv.oneCell' = true := own_one h.2.1.2.1.2.1.1
 simp only [meC, meV, List.all_cons, List.all_nil, h1, h2, h3, h4]; rfl
def okIns (p : InsR) : Prop := insOk p.1 ∧ tysOk p.1.ref.params
def okFr (p : FrR) : Prop := frOk p.1
theorem rd_nno {α β : Type} {P : Ps β} {p : Ps α} {K : List α → Ps β} {k most : Nat} {r r1 : List UInt8} (h : Wa (some r) P (some r1) (pThen (pList true k most p) K)) (hm : pNum k r1 = none) : P r = none :=
 rd_no h (by unfold pList pThen; rw [hm])
theorem rd_lno {α β : Type} {P : Ps β} {p : Ps α} {K : List α → Ps β} {k most n : Nat} {r r1 r2 : List UInt8} (h : Wa (some r) P (some r1) (pThen (pList true k most p) K)) (hp : pNum k r1 = some (n, r2)) (hm : listP most p n r2 = none) : P r = none :=
 rd_no h (by unfold pList pThen; rw [hp]; exact hm)
theorem rd_lnext {α β : Type} {P : Ps β} {p : Ps α} {K : List α → Ps β} {k most n : Nat} {r r1 r2 r3 : List UInt8} {l : List α} (h : Wa (some r) P (some r1) (pThen (pList true k most p) K)) (hp : pNum k r1 = some (n, r2)) (hm : listP most p n r2 = some (l, r3)) : Wa (some r) P (some r3) (K l) :=
 rd_next h (by unfold pList pThen; rw [hp]; exact hm)
theorem rdListType_any (U : World) (b n most : Nat) (hn : n ≤ 65535) (hE : RdP 182 #[.pointer (some ⟨b, 0, none⟩)] U b (pTy false) (repE fId tyV noA tyOk)) :
  RdP 283 #[.int .i64 (n : Nat), .int .i64 (most : Nat), .func (.func 182) #[.pointer (some ⟨b, 0, none⟩)] #[]] U b (listP most (pTy false) n) (repL 71 2 fId tyV noA tyOk) := by
 intro r hrl w h0
 replace hE : Hid _ := hE
 refine opensF (h0.sat) (args := [.int .i64 (n : Nat), .int .i64 (most : Nat), .func (.func 182) #[.pointer (some ⟨b, 0, none⟩)] #[]]) Tryz.func283 rfl Tryz.ntmps283 ?_
 refine Zf (Zb (Za rfl (Zg rfl) (Ze (Zc (Zf ?_)))))
 refine Zb (Za rfl (Zd rfl) (Za rfl (Zd rfl) (Za rfl (Ex_leq rfl rfl) (Yl fn111 rfl rfl (fun w _ => Xe _ w) ?_ ?_))))
 rotate_left
 ·intro o1
  try (first | replace o1 := dFa o1 | replace o1 := Zi o1)
  refine Ye (WD_of h0.base (Rc_F h0) (WD_end ?_))
  exact listP_no (by omega)
 intro o1
 try (first | replace o1 := dTr o1 | replace o1 := Zk o1)
 have hS : Wa (some r) (listP most (pTy false) n) (some r) (pFrom (pTy false) [] n) := (Wa.first _ _).of (listP_ok (by omega))
 refine Ze (Zc (Zf (Zb (Za rfl (Zg rfl) (Ze ?_)))))
 refine Zc (Zf (Zf (Zb (Za rfl (Zd rfl) (Za rfl (Zd rfl) ?_)))))
 refine Ze (Zc (Zs (WC_own 71 2 (WC_imp (Asr.Imp.right (Asr.noneAdd _)) (Xh (E' := (fun x : RdL Ty => [(2, .func (.func 182) #[.pointer (some ⟨b, 0, none⟩)] #[]), (7, x.v), (12, .int .i64 (n : Nat)), (13, .int .i64 (x.l.length : Nat))]) (⟨r, nilS, []⟩)) ⟨rfl, rfl, rfl, rfl, trivial⟩ (Yy (X := RdL Ty) (fun x : RdL Ty => [(2, .func (.func 182) #[.pointer (some ⟨b, 0, none⟩)] #[]), (7, x.v), (12, .int .i64 (n : Nat)), (13, .int .i64 (x.l.length : Nat))]) _ _ (fun x : RdL Ty => [(b, rdC x.r)]) (fun x : RdL Ty => (ownA 71 2 x.v x.l.length (x.l.flatMap tyV)).and ((bigA (x.l.map noA)).and Asr.none)) (fun x : RdL Ty => (x.l.length ≤ n ∧ x.r.length ≤ r.length) ∧ (∀ y ∈ x.l, tyOk y) ∧ Wa (some r) (listP most (pTy false) n) (some x.r) (pFrom (pTy false) (x.l.map fId) (n - x.l.length))) (fun x : RdL Ty => n - x.l.length) (⟨r, nilS, []⟩) (⟨⟨Nat.zero_le _, Nat.le_refl _⟩, (fun y h => by cases h), hS⟩) ?_))))))
 intro x hI
 obtain ⟨⟨hxn, hxr⟩, hok, hG⟩ := hI
 refine Zf (Zb (Za rfl (Xb rfl rfl) (Ze (Zc (Zf ?_)))))
 refine Yi rfl ?_ ?_
 ·intro c1
  try (first | replace c1 := dTr c1 | replace c1 := Zk c1)
  obtain ⟨m, hm⟩ : ∃ m, n - x.l.length = m + 1 := ⟨n - x.l.length - 1, by omega⟩
  rw [hm, pFrom_succ] at hG
  refine Zw (Zc (Zf (Zs (Zb (Za rfl (Zd rfl) ?_)))))
  refine Za rfl (Zd rfl) (WL_callRV fn182 rfl rfl 0 rfl h0.base (Rc_F h0) (hE.out x.r (by omega)) (fun hm => Xp (Xp (Xp (Xp (Xp (WD_end (rd_no hG hm))))))) ?_)
  rintro v cs' R' ⟨x1, r1, hp, rfl, hr1, y, hy, rfl, hR, hok1⟩
  subst hy
  refine Xm hR.left ?_
  refine Xz (p := (tyV y).all (·.oneCell') = true) (fun w hs => one_Type y w hs.res.1) ?_
  intro hone
  refine Xm (list_push _ _ _ _) (WL_bs rfl (ts rfl) (tz rfl) rfl rfl rfl rfl rfl ?_)
  intro b1 hb1
  refine WL_app rfl (ta rfl) rfl rfl (Yj 0 rfl) rfl hone ?_ ?_ ?_
  ·unfold maxLen; omega
  ·omega
  intro v1
  refine Za rfl (Zg rfl) (Ze (Zx (Zc (Zb ?_))))
  (first | (refine Za rfl (Xa rfl rfl ?_) ?_; omega) | (refine Za rfl (Yp rfl rfl ?_) ?_; omega) | refine Za rfl (Yz rfl rfl) ?_)
  refine Za rfl (Zd rfl) (Ze ?_)
  refine WQ_same (s := 13) (v' := .int .i64 ((x.l ++ [y]).length : Nat)) rfl (by rw [List.length_append]; rfl) ?_
  refine Yn (⟨r1, v1, x.l ++ [y]⟩) ?_ (⟨⟨by show (x.l ++ [y]).length ≤ n; rw [List.length_append]; simp only [List.length_singleton]; omega, by show r1.length ≤ r.length; omega⟩, ok_snoc hok hok1, by show Wa _ _ (some r1) (pFrom (pTy false) ((x.l ++ [y]).map fId) (n - (x.l ++ [y]).length)); rw [List.map_append, List.length_append, show n - (x.l.length + [y].length) = m by simp only [List.length_singleton]; omega]; have h9 := rd_next hG hp; exact h9⟩) 1 rfl (by show (ownA 71 2 _ _ _).and _ = _; rw [List.length_append, List.flatMap_append, List.map_append]; rfl) ⟨rfl, rfl, rfl, rfl, trivial⟩
  show n - (x.l ++ [y]).length < n - x.l.length; rw [List.length_append]; simp only [List.length_singleton]; omega
 ·intro c1
  try (first | replace c1 := dFa c1 | replace c1 := Zi c1)
  refine Yx (Yw (Yo (Yv (Zc (Zf ?_)))))
  refine Zb (Za rfl (Zd rfl) (Za rfl (Zg rfl) (Ze (Zc (Zv ?_)))))
  refine Rc_end1 rfl rfl 0 rfl ?_
  rw [show n - x.l.length = 0 by omega, pFrom_zero] at hG; exact ⟨x.l.map fId, x.r, Xy hG, rfl, hxr, x.l, rfl, Asr.Imp.right (Asr.fst _ _), by omega, hok⟩
theorem map_fId {α : Type} (l : List α) : l.map fId = l := by
 have : (fId : α → α) = id := rfl
 rw [this, List.map_id]
theorem rdTypE (U : World) (b : Nat) : RdP 182 #[.pointer (some ⟨b, 0, none⟩)] U b (pTy false) (repE fId tyV noA tyOk) := (rdTyp_any U b).mono fun t _ _ ⟨h1, h2, h3⟩ => ⟨t, rfl, h1, h3 ▸ Asr.toNone _, h2⟩
theorem rdTypes_any (U : World) (b most : Nat) : RdP 183 #[.pointer (some ⟨b, 0, none⟩), .int .i64 (most : Nat)] U b (pList true 1 most (pTy false)) (fun l v R' => R'.Imp (tysA v l) ∧ tysOk l) := by
 intro r hrl w h0
 have hS := Wa.first (some r) (pList true 1 most (pTy false))
 refine opensF (h0.sat) (args := [.pointer (some ⟨b, 0, none⟩), .int .i64 (most : Nat)]) Tryz.func183 rfl Tryz.ntmps183 ?_
 refine Zf (Zb (Za rfl (Zg rfl) (Ze (Zc (Zf ?_)))))
 refine Zb (Za rfl (Zd rfl) (Yk fn115 rfl rfl 0 rfl h0.base (Rc_F h0) (rdNbyte_any U b r hrl) (fun hm => Xp (WD_end (by first | exact rd_no hS hm | exact hS.trans hm))) ?_))
 rintro v cs' ⟨R', n, r1, hp, rfl, hr1, rfl, hn, -⟩
 replace hS := rd_next hS hp
 rw [toI_small (show n < 9223372036854775808 by omega)]
 refine Za rfl (Zd rfl) (Za rfl (Zd rfl) (Za rfl (Ex_func rfl) (WL_callR fn283 rfl rfl 0 rfl h0.base (Rc_F h0) (rdListType_any U b n most (by omega) (rdTypE U b) r1 (by omega)) (fun hm => Xp (WD_end (by first | exact rd_no hS hm | exact hS.trans hm))) ?_)))
 rintro v cs' R' ⟨l, r2, hp2, rfl, hr2, ls, hls, hR, hll, hlo⟩
 rw [map_fId] at hls; subst hls
 refine Xm (hR.left.trans (Asr.assoc _ _ _)) (Za rfl (Zg rfl) (Ze (Zc (Zv (Rc_end1 rfl rfl 0 rfl ?_)))))
 exact ⟨ls, r2, hS.trans hp2, rfl, by omega, Asr.fst _ _, ⟨by omega, hlo⟩⟩
set_option maxHeartbeats 2000000 in
theorem rdInstr_any (U : World) (b : Nat) : RdP 186 #[.pointer (some ⟨b, 0, none⟩)] U b (pIns false true) (repE fIns insC insA okIns) := by
 intro r hrl w h0
 have hS := Wa.first (some r) (pIns false true)
 refine opensF (h0.sat) (args := [.pointer (some ⟨b, 0, none⟩)]) Tryz.func186 rfl Tryz.ntmps186 ?_
 refine Zf (Zb (Xg rfl (tz rfl) ?_))
 intro b1 hb1
 refine Ze (Zc (Zf (Zb (Za rfl (Zd rfl) (Yk fn115 rfl rfl 1 rfl h0.base (Rc_F h0) (rdByte_any U b r hrl) (fun hm => Xp (WD_end (rd_no hS hm))) ?_)))))
 rintro v cs' ⟨R', op, r1, hp, rfl, hr1, rfl, hop, -, -⟩
 replace hS := rd_next hS hp
 refine Za rfl (Xs (tb rfl) rfl rfl) (Xg rfl (tz rfl) ?_)
 intro b2 hb2
 refine Yd (tn rfl) rfl rfl 0 rfl rfl rfl rfl (Ze (Zc (Zf (Zf (Zb ?_)))))
 refine Za rfl (Zh (ff rfl) rfl) (Za rfl (Zj (t1 rfl) rfl (Zl 0 rfl rfl)) (Xi fn284 rfl rfl (fun w _ => operandOf_any _ w) ?_))
 refine Ze (Zc (Zs (Zf (Zb (Za rfl (Xc rfl rfl) ?_)))))
 refine Za rfl (Zg rfl) (Ze (Zc (Yi rfl ?_ ?_)))
 ·intro c1
  try (first | replace c1 := dTr c1 | replace c1 := Zk c1)
  rw [insP1 ((opd_sort (by omega)).1 c1)] at hS
  refine Zb (Za rfl (Zd rfl) (Yk fn285 rfl rfl 2 rfl h0.base (Rc_F h0) (rdEight_any U b r1 (by omega)) (fun hm => Xp (Xp (WD_end (rd_no hS hm)))) ?_))
  rintro v cs' ⟨R', n, r2, hp2, rfl, hr2, rfl, hn, -, -⟩
  replace hS := rd_next hS hp2
  refine Za rfl (Zh (ff rfl) rfl) (Xd (t1 rfl) rfl rfl 0 rfl rfl rfl rfl (Ze (Zx (Zc (Zf ?_)))))
  refine Zb (Za rfl (Yb (tn rfl) rfl 0 rfl rfl) (Yd (tn rfl) rfl rfl 1 rfl rfl rfl rfl (Ze (Zc (Zv ?_)))))
  refine Rc_endR (Res_1 rfl (Xo (tn rfl) rfl (Yj 1 rfl) rfl)) 2 rfl ?_
  first | exact ⟨⟨op, 0, ⟨c, nm, ps, t⟩⟩, r4, Xy hS, rfl, by omega, (_, _), rfl, rfl, Asr.fst _ _, ⟨hop, Yc, Zr hc, Zr hnm, ht⟩, hps⟩ | exact ⟨⟨op, 0, ⟨c, nm, [], t⟩⟩, r4, Xy hS, rfl, by omega, (_, nilS), rfl, rfl, Zy _, ⟨hop, Yc, Zr hc, Zr hnm, ht⟩, Zu⟩ | exact ⟨⟨op, 0, ⟨c, mt, [], ⟨0, mt⟩⟩⟩, r2, Xy hS, rfl, by omega, (_, nilS), rfl, rfl, Zy _, ⟨hop, Yc, Zr hc, Xt, tyOk_0⟩, Zu⟩ | exact ⟨⟨op, n, rf0⟩, r2, Xy hS, rfl, by omega, (_, nilS), rfl, rfl, Zy _, ⟨hop, hn, Xj⟩, Zu⟩ | exact ⟨⟨op, 0, rf0⟩, r1, Xy hS, rfl, by omega, (_, nilS), rfl, rfl, Zy _, ⟨hop, Yc, Xj⟩, Zu⟩
 ·intro c1
  try (first | replace c1 := dFa c1 | replace c1 := Zi c1)
  refine Zf (Zb (Za rfl (Xc rfl rfl) (Za rfl (Zg rfl) (Ze (Zc ?_)))))
  refine Yi rfl ?_ ?_
  ·intro c2
   try (first | replace c2 := dTr c2 | replace c2 := Zk c2)
   rw [insP2 ((opd_sort (by omega)).1 c2)] at hS
   refine Zb (Za rfl (Zd rfl) (Yk fn115 rfl rfl 2 rfl h0.base (Rc_F h0) (rdByte_any U b r1 (by omega)) (fun hm => Xp (Xp (WD_end (rd_no hS hm)))) ?_))
   rintro v cs' ⟨R', n, r2, hp2, rfl, hr2, rfl, hn, -, -⟩
   replace hS := rd_next hS hp2
   refine Za rfl (Zh (ff rfl) rfl) (Xd (t1 rfl) rfl rfl 0 rfl rfl rfl rfl (Ze (Zx (Zc (Zf ?_)))))
   refine Zb (Za rfl (Yb (tn rfl) rfl 0 rfl rfl) (Yd (tn rfl) rfl rfl 1 rfl rfl rfl rfl (Ze (Zc (Zv ?_)))))
   refine Rc_endR (Res_1 rfl (Xo (tn rfl) rfl (Yj 1 rfl) rfl)) 2 rfl ?_
   first | exact ⟨⟨op, 0, ⟨c, nm, ps, t⟩⟩, r4, Xy hS, rfl, by omega, (_, _), rfl, rfl, Asr.fst _ _, ⟨hop, Yc, Zr hc, Zr hnm, ht⟩, hps⟩ | exact ⟨⟨op, 0, ⟨c, nm, [], t⟩⟩, r4, Xy hS, rfl, by omega, (_, nilS), rfl, rfl, Zy _, ⟨hop, Yc, Zr hc, Zr hnm, ht⟩, Zu⟩ | exact ⟨⟨op, 0, ⟨c, mt, [], ⟨0, mt⟩⟩⟩, r2, Xy hS, rfl, by omega, (_, nilS), rfl, rfl, Zy _, ⟨hop, Yc, Zr hc, Xt, tyOk_0⟩, Zu⟩ | exact ⟨⟨op, n, rf0⟩, r2, Xy hS, rfl, by omega, (_, nilS), rfl, rfl, Zy _, ⟨hop, hn, Xj⟩, Zu⟩ | exact ⟨⟨op, 0, rf0⟩, r1, Xy hS, rfl, by omega, (_, nilS), rfl, rfl, Zy _, ⟨hop, Yc, Xj⟩, Zu⟩
  ·intro c2
   try (first | replace c2 := dFa c2 | replace c2 := Zi c2)
   refine Zf (Zb (Za rfl (Xc rfl rfl) (Za rfl (Zg rfl) (Ze (Zc ?_)))))
   refine Yi rfl ?_ ?_
   ·intro c3
    try (first | replace c3 := dTr c3 | replace c3 := Zk c3)
    rw [insP3 ((opd_sort (by omega)).1 c3)] at hS
    refine Zb (Za rfl (Zd rfl) (Yk fn185 rfl rfl 2 rfl h0.base (Rc_F h0) (rdTwo_any U b r1 (by omega)) (fun hm => Xp (Xp (WD_end (rd_no hS hm)))) ?_))
    rintro v cs' ⟨R', n, r2, hp2, rfl, hr2, rfl, hn, -, -⟩
    replace hS := rd_next hS hp2
    refine Za rfl (Zh (ff rfl) rfl) (Xd (t1 rfl) rfl rfl 0 rfl rfl rfl rfl (Ze (Zx (Zc (Zf ?_)))))
    refine Zb (Za rfl (Yb (tn rfl) rfl 0 rfl rfl) (Yd (tn rfl) rfl rfl 1 rfl rfl rfl rfl (Ze (Zc (Zv ?_)))))
    refine Rc_endR (Res_1 rfl (Xo (tn rfl) rfl (Yj 1 rfl) rfl)) 2 rfl ?_
    first | exact ⟨⟨op, 0, ⟨c, nm, ps, t⟩⟩, r4, Xy hS, rfl, by omega, (_, _), rfl, rfl, Asr.fst _ _, ⟨hop, Yc, Zr hc, Zr hnm, ht⟩, hps⟩ | exact ⟨⟨op, 0, ⟨c, nm, [], t⟩⟩, r4, Xy hS, rfl, by omega, (_, nilS), rfl, rfl, Zy _, ⟨hop, Yc, Zr hc, Zr hnm, ht⟩, Zu⟩ | exact ⟨⟨op, 0, ⟨c, mt, [], ⟨0, mt⟩⟩⟩, r2, Xy hS, rfl, by omega, (_, nilS), rfl, rfl, Zy _, ⟨hop, Yc, Zr hc, Xt, tyOk_0⟩, Zu⟩ | exact ⟨⟨op, n, rf0⟩, r2, Xy hS, rfl, by omega, (_, nilS), rfl, rfl, Zy _, ⟨hop, hn, Xj⟩, Zu⟩ | exact ⟨⟨op, 0, rf0⟩, r1, Xy hS, rfl, by omega, (_, nilS), rfl, rfl, Zy _, ⟨hop, Yc, Xj⟩, Zu⟩
   ·intro c3
    try (first | replace c3 := dFa c3 | replace c3 := Zi c3)
    refine Zf (Zb (Za rfl (Xc rfl rfl) (Za rfl (Zg rfl) (Ze (Zc ?_)))))
    refine Yi rfl ?_ ?_
    ·intro c4
     try (first | replace c4 := dTr c4 | replace c4 := Zk c4)
     rw [insP4 ((opd_sort (by omega)).1 c4)] at hS
     refine Zb (Za rfl (Zd rfl) (Yk fn113 rfl rfl 2 rfl h0.base (Rc_F h0) (rdName_any U b r1 (by omega)) (fun hm => Xp (Xp (WD_end (rd_no hS hm)))) ?_))
     rintro v cs' ⟨R', c, r2, hp2, rfl, hr2, rfl, hc, -⟩
     replace hS := rd_next hS hp2
     refine Za rfl (Xs (tb rfl) rfl rfl) (Za rfl (Zh (ff rfl) rfl) (Yd (tn rfl) rfl rfl 0 rfl rfl rfl rfl (Ze (Zx (Zc ?_)))))
     refine Zf (Zb (Za rfl (Yb (tn rfl) rfl 0 rfl rfl) (Yd (tn rfl) rfl rfl 1 rfl rfl rfl rfl (Ze (Zc ?_)))))
     refine Zv (Rc_endR (Res_1 rfl (Xo (tn rfl) rfl (Yj 1 rfl) rfl)) 2 rfl ?_)
     first | exact ⟨⟨op, 0, ⟨c, nm, ps, t⟩⟩, r4, Xy hS, rfl, by omega, (_, _), rfl, rfl, Asr.fst _ _, ⟨hop, Yc, Zr hc, Zr hnm, ht⟩, hps⟩ | exact ⟨⟨op, 0, ⟨c, nm, [], t⟩⟩, r4, Xy hS, rfl, by omega, (_, nilS), rfl, rfl, Zy _, ⟨hop, Yc, Zr hc, Zr hnm, ht⟩, Zu⟩ | exact ⟨⟨op, 0, ⟨c, mt, [], ⟨0, mt⟩⟩⟩, r2, Xy hS, rfl, by omega, (_, nilS), rfl, rfl, Zy _, ⟨hop, Yc, Zr hc, Xt, tyOk_0⟩, Zu⟩ | exact ⟨⟨op, n, rf0⟩, r2, Xy hS, rfl, by omega, (_, nilS), rfl, rfl, Zy _, ⟨hop, hn, Xj⟩, Zu⟩ | exact ⟨⟨op, 0, rf0⟩, r1, Xy hS, rfl, by omega, (_, nilS), rfl, rfl, Zy _, ⟨hop, Yc, Xj⟩, Zu⟩
    ·intro c4
     try (first | replace c4 := dFa c4 | replace c4 := Zi c4)
     refine Zf (Zb (Za rfl (Xc rfl rfl) (Za rfl (Zg rfl) (Ze (Zc ?_)))))
     refine Yi rfl ?_ ?_
     ·intro c5
      try (first | replace c5 := dTr c5 | replace c5 := Zk c5)
      rw [insP5 ((opd_sort (by omega)).1 c5)] at hS
      refine Zb (Za rfl (Zd rfl) (Yk fn113 rfl rfl 2 rfl h0.base (Rc_F h0) (rdName_any U b r1 (by omega)) (fun hm => Xp (Xp (WD_end (rd_no hS hm)))) ?_))
      rintro v cs' ⟨R', c, r2, hp2, rfl, hr2, rfl, hc, -⟩
      replace hS := rd_next hS hp2
      refine Za rfl (Zd rfl) (Yk fn113 rfl rfl 2 rfl h0.base (Rc_F h0) (rdName_any U b r2 (by omega)) (fun hm => Xp (Xp (WD_end (rd_no hS hm)))) ?_)
      rintro v cs' ⟨R', nm, r3, hp3, rfl, hr3, rfl, hnm, -⟩
      replace hS := rd_next hS hp3
      refine Za rfl (Zd rfl) (Yk fn182 rfl rfl 2 rfl h0.base (Rc_F h0) (rdTyp_any U b r3 (by omega)) (fun hm => Xp (Xp (WD_end (rd_no hS hm)))) ?_)
      rintro v cs' ⟨R', t, r4, hp4, rfl, hr4, rfl, ht, -⟩
      replace hS := rd_next hS hp4
      refine Za rfl (Xs (tb rfl) rfl rfl) (Za rfl (Zh (ff rfl) rfl) (Yd (tn rfl) rfl rfl 0 rfl rfl rfl rfl (Ze (Zx (Zc ?_)))))
      refine Zf (Zb (Za rfl (Yb (tn rfl) rfl 0 rfl rfl) (Yd (tn rfl) rfl rfl 1 rfl rfl rfl rfl (Ze (Zc ?_)))))
      refine Zv (Rc_endR (Res_1 rfl (Xo (tn rfl) rfl (Yj 1 rfl) rfl)) 2 rfl ?_)
      first | exact ⟨⟨op, 0, ⟨c, nm, ps, t⟩⟩, r4, Xy hS, rfl, by omega, (_, _), rfl, rfl, Asr.fst _ _, ⟨hop, Yc, Zr hc, Zr hnm, ht⟩, hps⟩ | exact ⟨⟨op, 0, ⟨c, nm, [], t⟩⟩, r4, Xy hS, rfl, by omega, (_, nilS), rfl, rfl, Zy _, ⟨hop, Yc, Zr hc, Zr hnm, ht⟩, Zu⟩ | exact ⟨⟨op, 0, ⟨c, mt, [], ⟨0, mt⟩⟩⟩, r2, Xy hS, rfl, by omega, (_, nilS), rfl, rfl, Zy _, ⟨hop, Yc, Zr hc, Xt, tyOk_0⟩, Zu⟩ | exact ⟨⟨op, n, rf0⟩, r2, Xy hS, rfl, by omega, (_, nilS), rfl, rfl, Zy _, ⟨hop, hn, Xj⟩, Zu⟩ | exact ⟨⟨op, 0, rf0⟩, r1, Xy hS, rfl, by omega, (_, nilS), rfl, rfl, Zy _, ⟨hop, Yc, Xj⟩, Zu⟩
     ·intro c5
      try (first | replace c5 := dFa c5 | replace c5 := Zi c5)
      refine Zf (Zb (Za rfl (Xc rfl rfl) (Za rfl (Zg rfl) (Ze (Zc ?_)))))
      refine Yi rfl ?_ ?_
      ·intro c6
       try (first | replace c6 := dTr c6 | replace c6 := Zk c6)
       rw [insP6 ((opd_sort (by omega)).1 c6)] at hS
       refine Zb (Za rfl (Zd rfl) (Yk fn113 rfl rfl 2 rfl h0.base (Rc_F h0) (rdName_any U b r1 (by omega)) (fun hm => Xp (Xp (WD_end (rd_no hS hm)))) ?_))
       rintro v cs' ⟨R', c, r2, hp2, rfl, hr2, rfl, hc, -⟩
       replace hS := rd_next hS hp2
       refine Za rfl (Zd rfl) (Yk fn113 rfl rfl 2 rfl h0.base (Rc_F h0) (rdName_any U b r2 (by omega)) (fun hm => Xp (Xp (WD_end (rd_no hS hm)))) ?_)
       rintro v cs' ⟨R', nm, r3, hp3, rfl, hr3, rfl, hnm, -⟩
       replace hS := rd_next hS hp3
       refine Za rfl (Zd rfl) (WL_callR fn183 rfl rfl 2 rfl h0.base (Rc_F h0) (rdTypes_any U b 6 r3 (by omega)) (fun hm => Xp (Xp (WD_end (rd_no hS hm)))) ?_)
       rintro pv cs' R' ⟨ps, rx, hpx, rfl, hrx, hR, hps⟩
       replace hS := rd_next hS hpx
       refine Xm hR.left (Xz (p := ∃ p l c, pv = .slice p l c) (fun w hs => Xl hs.res.1) ?_)
       rintro ⟨p1, l1, c1', hpv⟩
       subst hpv
       refine Za rfl (Zd rfl) (Yk fn182 rfl rfl 2 rfl h0.base (Rc_F h0) (rdTyp_any U b rx (by omega)) (fun hm => Xp (Xp (WD_end (rd_no hS hm)))) ?_)
       rintro v cs' ⟨R', t, r4, hp4, rfl, hr4, rfl, ht, -⟩
       replace hS := rd_next hS hp4
       refine Za rfl (Xs (tb rfl) rfl rfl) (Za rfl (Zh (ff rfl) rfl) (Yd (tn rfl) rfl rfl 0 rfl rfl rfl rfl (Ze (Zx (Zc ?_)))))
       refine Zf (Zb (Za rfl (Yb (tn rfl) rfl 0 rfl rfl) (Yd (tn rfl) rfl rfl 1 rfl rfl rfl rfl (Ze (Zc ?_)))))
       refine Zv (Rc_endR (Res_1 rfl (Xo (tn rfl) rfl (Yj 1 rfl) rfl)) 2 rfl ?_)
       first | exact ⟨⟨op, 0, ⟨c, nm, ps, t⟩⟩, r4, Xy hS, rfl, by omega, (_, _), rfl, rfl, Asr.fst _ _, ⟨hop, Yc, Zr hc, Zr hnm, ht⟩, hps⟩ | exact ⟨⟨op, 0, ⟨c, nm, [], t⟩⟩, r4, Xy hS, rfl, by omega, (_, nilS), rfl, rfl, Zy _, ⟨hop, Yc, Zr hc, Zr hnm, ht⟩, Zu⟩ | exact ⟨⟨op, 0, ⟨c, mt, [], ⟨0, mt⟩⟩⟩, r2, Xy hS, rfl, by omega, (_, nilS), rfl, rfl, Zy _, ⟨hop, Yc, Zr hc, Xt, tyOk_0⟩, Zu⟩ | exact ⟨⟨op, n, rf0⟩, r2, Xy hS, rfl, by omega, (_, nilS), rfl, rfl, Zy _, ⟨hop, hn, Xj⟩, Zu⟩ | exact ⟨⟨op, 0, rf0⟩, r1, Xy hS, rfl, by omega, (_, nilS), rfl, rfl, Zy _, ⟨hop, Yc, Xj⟩, Zu⟩
      ·intro c6
       try (first | replace c6 := dFa c6 | replace c6 := Zi c6)
       rw [insP0 (fun h => c1 ((opd_sort (by omega)).2 h)) (fun h => c2 ((opd_sort (by omega)).2 h)) (fun h => c3 ((opd_sort (by omega)).2 h)) (fun h => c4 ((opd_sort (by omega)).2 h)) (fun h => c5 ((opd_sort (by omega)).2 h)) (fun h => c6 ((opd_sort (by omega)).2 h)) (fun h => by cases h)] at hS
       refine Zw (Zx (Zc (Zf (Zb (Za rfl (Yb (tn rfl) rfl 0 rfl rfl) ?_)))))
       refine Yd (tn rfl) rfl rfl 1 rfl rfl rfl rfl (Ze (Zc (Zv (Rc_endR (Res_1 rfl (Xo (tn rfl) rfl (Yj 1 rfl) rfl)) 2 rfl ?_))))
       first | exact ⟨⟨op, 0, ⟨c, nm, ps, t⟩⟩, r4, Xy hS, rfl, by omega, (_, _), rfl, rfl, Asr.fst _ _, ⟨hop, Yc, Zr hc, Zr hnm, ht⟩, hps⟩ | exact ⟨⟨op, 0, ⟨c, nm, [], t⟩⟩, r4, Xy hS, rfl, by omega, (_, nilS), rfl, rfl, Zy _, ⟨hop, Yc, Zr hc, Zr hnm, ht⟩, Zu⟩ | exact ⟨⟨op, 0, ⟨c, mt, [], ⟨0, mt⟩⟩⟩, r2, Xy hS, rfl, by omega, (_, nilS), rfl, rfl, Zy _, ⟨hop, Yc, Zr hc, Xt, tyOk_0⟩, Zu⟩ | exact ⟨⟨op, n, rf0⟩, r2, Xy hS, rfl, by omega, (_, nilS), rfl, rfl, Zy _, ⟨hop, hn, Xj⟩, Zu⟩ | exact ⟨⟨op, 0, rf0⟩, r1, Xy hS, rfl, by omega, (_, nilS), rfl, rfl, Zy _, ⟨hop, Yc, Xj⟩, Zu⟩
theorem rdHandler_any (U : World) (b : Nat) : RdP 188 #[.pointer (some ⟨b, 0, none⟩)] U b pHd (repE fId hdV noA hdOk) := by
 intro r hrl w h0
 have hS := Wa.first (some r) pHd
 refine opensF (h0.sat) (args := [.pointer (some ⟨b, 0, none⟩)]) Tryz.func188 rfl Tryz.ntmps188 ?_
 refine Zf (Zb (Xg rfl (tz rfl) ?_))
 intro b1 hb1
 refine Ze (Zc (Zf (Zb (Za rfl (Zd rfl) (Yk fn185 rfl rfl 1 rfl h0.base (Rc_F h0) (rdTwo_any U b r hrl) (fun hm => Xp (WD_end (rd_no hS hm))) ?_)))))
 rintro v cs' ⟨R', x1, r1, hp, rfl, hr1, rfl, h1, -, -⟩
 replace hS := rd_next hS hp
 refine Za rfl (Zd rfl) (Yk fn185 rfl rfl 1 rfl h0.base (Rc_F h0) (rdTwo_any U b r1 (by omega)) (fun hm => Xp (WD_end (rd_no hS hm))) ?_)
 rintro v cs' ⟨R', x2, r2, hp2, rfl, hr2, rfl, h2, -, -⟩
 replace hS := rd_next hS hp2
 refine Za rfl (Zd rfl) (Yk fn185 rfl rfl 1 rfl h0.base (Rc_F h0) (rdTwo_any U b r2 (by omega)) (fun hm => Xp (WD_end (rd_no hS hm))) ?_)
 rintro v cs' ⟨R', x3, r3, hp3, rfl, hr3, rfl, h3, -, -⟩
 replace hS := rd_next hS hp3
 refine Za rfl (Zd rfl) (Yk fn113 rfl rfl 1 rfl h0.base (Rc_F h0) (rdName_any U b r3 (by omega)) (fun hm => Xp (WD_end (rd_no hS hm))) ?_)
 rintro v cs' ⟨R', c, r4, hp4, rfl, hr4, rfl, hc, -⟩
 replace hS := rd_next hS hp4
 refine Za rfl (Xs (tb rfl) rfl rfl) (Yd (tn rfl) rfl rfl 0 rfl rfl rfl rfl (Ze (Zc (Zv (Rc_endR (Res_1 rfl (Xo (tn rfl) rfl (Yj 0 rfl) rfl)) 1 rfl ?_)))))
 exact ⟨_, r4, Xy hS, rfl, by omega, ⟨x1, x2, x3, c⟩, rfl, rfl, .refl _, ⟨h1, h2, h3, Zr hc⟩⟩
theorem rdField_any (U : World) (b : Nat) : RdP 116 #[.pointer (some ⟨b, 0, none⟩)] U b (pFd false) (repE fId fdV noA fdOk) := by
 intro r hrl w h0
 have hS := Wa.first (some r) (pFd false)
 refine opensF (h0.sat) (args := [.pointer (some ⟨b, 0, none⟩)]) Tryz.func116 rfl Tryz.ntmps116 ?_
 refine Zf (Zb (Xg rfl (tz rfl) ?_))
 intro b1 hb1
 refine Ze (Zc (Zf (Zb (Za rfl (Zd rfl) (Yk fn113 rfl rfl 1 rfl h0.base (Rc_F h0) (rdName_any U b r hrl) (fun hm => Xp (WD_end (rd_no hS hm))) ?_)))))
 rintro v cs' ⟨R', c, r1, hp, rfl, hr1, rfl, hc, -⟩
 replace hS := rd_next hS hp
 refine Za rfl (Zd rfl) (Yk fn181 rfl rfl 1 rfl h0.base (Rc_F h0) (rdFlag_any U b r1 (by omega)) (fun hm => Xp (WD_end (rd_no hS hm))) ?_)
 rintro v cs' ⟨R', st, r2, hp2, rfl, hr2, rfl, -⟩
 replace hS := rd_next hS hp2
 refine Za rfl (Zd rfl) (Yk fn182 rfl rfl 1 rfl h0.base (Rc_F h0) (rdTyp_any U b r2 (by omega)) (fun hm => Xp (WD_end (rd_no hS hm))) ?_)
 rintro v cs' ⟨R', t, r3, hp3, rfl, hr3, rfl, ht, -⟩
 replace hS := rd_next hS hp3
 refine Za rfl (Xs (tb rfl) rfl rfl) (Yd (tn rfl) rfl rfl 0 rfl rfl rfl rfl (Ze (Zc (Zv (Rc_endR (Res_1 rfl (Xo (tn rfl) rfl (Yj 0 rfl) rfl)) 1 rfl ?_)))))
 exact ⟨_, r3, Xy hS, rfl, by omega, ⟨c, st, t⟩, rfl, rfl, .refl _, ⟨Zr hc, ht⟩⟩
theorem rdFrame_any (U : World) (b : Nat) : RdP 190 #[.pointer (some ⟨b, 0, none⟩)] U b (pFr false true) (repE fFr frC frA okFr) := by
 intro r hrl w h0
 have hS := Wa.first (some r) (pFr false true)
 refine opensF (h0.sat) (args := [.pointer (some ⟨b, 0, none⟩)]) Tryz.func190 rfl Tryz.ntmps190 ?_
 refine Zf (Zb (Xg rfl (tz rfl) ?_))
 intro b1 hb1
 refine Ze (Zc (Zf (Zb (Za rfl (Zd rfl) (Yk fn185 rfl rfl 1 rfl h0.base (Rc_F h0) (rdTwo_any U b r hrl) (fun hm => Xp (WD_end (rd_no hS hm))) ?_)))))
 rintro v cs' ⟨R', x1, r1, hp, rfl, hr1, rfl, h1, -, -⟩
 replace hS := rd_next hS hp
 refine Za rfl (Zd rfl) (WL_callR fn183 rfl rfl 1 rfl h0.base (Rc_F h0) (rdTypes_any U b 20 r1 (by omega)) (fun hm => Xp (WD_end (rd_no hS hm))) ?_)
 rintro lv cs' R' ⟨ls, r2, hp2, rfl, hr2, hR, hls⟩
 replace hS := rd_next hS hp2
 refine Xm hR.left (Xz (p := ∃ p l c, lv = .slice p l c) (fun w hs => Xl hs.res.1) ?_)
 rintro ⟨p1, l1, c1', hpv⟩
 subst hpv
 refine Za rfl (Zd rfl) (WL_callR fn183 rfl rfl 1 rfl h0.base (Rc_F h0) (rdTypes_any U b 20 r2 (by omega)) (fun hm => Xp (WD_end (rd_no hS hm))) ?_)
 rintro sv cs' R'' ⟨ss, r3, hp3, rfl, hr3, hR2, hss⟩
 replace hS := rd_next hS hp3
 refine Xm hR2.left (Xz (p := ∃ p l c, sv = .slice p l c) (fun w hs => Xl hs.res.1) ?_)
 rintro ⟨p2, l2, c2', hsv⟩
 subst hsv
 refine Za rfl (Xs (tb rfl) rfl rfl) (Yd (tn rfl) rfl rfl 0 rfl rfl rfl rfl (Ze (Zc (Zv (Rc_endR (Res_1 rfl (Xo (tn rfl) rfl (Yj 0 rfl) rfl)) 1 rfl ?_)))))
 exact ⟨_, r3, Xy hS, rfl, by omega, (⟨x1, ls, ss⟩, .slice p1 l1 c1', .slice p2 l2 c2'), rfl, rfl, ((Asr.cossa _ _ _).trans (Asr.fst _ _)).trans (Asr.comm _ _), ⟨h1, hls, hss⟩⟩
end Go.Proofs.YtpofmnfkdkmieaaGreat
namespace Go.Proofs.YtpofmnfkdkmieaaGreat.E
open Go Go.RowKit
/-- A method that owns its receiver's block and Rin, and reads what was there ahead of u. -/
def RuP (P : Program) (f : FuncId) (args : Array Value) (u : World) (b : Nat) (cs : List Value) (Rin : Asr) (ok : Value → List Value → Asr → Prop) : Prop :=
 ∀ w, Below u.heap.size u w → (∀ x ∈ b :: Rin.S, u.heap.size ≤ x) → Sat w (b :: Rin.S) [(b, cs)] Rin w → Calls P f args w (RkZ b w Rin ok)
theorem ru_F {u w0 w : World} {F : List Nat} {H : Hp} {R Rin : Asr} {b i : Nat} {cs : List Value} (hu : Below u.heap.size u w0) (hF : ∀ x ∈ F, u.heap.size ≤ x) (hs : Sat w0 F H (Rin.and R) w) (hp : H[i]? = some (b, cs)) : ∀ x ∈ b :: Rin.S, u.heap.size ≤ x := by
 intro x hx
 have hge : ∀ k, (k ∈ F ∨ w0.heap.size ≤ k) → u.heap.size ≤ k := fun k hk => hk.elim (hF k) (fun h => Nat.le_trans hu.size h)
 rcases List.mem_cons.1 hx with rfl | hx
 ·exact hge _ (hs.hi _ (List.mem_of_getElem? hp))
 ·exact hge _ (hs.rhi x (List.mem_append_left _ hx)).1
theorem RuP.frame {P : Program} {f : FuncId} {args : Array Value} {u : World} {b : Nat} {cs : List Value} {Rin Rx Rin' : Asr} {ok : Value → List Value → Asr → Prop} (h : RuP P f args u b cs Rin ok) (i : Rin'.Imp (Rin.and Rx)) : RuP P f args u b cs Rin' (fun v cs' R'' => ∃ R', ok v cs' R' ∧ R'' = R'.and Rx) := by
 intro w hb hF hs
 have hs' : Sat w (b :: Rin'.S) [(b, cs)] (Rin.and Rx) w := hs.leads i
 refine Calls.mono (h w hb (ru_F (i := 0) hb hF hs' rfl) (rk_now (i := 0) hs' rfl)) ?_
 rintro e w' ⟨v, cs', R', rfl, hok, hw⟩
 exact ⟨v, cs', _, rfl, ⟨R', hok, rfl⟩, rk_then (i := 0) hs' rfl hw⟩
section
variable {P : Program} {n : Nat} {E : Env} {w0 : World} {F : List Nat} {H : Hp} {R : Asr} {fn : Func} {Z : Ending → World → Prop} {κ : List Kf}
theorem WL_callU {all : Array Oper} {l : List Oper} {d f b : Nat} {xs : List Operand} {vs : List Value} {ts : Array TypeId} {t : TypeId} {p : String} {e : Array Edge} {cs : List Value} {u : World} {Rin : Asr} {ok : Value → List Value → Asr → Prop} (hf : IsFn P f)
  (hd : Nat.blt d n = true) (hx : args E xs = some vs) (i : Nat) (hp : H[i]? = some (b, cs)) (hu : Below u.heap.size u w0) (hF : ∀ x ∈ F, u.heap.size ≤ x) (hc : RuP P f vs.toArray u b cs Rin ok)
  (h : ∀ v cs' R', ok v cs' R' → WL P n all l ((d, v) :: E) w0 F (H.set i (b, cs')) (R'.and R) fn Z κ) :
  WL P n all (⟨some d, .call ⟨.value (.func f), xs.toArray, ts⟩, t, p, e, none⟩ :: l) E w0 F H (Rin.and R) fn Z κ :=
 ⟨fun w hs a ha => wpList_plain rfl fun K hK => by
  unfold Oper.wp; rw [run_call rfl hf, args_map ha xs vs hx]
  refine Calls.mono (hc w (below_sat hu hF hs) (ru_F hu hF hs hp) (rk_now hs hp)) ?_
  rintro e w' ⟨v, cs', R', rfl, hok, hw⟩
  exact hK _ _ ((h v cs' R' hok).go w' (rk_then hs hp hw) _ (ha.put hd _))⟩
theorem WL_own {all : Array Oper} {l : List Oper} (e size : Nat) (h : WL P n all l E w0 F H (Asr.and (ownA e size (.slice none 0 0) 0 []) R) fn Z κ) : WL P n all l E w0 F H R fn Z κ :=
 ⟨fun w hs a ha => h.go w ⟨hs.low, hs.own, hs.hi, hs.apart, ⟨World.ownsRow_nil w 0 e size, hs.res, by simp [ownA, Value.ownBlock]⟩, hs.rhi, hs.rapart⟩ a ha⟩
/-- A list is copied: 'append(nil, y...)'. -/
theorem WL_appL {all : Array Oper} {l : List Oper} {d : Nat} {t ty e size bytes : Nat} {z : Value} {x y : Operand} {p : String} {g : Array Edge} {m c : Nat} {q : Option Addr} {news : List Value} (hd : Nat.blt d n = true) (ht : TA P t e size bytes z) (hx : ev E x = some (.slice none 0 0))
  (hy : ev E y = some (.slice q m c)) (hc : 0 < m → ∃ b o, q = some ⟨b, o, none⟩ ∧ Row w0 F H ((ownA e size (.slice none 0 0) 0 []).and R) b o news) (hl : news.length = m * size) (h1 : news.all (·.oneCell') = true) (h63 : m ≤ maxLen) (hbytes : m * bytes ≤ 140737488355328)
  (h : ∀ v', WL P n all l ((d, v') :: E) w0 F H (Asr.and (ownA e size v' m news) R) fn Z κ) :
  WL P n all (⟨some d, .call ⟨.builtin .append, #[x, y], #[t, t]⟩, ty, p, g, none⟩ :: l) E w0 F H R fn Z κ := by
 refine WL_own e size ?_
 by_cases hm : m = 0
 ·subst hm
  have hnl : news = [] := List.eq_nil_of_length_eq_zero (by rw [hl]; simp)
  subst hnl
  refine ⟨fun w hs a ha => wpList_plain rfl fun K hK => ?_⟩
  obtain ⟨i, hi, hz, hsz, hb⟩ := info_parts ht.inf
  have he : (execOp a.eval ⟨some d, .call ⟨.builtin .append, #[x, y], #[t, t]⟩, ty, p, g, none⟩).run P w = .ok (.value (.slice none 0 0)) w := by
   simp only [execOp, resolve, invoke, builtin]
   cases q with
   | none => simp [ha.eval hx, ha.eval hy, Builtin.append_, run_underlying ht.sl, sizeOf, typeInfo, hi, Builtin.lenOf, Builtin.firstCells, loadCells, loadCellsFrom]
   | some aa => simp [ha.eval hx, ha.eval hy, Builtin.append_, run_underlying ht.sl, sizeOf, typeInfo, hi, Builtin.lenOf, Builtin.firstCells, loadCells, loadCellsFrom]
  unfold Oper.wp; rw [he]
  exact hK _ _ ((h (.slice none 0 0)).go w hs _ (ha.put hd _))
 ·obtain ⟨b, o, rfl, hrow⟩ := hc (by omega)
  refine WL_app hd ht hx hy hrow hl h1 (by omega) (by rw [Nat.zero_add]; exact hbytes) (fun v' => ?_)
  have := h v'
  rw [Nat.zero_add, List.nil_append]; exact this
end
end Go.Proofs.YtpofmnfkdkmieaaGreat.E
namespace Go.Proofs.YtpofmnfkdkmieaaGreat
open Go Go.RowKit At E
/-- Rows of lists, each with a row of its own. -/
def rowsA {β : Type} (e' e sz : Nat) (cell : β → List Value) (v : Value) (rows : List (List β × Value)) : Asr :=
 (ownA e' 1 v rows.length (rows.map (·.2))).and (bigA (rows.map fun p => ownA e sz p.2 p.1.length (p.1.flatMap cell)))
theorem rows_push {β : Type} {e' e sz : Nat} {cell : β → List Value} {v : Value} {rows : List (List β × Value)} {l : List β} {u : Value} :
  ((ownA e' 1 v (rows.length + 1) (rows.map (·.2) ++ [u])).and ((ownA e sz u l.length (l.flatMap cell)).and (bigA (rows.map fun p => ownA e sz p.2 p.1.length (p.1.flatMap cell))))).Imp (rowsA e' e sz cell v (rows ++ [(l, u)])) := by
 refine (Asr.Imp.right (bigA_snoc _ _)).trans ?_
 unfold rowsA
 rw [List.length_append, List.map_append, List.map_append]
 exact .refl _
theorem owns_cap {w : World} {e size n : Nat} {v : Value} {xs : List Value} (h : w.ownsRow 0 e size v n xs) (hn : 0 < n) : ∃ p c, v = .slice p n c ∧ n ≤ c := by
 rcases h.2 with ⟨rfl, h0⟩ | ⟨g, cap, cur, rfl, _, _, hnc, _⟩
 ·omega
 ·exact ⟨_, _, rfl, hnc⟩
def tyX : List Ty := [⟨77, mt⟩, ⟨77, mt⟩]
/-- The cells of a list in old memory. -/
theorem old_rows {α : Type} {k : Nat} {El : World → List Value → α → Prop} {u w0 : World} {F : List Nat} {H : Hp} {R : Asr} {q : Option Addr} {n c : Nat} {l : List α} (cell : α → List Value) (hu : Below u.heap.size u w0) (hF : ∀ x ∈ F, u.heap.size ≤ x) (hv : ListAt k El u (.slice q n c) l) (hcell : ∀ r x, El u r x → r = cell x) (hk : ∀ x ∈ l, (cell x).length = k) :
  0 < n → ∃ b o, q = some ⟨b, o, none⟩ ∧ Row w0 F H R b o (l.flatMap cell) := by
 obtain ⟨p, c', hv', hl, hr⟩ := hv.is
 cases hv'
 intro hn
 obtain ⟨b, o, r, hp, hb, _, _⟩ := hr 0 l[0] (List.getElem?_eq_getElem hn)
 refine ⟨b, o, hp, row_oldU hu hF hb (fun j v hj => ?_)⟩
 have hjl : j < l.length * k := by
  rw [← flat_length cell k l hk]
  rcases Nat.lt_or_ge j (l.flatMap cell).length with h | h
  ·exact h
  ·rw [List.getElem?_eq_none h] at hj; cases hj
 have hk0 : 0 < k := by
  rcases Nat.eq_zero_or_pos k with h | h
  ·subst h; omega
  ·exact h
 have hi : j / k < l.length := (Nat.div_lt_iff_lt_mul hk0).2 hjl
 obtain ⟨b', o', r', hp', hb', hel, hc⟩ := hr (j / k) l[j / k] (List.getElem?_eq_getElem hi)
 rw [hp] at hp'
 cases hp'
 have hrc := hcell _ _ hel
 subst hrc
 have hjm : j % k < (cell l[j / k]).length := by rw [hk _ (List.getElem_mem hi)]; exact Nat.mod_lt _ hk0
 have hg := flat_get cell k l hk (j / k) (j % k) l[j / k] _ (List.getElem?_eq_getElem hi) (List.getElem?_eq_getElem hjm)
 have he : j / k * k + j % k = j := Nat.div_add_mod' j k
 rw [he, hj] at hg
 cases hg
 have := hc (j % k) _ (List.getElem?_eq_getElem hjm)
 rw [Nat.add_assoc, he] at this
 exact this
theorem lsTyped_any (u : World) (b : Nat) (vT vI vF vM vH vR tv : Value) (T : List (List Ty × Value)) (l : List Ty) (hv : TysAt u tv l) (hT : T.length ≤ 1099511627776) :
  RuP Tryz.prog 76 #[.pointer (some ⟨b, 0, none⟩), tv] u b (bkC vT vI vF vM vH vR) (rowsA 69 71 2 tyV vT T)
   (fun v cs' R' => ∃ vT' p c, v = .slice p l.length c ∧ cs' = bkC vT' vI vF vM vH vR ∧ R'.Imp (rowsA 69 71 2 tyV vT' (T ++ [(l ++ tyX, .slice p (l.length + 2) c)]))) := by
 intro w hu hF hs0
 obtain ⟨q, e, rfl, hl, -⟩ := hv.is
 replace hv : Hid _ := hv
 have hfl := flat_length tyV 2 l (fun _ _ => rfl)
 have hall : (l.flatMap tyV).all (·.oneCell') = true := by rw [List.all_eq_true]; intro x hx; obtain ⟨t, _, ht⟩ := List.mem_flatMap.1 hx; simp only [tyV, List.mem_cons, List.not_mem_nil, or_false] at ht; rcases ht with rfl | rfl <;> rfl
 refine opensF (hs0) (args := [.pointer (some ⟨b, 0, none⟩), .slice q l.length e]) Tryz.func76 rfl Tryz.ntmps76 ?_
 refine Zf (Zb (Za rfl (Zg rfl) (Ze (Zc (Zf ?_)))))
 refine Zb (Za rfl (Zg rfl) (Ze (Zc (Zf (Zb ?_)))))
 refine Za rfl (Zd rfl) (Za rfl (Zd rfl) ?_)
 refine WL_appL rfl (ta rfl) rfl rfl (old_rows tyV hu hF hv.out (fun r x h => h.1) (fun _ _ => rfl)) hfl hall (by unfold maxLen; omega) (by omega) ?_
 intro v1
 refine Za rfl (Zg rfl) (Ze (Zc (Zf (Zb (Za rfl (Zd rfl) ?_)))))
 refine Za rfl (Xs (tb rfl) rfl rfl) (Za rfl (Xs (tb rfl) rfl rfl) (WL_bs rfl (ts rfl) (tz rfl) rfl rfl rfl rfl rfl ?_))
 intro b1 hb1
 refine WL_app rfl (ta rfl) rfl rfl (Yj 0 rfl) rfl rfl (by unfold maxLen; omega) (by omega) ?_
 intro v2
 refine Za rfl (Zg rfl) (Ze (Zc (Zf (WC_know (p := ∃ p c, v2 = .slice p (l.length + 2) c ∧ l.length + 2 ≤ c) (fun w hs => owns_cap hs.res.1 (by omega)) ?_))))
 rintro ⟨p2, c2, hv2, hc2⟩; subst hv2
 refine WC_imp (Asr.swap _ _ _) (Zb (Za rfl (Zd rfl) (Za rfl (Zd rfl) (Za rfl (Ys rfl) (Za rfl (Zh (ff rfl) rfl) ?_)))))
 refine Za rfl (Zj (t1 rfl) rfl (Zl 1 rfl rfl)) (Za rfl (Zd rfl) (WL_bs rfl (ts rfl) (tz rfl) rfl rfl rfl rfl rfl ?_))
 intro b2 hb2
 refine WL_app rfl (ta rfl) rfl rfl (Yj 0 rfl) rfl rfl (by unfold maxLen; omega) (by omega) ?_
 intro v3
 refine Za rfl (Ys rfl) (Za rfl (Zh (ff rfl) rfl) (Xz (p := ∃ p l c, v3 = .slice p l c) (fun w hs => Xl hs.res.1) ?_))
 rintro ⟨p3, l3, c3', hv3⟩; subst hv3
 refine Xd (t1 rfl) rfl rfl 2 rfl rfl rfl rfl (Ze (Zc (Zf (Zb (Za rfl (Zd rfl) ?_)))))
 refine Za rfl (Zd rfl) (Za rfl (Yg (ts rfl) rfl) (Za rfl (Ex_sliceL (ts rfl) rfl rfl ?_) ?_))
 ·omega
 refine Za rfl (Zg rfl) (Ze (Zc (Zv (Rk_endR (Res_1 rfl (RV_tmp rfl)) 2 rfl ?_))))
 exact ⟨_, p2, c2, rfl, rfl, by have h9 := rows_push (e' := 69) (e := 71) (sz := 2) (cell := tyV) (v := .slice p3 l3 c3') (rows := T) (l := l ++ tyX) (u := .slice p2 (l.length + 2) c2); rw [List.length_append, List.flatMap_append] at h9; exact h9⟩
end Go.Proofs.YtpofmnfkdkmieaaGreat
