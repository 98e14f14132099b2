/- What is proved here: the program's reader (package wire): lists of all sorts, instructions, handlers, frames, fields, methods. -/
import Derived.Test.YtpofmnfkdkmieaaGreatQ10
import Derived.Test.YtpofmnfkdkmieaaGreatQ09
import Derived.Test.YtpofmnfkdkmieaaGreatQ11
import Derived.Test.YtpofmnfkdkmieaaGreatQ03
import Derived.Orders
import Derived.OrdersHeld
set_option linter.unusedVariables false
set_option linter.unusedSimpArgs false
namespace Go.Proofs.YtpofmnfkdkmieaaGreat
open Go.RowKit At E

section
variable {P : Program} {n : Nat} {E : Env} {w0 : World} {F : List Nat} {H : Hp} {R : Asr} {fn : Func} {Z : Ending → World → Prop} {κ : List Kf}
theorem WL_callRV {all : Array Oper} {l : List Oper} {d f b : Nat} {g : Operand} {pv : Value} {ts : Array TypeId} {t : TypeId} {p : String} {e : Array Edge} {cs : List Value} {u : World} {ok : Value → List Value → Asr → Prop} {may : Prop} (hf : IsFn P f)
    (hd : Nat.blt d n = true) (hg : ev E g = some (.func (.func f) #[pv] #[])) (i : Nat) (hp : H[i]? = some (b, cs)) (hu : Below u.heap.size u w0) (hF : ∀ x ∈ F, u.heap.size ≤ x) (hc : RcP P f #[pv] u b cs ok may)
    (hn : may → WD P n E u fn Z κ)
    (h : ∀ v cs' R', ok v cs' R' → WL P n all l ((d, v) :: E) w0 F (H.set i (b, cs')) (R'.and R) fn Z κ) :
    WL P n all (⟨some d, .call ⟨.value g, #[], ts⟩, t, p, e, none⟩ :: l) E w0 F H R fn Z κ :=
  ⟨fun w hs a ha => wpList_plain rfl fun K hK => by
    unfold Oper.wp; rw [run_callV rfl (ha.eval hg) hf]
    refine Calls.mono (P := P) (f := f) (by have := hc w (rc_now hu hF hs hp); simpa using this) ?_
    rintro e w' (⟨v, cs', R', rfl, hok, hw⟩ | ⟨hm, rfl, hb⟩)
    · exact hK _ _ ((h v cs' R' hok).go w' (rc_then hs hp hw) _ (ha.put hd _))
    · exact (hn hm).go w' hb _ ha⟩
end
def listP {α : Type} (most : Nat) (p : Ps α) (n : Nat) : Ps (List α) := if (true && decide (most < n)) = true then pNo else pMany p n
theorem listP_no {α : Type} {most n : Nat} {p : Ps α} {r : List UInt8} (h : most < n) : listP most p n r = none := by unfold listP; rw [if_pos (by simp [h])]; rfl
theorem listP_ok {α : Type} {most n : Nat} {p : Ps α} (h : ¬ most < n) : listP most p n = pFrom p [] n := by unfold listP; rw [if_neg (by simp [h]), pMany_from]
def repE {α β : Type} (fst : β → α) (cell : β → List Value) (asr : β → Asr) (ok : β → Prop) : α → Value → Asr → Prop := fun x v R' => ∃ y, fst y = x ∧ v = .agg (cell y).toArray ∧ R'.Imp (asr y) ∧ ok y
def repL {α β : Type} (e k : Nat) (fst : β → α) (cell : β → List Value) (asr : β → Asr) (ok : β → Prop) : List α → Value → Asr → Prop := fun l v R' =>
  ∃ ls : List β, ls.map fst = l ∧ R'.Imp ((ownA e k v ls.length (ls.flatMap cell)).and (bigA (ls.map asr))) ∧ ls.length ≤ 65535 ∧ ∀ y ∈ ls, ok y
theorem RdP.mono {α : Type} {f : FuncId} {args : Array Value} {u : World} {b : Nat} {p : Ps α} {rep rep' : α → Value → Asr → Prop} (h : RdP f args u b p rep) (k : ∀ x v R', rep x v R' → rep' x v R') : RdP f args u b p rep' := by
  intro r hrl w h0
  refine Calls.mono (h r hrl w h0) ?_
  rintro e w' (⟨v, cs', R', rfl, ⟨x, r1, hp, rfl, hr1, hrep⟩, hw⟩ | ⟨hm, rfl, hb⟩)
  · exact .inl ⟨_, _, _, rfl, ⟨x, r1, hp, rfl, hr1, k _ _ _ hrep⟩, hw⟩
  · exact .inr ⟨hm, rfl, hb⟩
structure RdL (β : Type) where
  r : List UInt8
  v : Value
  l : List β
def noA {α : Type} (_ : α) : Asr := Asr.none
abbrev InsR := Ins × Value
abbrev FrR := Fr × Value × Value
abbrev MeR := Me × MeM
def fIns (p : InsR) : Ins := p.1
def fFr (p : FrR) : Fr := p.1
def fMe (p : MeR) : Me := p.1
def fId {α : Type} (x : α) : α := x
theorem one_Type (t : Ty) (w : World) (_ : (noA t).A w) : (tyV t).all (·.oneCell') = true := rfl
theorem one_Field (t : Fld) (w : World) (_ : (noA t).A w) : (fdV t).all (·.oneCell') = true := rfl
theorem one_Handler (t : Hd) (w : World) (_ : (noA t).A w) : (hdV t).all (·.oneCell') = true := rfl
theorem one_Instr (t : InsR) (w : World) (h : (insA t).A w) : (insC t).all (·.oneCell') = true := by
  have h1 : t.2.oneCell' = true := own_one h
  simp only [insC, insV, List.all_cons, List.all_nil, h1]; rfl
theorem one_Frame (t : FrR) (w : World) (h : (frA t).A w) : (frC t).all (·.oneCell') = true := by
  have h1 : t.2.1.oneCell' = true := own_one h.1
  have h2 : t.2.2.oneCell' = true := own_one h.2.1
  simp only [frC, frV, List.all_cons, List.all_nil, h1, h2]; rfl
theorem one_Method (t : MeR) (w : World) (h : (meA t).A w) : (meC t).all (·.oneCell') = true := by
  have h1 : t.2.pv.oneCell' = true := own_one h.1
  have h2 : t.2.cv.oneCell' = true := own_one h.2.1.1.1
  have h3 : t.2.hv.oneCell' = true := own_one h.2.1.2.1.1
  have h4 : t.2.fv.oneCell' = true := own_one h.2.1.2.1.2.1.1
  simp only [meC, meV, List.all_cons, List.all_nil, h1, h2, h3, h4]; rfl
def okIns (p : InsR) : Prop := insOk p.1 ∧ tysOk p.1.ref.params
def okFr (p : FrR) : Prop := frOk p.1
theorem rd_nno {α β : Type} {P : Ps β} {p : Ps α} {K : List α → Ps β} {k most : Nat} {r r1 : List UInt8} (h : Goes (some r) P (some r1) (pThen (pList true k most p) K)) (hm : pNum k r1 = none) : P r = none :=
  rd_no h (by unfold pList pThen; rw [hm])
theorem rd_lno {α β : Type} {P : Ps β} {p : Ps α} {K : List α → Ps β} {k most n : Nat} {r r1 r2 : List UInt8} (h : Goes (some r) P (some r1) (pThen (pList true k most p) K)) (hp : pNum k r1 = some (n, r2)) (hm : listP most p n r2 = none) : P r = none :=
  rd_no h (by unfold pList pThen; rw [hp]; exact hm)
theorem rd_lnext {α β : Type} {P : Ps β} {p : Ps α} {K : List α → Ps β} {k most n : Nat} {r r1 r2 r3 : List UInt8} {l : List α} (h : Goes (some r) P (some r1) (pThen (pList true k most p) K)) (hp : pNum k r1 = some (n, r2)) (hm : listP most p n r2 = some (l, r3)) : Goes (some r) P (some r3) (K l) :=
  rd_next h (by unfold pList pThen; rw [hp]; exact hm)
theorem rdListType_any (U : World) (b n most : Nat) (hn : n ≤ 65535) (hE : RdP 182 #[.pointer (some ⟨b, 0, none⟩)] U b (pTy false) (repE fId tyV noA tyOk)) :
    RdP 283 #[.int .i64 (n : Nat), .int .i64 (most : Nat), .func (.func 182) #[.pointer (some ⟨b, 0, none⟩)] #[]] U b (listP most (pTy false) n) (repL 71 2 fId tyV noA tyOk) := by
  intro r hrl w h0
  replace hE : Hid _ := hE
  refine opensF (h0.sat) (args := [.int .i64 (n : Nat), .int .i64 (most : Nat), .func (.func 182) #[.pointer (some ⟨b, 0, none⟩)] #[]]) Tryz.func283 rfl Tryz.ntmps283 ?_
  refine WC_seq ?_
  refine WC_region ?_
  refine WL_op rfl (Ex_assign rfl) ?_
  refine WL_nil ?_
  refine WQ_next ?_
  refine WC_seq ?_
  refine WC_region ?_
  refine WL_op rfl (Ex_move rfl) ?_
  refine WL_op rfl (Ex_move rfl) ?_
  refine WL_op rfl (Ex_leq rfl rfl) ?_
  refine WL_callP fn111 rfl rfl (fun w _ => must_any _ w) ?_ ?_
  rotate_left
  · intro o1
    try (first | replace o1 := of_decide_eq_false o1 | replace o1 := of_nd_false o1)
    refine WQ_pan ?_
    refine WD_of h0.base (Rc_F h0) (WD_end ?_)
    exact listP_no (by omega)
  intro o1
  try (first | replace o1 := of_decide_eq_true o1 | replace o1 := of_nd_true o1)
  have hS : Goes (some r) (listP most (pTy false) n) (some r) (pFrom (pTy false) [] n) := (Goes.first _ _).of (listP_ok (by omega))
  refine WL_nil ?_
  refine WQ_next ?_
  refine WC_seq ?_
  refine WC_region ?_
  refine WL_op rfl (Ex_assign rfl) ?_
  refine WL_nil ?_
  refine WQ_next ?_
  refine WC_seq ?_
  refine WC_seq ?_
  refine WC_region ?_
  refine WL_op rfl (Ex_move rfl) ?_
  refine WL_op rfl (Ex_move rfl) ?_
  refine WL_nil ?_
  refine WQ_next ?_
  refine WC_block ?_
  refine WC_own 71 2 ?_
  refine WC_imp (Asr.Imp.right (Asr.noneAdd _)) ?_
  refine WC_sub (E' := (fun x : RdL Ty => [(2, .func (.func 182) #[.pointer (some ⟨b, 0, none⟩)] #[]), (7, x.v), (12, .int .i64 (n : Nat)), (13, .int .i64 (x.l.length : Nat))]) (⟨r, nilS, []⟩)) ⟨rfl, rfl, rfl, rfl, trivial⟩ (WC_loop (X := RdL Ty) (fun x : RdL Ty => [(2, .func (.func 182) #[.pointer (some ⟨b, 0, none⟩)] #[]), (7, x.v), (12, .int .i64 (n : Nat)), (13, .int .i64 (x.l.length : Nat))]) _ _ (fun x : RdL Ty => [(b, rdC x.r)]) (fun x : RdL Ty => (ownA 71 2 x.v x.l.length (x.l.flatMap tyV)).and ((bigA (x.l.map noA)).and Asr.none)) (fun x : RdL Ty => (x.l.length ≤ n ∧ x.r.length ≤ r.length) ∧ (∀ y ∈ x.l, tyOk y) ∧ Goes (some r) (listP most (pTy false) n) (some x.r) (pFrom (pTy false) (x.l.map fId) (n - x.l.length))) (fun x : RdL Ty => n - x.l.length) (⟨r, nilS, []⟩) (⟨⟨Nat.zero_le _, Nat.le_refl _⟩, (fun y h => by cases h), hS⟩) ?_)
  intro x hI
  obtain ⟨⟨hxn, hxr⟩, hok, hG⟩ := hI
  refine WC_seq ?_
  refine WC_region ?_
  refine WL_op rfl (Ex_lss rfl rfl) ?_
  refine WL_nil ?_
  refine WQ_next ?_
  refine WC_seq ?_
  refine WC_if rfl ?_ ?_  -- cond 1 read.go:88
  · intro c1
    try (first | replace c1 := of_decide_eq_true c1 | replace c1 := of_nd_true c1)
    obtain ⟨m, hm⟩ : ∃ m, n - x.l.length = m + 1 := ⟨n - x.l.length - 1, by omega⟩
    rw [hm, pFrom_succ] at hG
    refine WC_skip ?_
    refine WQ_next ?_
    refine WC_seq ?_
    refine WC_block ?_
    refine WC_region ?_
    refine WL_op rfl (Ex_move rfl) ?_
    refine WL_op rfl (Ex_move rfl) ?_
    refine WL_callRV fn182 rfl rfl 0 rfl h0.base (Rc_F h0) (hE.out x.r (by omega)) (fun hm => WD_pan (WD_pan (WD_pan (WD_pan (WD_pan (WD_end (rd_no hG hm))))))) ?_
    rintro v cs' R' ⟨x1, r1, hp, rfl, hr1, y, hy, rfl, hR, hok1⟩
    subst hy
    refine WL_imp hR.left ?_
    refine WL_know (p := (tyV y).all (·.oneCell') = true) (fun w hs => one_Type y w hs.res.1) ?_
    intro hone
    refine WL_imp (list_push _ _ _ _) ?_
    refine WL_bs rfl (ts rfl) (tz rfl) rfl rfl rfl rfl rfl ?_
    intro b1 hb1
    refine WL_app rfl (ta rfl) rfl rfl (row_whole 0 rfl) rfl hone ?_ ?_ ?_
    · unfold maxLen; omega
    · omega
    intro v1
    refine WL_op rfl (Ex_assign rfl) ?_
    refine WL_nil ?_
    refine WQ_bnext ?_
    refine WQ_next ?_
    refine WC_region ?_
    (first | (refine WL_op rfl (Ex_inc rfl rfl ?_) ?_; omega) | (refine WL_op rfl (Ex_addB rfl rfl ?_) ?_; omega) | refine WL_op rfl (Ex_add rfl rfl) ?_)
    refine WL_op rfl (Ex_move rfl) ?_
    refine WL_nil ?_
    refine WQ_same (s := 13) (v' := .int .i64 ((x.l ++ [y]).length : Nat)) rfl (by rw [List.length_append]; rfl) ?_
    refine WQ_again (⟨r1, v1, x.l ++ [y]⟩) ?_ (⟨⟨by show (x.l ++ [y]).length ≤ n; rw [List.length_append]; simp only [List.length_singleton]; omega, by show r1.length ≤ r.length; omega⟩, ok_snoc hok hok1, by show Goes _ _ (some r1) (pFrom (pTy false) ((x.l ++ [y]).map fId) (n - (x.l ++ [y]).length)); rw [List.map_append, List.length_append, show n - (x.l.length + [y].length) = m by simp only [List.length_singleton]; omega]; have h9 := rd_next hG hp; exact h9⟩) 1 rfl (by show (ownA 71 2 _ _ _).and _ = _; rw [List.length_append, List.flatMap_append, List.map_append]; rfl) ⟨rfl, rfl, rfl, rfl, trivial⟩
    show n - (x.l ++ [y]).length < n - x.l.length; rw [List.length_append]; simp only [List.length_singleton]; omega
  · intro c1
    try (first | replace c1 := of_decide_eq_false c1 | replace c1 := of_nd_false c1)
    refine WC_exit ?_
    refine WQ_exit ?_
    refine WQ_lexit ?_
    refine WQ_here ?_
    refine WQ_next ?_
    refine WC_seq ?_
    refine WC_region ?_
    refine WL_op rfl (Ex_move rfl) ?_
    refine WL_op rfl (Ex_assign rfl) ?_
    refine WL_nil ?_
    refine WQ_next ?_
    refine WC_ret ?_
    refine Rc_end1 rfl rfl 0 rfl ?_
    rw [show n - x.l.length = 0 by omega, pFrom_zero] at hG; exact ⟨x.l.map fId, x.r, rd_done hG, rfl, hxr, x.l, rfl, Asr.Imp.right (Asr.fst _ _), by omega, hok⟩
theorem map_fId {α : Type} (l : List α) : l.map fId = l := by
  have : (fId : α → α) = id := rfl
  rw [this, List.map_id]
theorem rdTypE (U : World) (b : Nat) : RdP 182 #[.pointer (some ⟨b, 0, none⟩)] U b (pTy false) (repE fId tyV noA tyOk) := (rdTyp_any U b).mono fun t _ _ ⟨h1, h2, h3⟩ => ⟨t, rfl, h1, h3 ▸ Asr.toNone _, h2⟩
theorem rdTypes_any (U : World) (b most : Nat) : RdP 183 #[.pointer (some ⟨b, 0, none⟩), .int .i64 (most : Nat)] U b (pList true 1 most (pTy false)) (fun l v R' => R'.Imp (tysA v l) ∧ tysOk l) := by
  intro r hrl w h0
  have hS := Goes.first (some r) (pList true 1 most (pTy false))
  refine opensF (h0.sat) (args := [.pointer (some ⟨b, 0, none⟩), .int .i64 (most : Nat)]) Tryz.func183 rfl Tryz.ntmps183 ?_
  refine WC_seq ?_
  refine WC_region ?_
  refine WL_op rfl (Ex_assign rfl) ?_
  refine WL_nil ?_
  refine WQ_next ?_
  refine WC_seq ?_
  refine WC_region ?_
  refine WL_op rfl (Ex_move rfl) ?_
  refine WL_callR0 fn115 rfl rfl 0 rfl h0.base (Rc_F h0) (rdNbyte_any U b r hrl) (fun hm => WD_pan (WD_end (by first | exact rd_no hS hm | exact hS.trans hm))) ?_
  rintro v cs' ⟨R', n, r1, hp, rfl, hr1, rfl, hn, -⟩
  replace hS := rd_next hS hp
  rw [toI_small (show n < 9223372036854775808 by omega)]
  refine WL_op rfl (Ex_move rfl) ?_
  refine WL_op rfl (Ex_move rfl) ?_
  refine WL_op rfl (Ex_func rfl) ?_
  refine WL_callR fn283 rfl rfl 0 rfl h0.base (Rc_F h0) (rdListType_any U b n most (by omega) (rdTypE U b) r1 (by omega)) (fun hm => WD_pan (WD_end (by first | exact rd_no hS hm | exact hS.trans hm))) ?_
  rintro v cs' R' ⟨l, r2, hp2, rfl, hr2, ls, hls, hR, hll, hlo⟩
  rw [map_fId] at hls; subst hls
  refine WL_imp (hR.left.trans (Asr.assoc _ _ _)) ?_
  refine WL_op rfl (Ex_assign rfl) ?_
  refine WL_nil ?_
  refine WQ_next ?_
  refine WC_ret ?_
  refine Rc_end1 rfl rfl 0 rfl ?_
  exact ⟨ls, r2, hS.trans hp2, rfl, by omega, Asr.fst _ _, ⟨by omega, hlo⟩⟩
set_option maxHeartbeats 2000000 in
theorem rdInstr_any (U : World) (b : Nat) : RdP 186 #[.pointer (some ⟨b, 0, none⟩)] U b (pIns false true) (repE fIns insC insA okIns) := by
  intro r hrl w h0
  have hS := Goes.first (some r) (pIns false true)
  refine opensF (h0.sat) (args := [.pointer (some ⟨b, 0, none⟩)]) Tryz.func186 rfl Tryz.ntmps186 ?_
  refine WC_seq ?_
  refine WC_region ?_
  refine WL_alloc rfl (tz rfl) ?_
  intro b1 hb1
  refine WL_nil ?_
  refine WQ_next ?_
  refine WC_seq ?_
  refine WC_region ?_
  refine WL_op rfl (Ex_move rfl) ?_
  refine WL_callR0 fn115 rfl rfl 1 rfl h0.base (Rc_F h0) (rdByte_any U b r hrl) (fun hm => WD_pan (WD_end (rd_no hS hm))) ?_
  rintro v cs' ⟨R', op, r1, hp, rfl, hr1, rfl, hop, -, -⟩
  replace hS := rd_next hS hp
  refine WL_op rfl (Ex_build (tb rfl) rfl rfl) ?_
  refine WL_alloc rfl (tz rfl) ?_
  intro b2 hb2
  refine WL_storeN (tn rfl) rfl rfl 0 rfl rfl rfl rfl ?_
  refine WL_nil ?_
  refine WQ_next ?_
  refine WC_seq ?_
  refine WC_seq ?_
  refine WC_region ?_
  refine WL_op rfl (Ex_field (ff rfl) rfl) ?_
  refine WL_op rfl (Ex_load (t1 rfl) rfl (cell_mine 0 rfl rfl)) ?_
  refine WL_call fn284 rfl rfl (fun w _ => operandOf_any _ w) ?_
  refine WL_nil ?_
  refine WQ_next ?_
  refine WC_block ?_
  refine WC_seq ?_
  refine WC_region ?_
  refine WL_op rfl (Ex_eql rfl rfl) ?_
  refine WL_op rfl (Ex_assign rfl) ?_
  refine WL_nil ?_
  refine WQ_next ?_
  refine WC_if rfl ?_ ?_  -- cond 1 read.go:115
  · intro c1
    try (first | replace c1 := of_decide_eq_true c1 | replace c1 := of_nd_true c1)
    rw [insP1 ((opd_sort (by omega)).1 c1)] at hS
    refine WC_region ?_
    refine WL_op rfl (Ex_move rfl) ?_
    refine WL_callR0 fn285 rfl rfl 2 rfl h0.base (Rc_F h0) (rdEight_any U b r1 (by omega)) (fun hm => WD_pan (WD_pan (WD_end (rd_no hS hm)))) ?_
    rintro v cs' ⟨R', n, r2, hp2, rfl, hr2, rfl, hn, -, -⟩
    replace hS := rd_next hS hp2
    refine WL_op rfl (Ex_field (ff rfl) rfl) ?_
    refine WL_store (t1 rfl) rfl rfl 0 rfl rfl rfl rfl ?_
    refine WL_nil ?_
    refine WQ_bnext ?_
    refine WQ_next ?_
    refine WC_seq ?_
    refine WC_region ?_
    refine WL_op rfl (Ex_loadM (tn rfl) rfl 0 rfl rfl) ?_
    refine WL_storeN (tn rfl) rfl rfl 1 rfl rfl rfl rfl ?_
    refine WL_nil ?_
    refine WQ_next ?_
    refine WC_ret ?_
    refine Rc_endR (Res_1 rfl (RV_cellN (tn rfl) rfl (row_whole 1 rfl) rfl)) 2 rfl ?_
    first | exact ⟨⟨op, 0, ⟨c, nm, ps, t⟩⟩, r4, rd_done hS, rfl, by omega, (_, _), rfl, rfl, Asr.fst _ _, ⟨hop, intOk_0, strOk_255 hc, strOk_255 hnm, ht⟩, hps⟩ | exact ⟨⟨op, 0, ⟨c, nm, [], t⟩⟩, r4, rd_done hS, rfl, by omega, (_, nilS), rfl, rfl, tysA_nil _, ⟨hop, intOk_0, strOk_255 hc, strOk_255 hnm, ht⟩, tysOk_nil⟩ | exact ⟨⟨op, 0, ⟨c, mt, [], ⟨0, mt⟩⟩⟩, r2, rd_done hS, rfl, by omega, (_, nilS), rfl, rfl, tysA_nil _, ⟨hop, intOk_0, strOk_255 hc, strOk_mt, tyOk_0⟩, tysOk_nil⟩ | exact ⟨⟨op, n, rf0⟩, r2, rd_done hS, rfl, by omega, (_, nilS), rfl, rfl, tysA_nil _, ⟨hop, hn, rfOk_0⟩, tysOk_nil⟩ | exact ⟨⟨op, 0, rf0⟩, r1, rd_done hS, rfl, by omega, (_, nilS), rfl, rfl, tysA_nil _, ⟨hop, intOk_0, rfOk_0⟩, tysOk_nil⟩
  · intro c1
    try (first | replace c1 := of_decide_eq_false c1 | replace c1 := of_nd_false c1)
    refine WC_seq ?_
    refine WC_region ?_
    refine WL_op rfl (Ex_eql rfl rfl) ?_
    refine WL_op rfl (Ex_assign rfl) ?_
    refine WL_nil ?_
    refine WQ_next ?_
    refine WC_if rfl ?_ ?_  -- cond 2 read.go:117
    · intro c2
      try (first | replace c2 := of_decide_eq_true c2 | replace c2 := of_nd_true c2)
      rw [insP2 ((opd_sort (by omega)).1 c2)] at hS
      refine WC_region ?_
      refine WL_op rfl (Ex_move rfl) ?_
      refine WL_callR0 fn115 rfl rfl 2 rfl h0.base (Rc_F h0) (rdByte_any U b r1 (by omega)) (fun hm => WD_pan (WD_pan (WD_end (rd_no hS hm)))) ?_
      rintro v cs' ⟨R', n, r2, hp2, rfl, hr2, rfl, hn, -, -⟩
      replace hS := rd_next hS hp2
      refine WL_op rfl (Ex_field (ff rfl) rfl) ?_
      refine WL_store (t1 rfl) rfl rfl 0 rfl rfl rfl rfl ?_
      refine WL_nil ?_
      refine WQ_bnext ?_
      refine WQ_next ?_
      refine WC_seq ?_
      refine WC_region ?_
      refine WL_op rfl (Ex_loadM (tn rfl) rfl 0 rfl rfl) ?_
      refine WL_storeN (tn rfl) rfl rfl 1 rfl rfl rfl rfl ?_
      refine WL_nil ?_
      refine WQ_next ?_
      refine WC_ret ?_
      refine Rc_endR (Res_1 rfl (RV_cellN (tn rfl) rfl (row_whole 1 rfl) rfl)) 2 rfl ?_
      first | exact ⟨⟨op, 0, ⟨c, nm, ps, t⟩⟩, r4, rd_done hS, rfl, by omega, (_, _), rfl, rfl, Asr.fst _ _, ⟨hop, intOk_0, strOk_255 hc, strOk_255 hnm, ht⟩, hps⟩ | exact ⟨⟨op, 0, ⟨c, nm, [], t⟩⟩, r4, rd_done hS, rfl, by omega, (_, nilS), rfl, rfl, tysA_nil _, ⟨hop, intOk_0, strOk_255 hc, strOk_255 hnm, ht⟩, tysOk_nil⟩ | exact ⟨⟨op, 0, ⟨c, mt, [], ⟨0, mt⟩⟩⟩, r2, rd_done hS, rfl, by omega, (_, nilS), rfl, rfl, tysA_nil _, ⟨hop, intOk_0, strOk_255 hc, strOk_mt, tyOk_0⟩, tysOk_nil⟩ | exact ⟨⟨op, n, rf0⟩, r2, rd_done hS, rfl, by omega, (_, nilS), rfl, rfl, tysA_nil _, ⟨hop, hn, rfOk_0⟩, tysOk_nil⟩ | exact ⟨⟨op, 0, rf0⟩, r1, rd_done hS, rfl, by omega, (_, nilS), rfl, rfl, tysA_nil _, ⟨hop, intOk_0, rfOk_0⟩, tysOk_nil⟩
    · intro c2
      try (first | replace c2 := of_decide_eq_false c2 | replace c2 := of_nd_false c2)
      refine WC_seq ?_
      refine WC_region ?_
      refine WL_op rfl (Ex_eql rfl rfl) ?_
      refine WL_op rfl (Ex_assign rfl) ?_
      refine WL_nil ?_
      refine WQ_next ?_
      refine WC_if rfl ?_ ?_  -- cond 3 read.go:119
      · intro c3
        try (first | replace c3 := of_decide_eq_true c3 | replace c3 := of_nd_true c3)
        rw [insP3 ((opd_sort (by omega)).1 c3)] at hS
        refine WC_region ?_
        refine WL_op rfl (Ex_move rfl) ?_
        refine WL_callR0 fn185 rfl rfl 2 rfl h0.base (Rc_F h0) (rdTwo_any U b r1 (by omega)) (fun hm => WD_pan (WD_pan (WD_end (rd_no hS hm)))) ?_
        rintro v cs' ⟨R', n, r2, hp2, rfl, hr2, rfl, hn, -, -⟩
        replace hS := rd_next hS hp2
        refine WL_op rfl (Ex_field (ff rfl) rfl) ?_
        refine WL_store (t1 rfl) rfl rfl 0 rfl rfl rfl rfl ?_
        refine WL_nil ?_
        refine WQ_bnext ?_
        refine WQ_next ?_
        refine WC_seq ?_
        refine WC_region ?_
        refine WL_op rfl (Ex_loadM (tn rfl) rfl 0 rfl rfl) ?_
        refine WL_storeN (tn rfl) rfl rfl 1 rfl rfl rfl rfl ?_
        refine WL_nil ?_
        refine WQ_next ?_
        refine WC_ret ?_
        refine Rc_endR (Res_1 rfl (RV_cellN (tn rfl) rfl (row_whole 1 rfl) rfl)) 2 rfl ?_
        first | exact ⟨⟨op, 0, ⟨c, nm, ps, t⟩⟩, r4, rd_done hS, rfl, by omega, (_, _), rfl, rfl, Asr.fst _ _, ⟨hop, intOk_0, strOk_255 hc, strOk_255 hnm, ht⟩, hps⟩ | exact ⟨⟨op, 0, ⟨c, nm, [], t⟩⟩, r4, rd_done hS, rfl, by omega, (_, nilS), rfl, rfl, tysA_nil _, ⟨hop, intOk_0, strOk_255 hc, strOk_255 hnm, ht⟩, tysOk_nil⟩ | exact ⟨⟨op, 0, ⟨c, mt, [], ⟨0, mt⟩⟩⟩, r2, rd_done hS, rfl, by omega, (_, nilS), rfl, rfl, tysA_nil _, ⟨hop, intOk_0, strOk_255 hc, strOk_mt, tyOk_0⟩, tysOk_nil⟩ | exact ⟨⟨op, n, rf0⟩, r2, rd_done hS, rfl, by omega, (_, nilS), rfl, rfl, tysA_nil _, ⟨hop, hn, rfOk_0⟩, tysOk_nil⟩ | exact ⟨⟨op, 0, rf0⟩, r1, rd_done hS, rfl, by omega, (_, nilS), rfl, rfl, tysA_nil _, ⟨hop, intOk_0, rfOk_0⟩, tysOk_nil⟩
      · intro c3
        try (first | replace c3 := of_decide_eq_false c3 | replace c3 := of_nd_false c3)
        refine WC_seq ?_
        refine WC_region ?_
        refine WL_op rfl (Ex_eql rfl rfl) ?_
        refine WL_op rfl (Ex_assign rfl) ?_
        refine WL_nil ?_
        refine WQ_next ?_
        refine WC_if rfl ?_ ?_  -- cond 4 read.go:121
        · intro c4
          try (first | replace c4 := of_decide_eq_true c4 | replace c4 := of_nd_true c4)
          rw [insP4 ((opd_sort (by omega)).1 c4)] at hS
          refine WC_region ?_
          refine WL_op rfl (Ex_move rfl) ?_
          refine WL_callR0 fn113 rfl rfl 2 rfl h0.base (Rc_F h0) (rdName_any U b r1 (by omega)) (fun hm => WD_pan (WD_pan (WD_end (rd_no hS hm)))) ?_
          rintro v cs' ⟨R', c, r2, hp2, rfl, hr2, rfl, hc, -⟩
          replace hS := rd_next hS hp2
          refine WL_op rfl (Ex_build (tb rfl) rfl rfl) ?_
          refine WL_op rfl (Ex_field (ff rfl) rfl) ?_
          refine WL_storeN (tn rfl) rfl rfl 0 rfl rfl rfl rfl ?_
          refine WL_nil ?_
          refine WQ_bnext ?_
          refine WQ_next ?_
          refine WC_seq ?_
          refine WC_region ?_
          refine WL_op rfl (Ex_loadM (tn rfl) rfl 0 rfl rfl) ?_
          refine WL_storeN (tn rfl) rfl rfl 1 rfl rfl rfl rfl ?_
          refine WL_nil ?_
          refine WQ_next ?_
          refine WC_ret ?_
          refine Rc_endR (Res_1 rfl (RV_cellN (tn rfl) rfl (row_whole 1 rfl) rfl)) 2 rfl ?_
          first | exact ⟨⟨op, 0, ⟨c, nm, ps, t⟩⟩, r4, rd_done hS, rfl, by omega, (_, _), rfl, rfl, Asr.fst _ _, ⟨hop, intOk_0, strOk_255 hc, strOk_255 hnm, ht⟩, hps⟩ | exact ⟨⟨op, 0, ⟨c, nm, [], t⟩⟩, r4, rd_done hS, rfl, by omega, (_, nilS), rfl, rfl, tysA_nil _, ⟨hop, intOk_0, strOk_255 hc, strOk_255 hnm, ht⟩, tysOk_nil⟩ | exact ⟨⟨op, 0, ⟨c, mt, [], ⟨0, mt⟩⟩⟩, r2, rd_done hS, rfl, by omega, (_, nilS), rfl, rfl, tysA_nil _, ⟨hop, intOk_0, strOk_255 hc, strOk_mt, tyOk_0⟩, tysOk_nil⟩ | exact ⟨⟨op, n, rf0⟩, r2, rd_done hS, rfl, by omega, (_, nilS), rfl, rfl, tysA_nil _, ⟨hop, hn, rfOk_0⟩, tysOk_nil⟩ | exact ⟨⟨op, 0, rf0⟩, r1, rd_done hS, rfl, by omega, (_, nilS), rfl, rfl, tysA_nil _, ⟨hop, intOk_0, rfOk_0⟩, tysOk_nil⟩
        · intro c4
          try (first | replace c4 := of_decide_eq_false c4 | replace c4 := of_nd_false c4)
          refine WC_seq ?_
          refine WC_region ?_
          refine WL_op rfl (Ex_eql rfl rfl) ?_
          refine WL_op rfl (Ex_assign rfl) ?_
          refine WL_nil ?_
          refine WQ_next ?_
          refine WC_if rfl ?_ ?_  -- cond 5 read.go:123
          · intro c5
            try (first | replace c5 := of_decide_eq_true c5 | replace c5 := of_nd_true c5)
            rw [insP5 ((opd_sort (by omega)).1 c5)] at hS
            refine WC_region ?_
            refine WL_op rfl (Ex_move rfl) ?_
            refine WL_callR0 fn113 rfl rfl 2 rfl h0.base (Rc_F h0) (rdName_any U b r1 (by omega)) (fun hm => WD_pan (WD_pan (WD_end (rd_no hS hm)))) ?_
            rintro v cs' ⟨R', c, r2, hp2, rfl, hr2, rfl, hc, -⟩
            replace hS := rd_next hS hp2
            refine WL_op rfl (Ex_move rfl) ?_
            refine WL_callR0 fn113 rfl rfl 2 rfl h0.base (Rc_F h0) (rdName_any U b r2 (by omega)) (fun hm => WD_pan (WD_pan (WD_end (rd_no hS hm)))) ?_
            rintro v cs' ⟨R', nm, r3, hp3, rfl, hr3, rfl, hnm, -⟩
            replace hS := rd_next hS hp3
            refine WL_op rfl (Ex_move rfl) ?_
            refine WL_callR0 fn182 rfl rfl 2 rfl h0.base (Rc_F h0) (rdTyp_any U b r3 (by omega)) (fun hm => WD_pan (WD_pan (WD_end (rd_no hS hm)))) ?_
            rintro v cs' ⟨R', t, r4, hp4, rfl, hr4, rfl, ht, -⟩
            replace hS := rd_next hS hp4
            refine WL_op rfl (Ex_build (tb rfl) rfl rfl) ?_
            refine WL_op rfl (Ex_field (ff rfl) rfl) ?_
            refine WL_storeN (tn rfl) rfl rfl 0 rfl rfl rfl rfl ?_
            refine WL_nil ?_
            refine WQ_bnext ?_
            refine WQ_next ?_
            refine WC_seq ?_
            refine WC_region ?_
            refine WL_op rfl (Ex_loadM (tn rfl) rfl 0 rfl rfl) ?_
            refine WL_storeN (tn rfl) rfl rfl 1 rfl rfl rfl rfl ?_
            refine WL_nil ?_
            refine WQ_next ?_
            refine WC_ret ?_
            refine Rc_endR (Res_1 rfl (RV_cellN (tn rfl) rfl (row_whole 1 rfl) rfl)) 2 rfl ?_
            first | exact ⟨⟨op, 0, ⟨c, nm, ps, t⟩⟩, r4, rd_done hS, rfl, by omega, (_, _), rfl, rfl, Asr.fst _ _, ⟨hop, intOk_0, strOk_255 hc, strOk_255 hnm, ht⟩, hps⟩ | exact ⟨⟨op, 0, ⟨c, nm, [], t⟩⟩, r4, rd_done hS, rfl, by omega, (_, nilS), rfl, rfl, tysA_nil _, ⟨hop, intOk_0, strOk_255 hc, strOk_255 hnm, ht⟩, tysOk_nil⟩ | exact ⟨⟨op, 0, ⟨c, mt, [], ⟨0, mt⟩⟩⟩, r2, rd_done hS, rfl, by omega, (_, nilS), rfl, rfl, tysA_nil _, ⟨hop, intOk_0, strOk_255 hc, strOk_mt, tyOk_0⟩, tysOk_nil⟩ | exact ⟨⟨op, n, rf0⟩, r2, rd_done hS, rfl, by omega, (_, nilS), rfl, rfl, tysA_nil _, ⟨hop, hn, rfOk_0⟩, tysOk_nil⟩ | exact ⟨⟨op, 0, rf0⟩, r1, rd_done hS, rfl, by omega, (_, nilS), rfl, rfl, tysA_nil _, ⟨hop, intOk_0, rfOk_0⟩, tysOk_nil⟩
          · intro c5
            try (first | replace c5 := of_decide_eq_false c5 | replace c5 := of_nd_false c5)
            refine WC_seq ?_
            refine WC_region ?_
            refine WL_op rfl (Ex_eql rfl rfl) ?_
            refine WL_op rfl (Ex_assign rfl) ?_
            refine WL_nil ?_
            refine WQ_next ?_
            refine WC_if rfl ?_ ?_  -- cond 6 read.go:125
            · intro c6
              try (first | replace c6 := of_decide_eq_true c6 | replace c6 := of_nd_true c6)
              rw [insP6 ((opd_sort (by omega)).1 c6)] at hS
              refine WC_region ?_
              refine WL_op rfl (Ex_move rfl) ?_
              refine WL_callR0 fn113 rfl rfl 2 rfl h0.base (Rc_F h0) (rdName_any U b r1 (by omega)) (fun hm => WD_pan (WD_pan (WD_end (rd_no hS hm)))) ?_
              rintro v cs' ⟨R', c, r2, hp2, rfl, hr2, rfl, hc, -⟩
              replace hS := rd_next hS hp2
              refine WL_op rfl (Ex_move rfl) ?_
              refine WL_callR0 fn113 rfl rfl 2 rfl h0.base (Rc_F h0) (rdName_any U b r2 (by omega)) (fun hm => WD_pan (WD_pan (WD_end (rd_no hS hm)))) ?_
              rintro v cs' ⟨R', nm, r3, hp3, rfl, hr3, rfl, hnm, -⟩
              replace hS := rd_next hS hp3
              refine WL_op rfl (Ex_move rfl) ?_
              refine WL_callR fn183 rfl rfl 2 rfl h0.base (Rc_F h0) (rdTypes_any U b 6 r3 (by omega)) (fun hm => WD_pan (WD_pan (WD_end (rd_no hS hm)))) ?_
              rintro pv cs' R' ⟨ps, rx, hpx, rfl, hrx, hR, hps⟩
              replace hS := rd_next hS hpx
              refine WL_imp hR.left ?_
              refine WL_know (p := ∃ p l c, pv = .slice p l c) (fun w hs => owns_slice hs.res.1) ?_
              rintro ⟨p1, l1, c1', hpv⟩
              subst hpv
              refine WL_op rfl (Ex_move rfl) ?_
              refine WL_callR0 fn182 rfl rfl 2 rfl h0.base (Rc_F h0) (rdTyp_any U b rx (by omega)) (fun hm => WD_pan (WD_pan (WD_end (rd_no hS hm)))) ?_
              rintro v cs' ⟨R', t, r4, hp4, rfl, hr4, rfl, ht, -⟩
              replace hS := rd_next hS hp4
              refine WL_op rfl (Ex_build (tb rfl) rfl rfl) ?_
              refine WL_op rfl (Ex_field (ff rfl) rfl) ?_
              refine WL_storeN (tn rfl) rfl rfl 0 rfl rfl rfl rfl ?_
              refine WL_nil ?_
              refine WQ_bnext ?_
              refine WQ_next ?_
              refine WC_seq ?_
              refine WC_region ?_
              refine WL_op rfl (Ex_loadM (tn rfl) rfl 0 rfl rfl) ?_
              refine WL_storeN (tn rfl) rfl rfl 1 rfl rfl rfl rfl ?_
              refine WL_nil ?_
              refine WQ_next ?_
              refine WC_ret ?_
              refine Rc_endR (Res_1 rfl (RV_cellN (tn rfl) rfl (row_whole 1 rfl) rfl)) 2 rfl ?_
              first | exact ⟨⟨op, 0, ⟨c, nm, ps, t⟩⟩, r4, rd_done hS, rfl, by omega, (_, _), rfl, rfl, Asr.fst _ _, ⟨hop, intOk_0, strOk_255 hc, strOk_255 hnm, ht⟩, hps⟩ | exact ⟨⟨op, 0, ⟨c, nm, [], t⟩⟩, r4, rd_done hS, rfl, by omega, (_, nilS), rfl, rfl, tysA_nil _, ⟨hop, intOk_0, strOk_255 hc, strOk_255 hnm, ht⟩, tysOk_nil⟩ | exact ⟨⟨op, 0, ⟨c, mt, [], ⟨0, mt⟩⟩⟩, r2, rd_done hS, rfl, by omega, (_, nilS), rfl, rfl, tysA_nil _, ⟨hop, intOk_0, strOk_255 hc, strOk_mt, tyOk_0⟩, tysOk_nil⟩ | exact ⟨⟨op, n, rf0⟩, r2, rd_done hS, rfl, by omega, (_, nilS), rfl, rfl, tysA_nil _, ⟨hop, hn, rfOk_0⟩, tysOk_nil⟩ | exact ⟨⟨op, 0, rf0⟩, r1, rd_done hS, rfl, by omega, (_, nilS), rfl, rfl, tysA_nil _, ⟨hop, intOk_0, rfOk_0⟩, tysOk_nil⟩
            · intro c6
              try (first | replace c6 := of_decide_eq_false c6 | replace c6 := of_nd_false c6)
              rw [insP0 (fun h => c1 ((opd_sort (by omega)).2 h)) (fun h => c2 ((opd_sort (by omega)).2 h)) (fun h => c3 ((opd_sort (by omega)).2 h)) (fun h => c4 ((opd_sort (by omega)).2 h)) (fun h => c5 ((opd_sort (by omega)).2 h)) (fun h => c6 ((opd_sort (by omega)).2 h)) (fun h => by cases h)] at hS
              refine WC_skip ?_
              refine WQ_bnext ?_
              refine WQ_next ?_
              refine WC_seq ?_
              refine WC_region ?_
              refine WL_op rfl (Ex_loadM (tn rfl) rfl 0 rfl rfl) ?_
              refine WL_storeN (tn rfl) rfl rfl 1 rfl rfl rfl rfl ?_
              refine WL_nil ?_
              refine WQ_next ?_
              refine WC_ret ?_
              refine Rc_endR (Res_1 rfl (RV_cellN (tn rfl) rfl (row_whole 1 rfl) rfl)) 2 rfl ?_
              first | exact ⟨⟨op, 0, ⟨c, nm, ps, t⟩⟩, r4, rd_done hS, rfl, by omega, (_, _), rfl, rfl, Asr.fst _ _, ⟨hop, intOk_0, strOk_255 hc, strOk_255 hnm, ht⟩, hps⟩ | exact ⟨⟨op, 0, ⟨c, nm, [], t⟩⟩, r4, rd_done hS, rfl, by omega, (_, nilS), rfl, rfl, tysA_nil _, ⟨hop, intOk_0, strOk_255 hc, strOk_255 hnm, ht⟩, tysOk_nil⟩ | exact ⟨⟨op, 0, ⟨c, mt, [], ⟨0, mt⟩⟩⟩, r2, rd_done hS, rfl, by omega, (_, nilS), rfl, rfl, tysA_nil _, ⟨hop, intOk_0, strOk_255 hc, strOk_mt, tyOk_0⟩, tysOk_nil⟩ | exact ⟨⟨op, n, rf0⟩, r2, rd_done hS, rfl, by omega, (_, nilS), rfl, rfl, tysA_nil _, ⟨hop, hn, rfOk_0⟩, tysOk_nil⟩ | exact ⟨⟨op, 0, rf0⟩, r1, rd_done hS, rfl, by omega, (_, nilS), rfl, rfl, tysA_nil _, ⟨hop, intOk_0, rfOk_0⟩, tysOk_nil⟩
theorem rdHandler_any (U : World) (b : Nat) : RdP 188 #[.pointer (some ⟨b, 0, none⟩)] U b pHd (repE fId hdV noA hdOk) := by
  intro r hrl w h0
  have hS := Goes.first (some r) pHd
  refine opensF (h0.sat) (args := [.pointer (some ⟨b, 0, none⟩)]) Tryz.func188 rfl Tryz.ntmps188 ?_
  refine WC_seq ?_
  refine WC_region ?_
  refine WL_alloc rfl (tz rfl) ?_
  intro b1 hb1
  refine WL_nil ?_
  refine WQ_next ?_
  refine WC_seq ?_
  refine WC_region ?_
  refine WL_op rfl (Ex_move rfl) ?_
  refine WL_callR0 fn185 rfl rfl 1 rfl h0.base (Rc_F h0) (rdTwo_any U b r hrl) (fun hm => WD_pan (WD_end (rd_no hS hm))) ?_
  rintro v cs' ⟨R', x1, r1, hp, rfl, hr1, rfl, h1, -, -⟩
  replace hS := rd_next hS hp
  refine WL_op rfl (Ex_move rfl) ?_
  refine WL_callR0 fn185 rfl rfl 1 rfl h0.base (Rc_F h0) (rdTwo_any U b r1 (by omega)) (fun hm => WD_pan (WD_end (rd_no hS hm))) ?_
  rintro v cs' ⟨R', x2, r2, hp2, rfl, hr2, rfl, h2, -, -⟩
  replace hS := rd_next hS hp2
  refine WL_op rfl (Ex_move rfl) ?_
  refine WL_callR0 fn185 rfl rfl 1 rfl h0.base (Rc_F h0) (rdTwo_any U b r2 (by omega)) (fun hm => WD_pan (WD_end (rd_no hS hm))) ?_
  rintro v cs' ⟨R', x3, r3, hp3, rfl, hr3, rfl, h3, -, -⟩
  replace hS := rd_next hS hp3
  refine WL_op rfl (Ex_move rfl) ?_
  refine WL_callR0 fn113 rfl rfl 1 rfl h0.base (Rc_F h0) (rdName_any U b r3 (by omega)) (fun hm => WD_pan (WD_end (rd_no hS hm))) ?_
  rintro v cs' ⟨R', c, r4, hp4, rfl, hr4, rfl, hc, -⟩
  replace hS := rd_next hS hp4
  refine WL_op rfl (Ex_build (tb rfl) rfl rfl) ?_
  refine WL_storeN (tn rfl) rfl rfl 0 rfl rfl rfl rfl ?_
  refine WL_nil ?_
  refine WQ_next ?_
  refine WC_ret ?_
  refine Rc_endR (Res_1 rfl (RV_cellN (tn rfl) rfl (row_whole 0 rfl) rfl)) 1 rfl ?_
  exact ⟨_, r4, rd_done hS, rfl, by omega, ⟨x1, x2, x3, c⟩, rfl, rfl, .refl _, ⟨h1, h2, h3, strOk_255 hc⟩⟩
theorem rdField_any (U : World) (b : Nat) : RdP 116 #[.pointer (some ⟨b, 0, none⟩)] U b (pFd false) (repE fId fdV noA fdOk) := by
  intro r hrl w h0
  have hS := Goes.first (some r) (pFd false)
  refine opensF (h0.sat) (args := [.pointer (some ⟨b, 0, none⟩)]) Tryz.func116 rfl Tryz.ntmps116 ?_
  refine WC_seq ?_
  refine WC_region ?_
  refine WL_alloc rfl (tz rfl) ?_
  intro b1 hb1
  refine WL_nil ?_
  refine WQ_next ?_
  refine WC_seq ?_
  refine WC_region ?_
  refine WL_op rfl (Ex_move rfl) ?_
  refine WL_callR0 fn113 rfl rfl 1 rfl h0.base (Rc_F h0) (rdName_any U b r hrl) (fun hm => WD_pan (WD_end (rd_no hS hm))) ?_
  rintro v cs' ⟨R', c, r1, hp, rfl, hr1, rfl, hc, -⟩
  replace hS := rd_next hS hp
  refine WL_op rfl (Ex_move rfl) ?_
  refine WL_callR0 fn181 rfl rfl 1 rfl h0.base (Rc_F h0) (rdFlag_any U b r1 (by omega)) (fun hm => WD_pan (WD_end (rd_no hS hm))) ?_
  rintro v cs' ⟨R', st, r2, hp2, rfl, hr2, rfl, -⟩
  replace hS := rd_next hS hp2
  refine WL_op rfl (Ex_move rfl) ?_
  refine WL_callR0 fn182 rfl rfl 1 rfl h0.base (Rc_F h0) (rdTyp_any U b r2 (by omega)) (fun hm => WD_pan (WD_end (rd_no hS hm))) ?_
  rintro v cs' ⟨R', t, r3, hp3, rfl, hr3, rfl, ht, -⟩
  replace hS := rd_next hS hp3
  refine WL_op rfl (Ex_build (tb rfl) rfl rfl) ?_
  refine WL_storeN (tn rfl) rfl rfl 0 rfl rfl rfl rfl ?_
  refine WL_nil ?_
  refine WQ_next ?_
  refine WC_ret ?_
  refine Rc_endR (Res_1 rfl (RV_cellN (tn rfl) rfl (row_whole 0 rfl) rfl)) 1 rfl ?_
  exact ⟨_, r3, rd_done hS, rfl, by omega, ⟨c, st, t⟩, rfl, rfl, .refl _, ⟨strOk_255 hc, ht⟩⟩
theorem rdFrame_any (U : World) (b : Nat) : RdP 190 #[.pointer (some ⟨b, 0, none⟩)] U b (pFr false true) (repE fFr frC frA okFr) := by
  intro r hrl w h0
  have hS := Goes.first (some r) (pFr false true)
  refine opensF (h0.sat) (args := [.pointer (some ⟨b, 0, none⟩)]) Tryz.func190 rfl Tryz.ntmps190 ?_
  refine WC_seq ?_
  refine WC_region ?_
  refine WL_alloc rfl (tz rfl) ?_
  intro b1 hb1
  refine WL_nil ?_
  refine WQ_next ?_
  refine WC_seq ?_
  refine WC_region ?_
  refine WL_op rfl (Ex_move rfl) ?_
  refine WL_callR0 fn185 rfl rfl 1 rfl h0.base (Rc_F h0) (rdTwo_any U b r hrl) (fun hm => WD_pan (WD_end (rd_no hS hm))) ?_
  rintro v cs' ⟨R', x1, r1, hp, rfl, hr1, rfl, h1, -, -⟩
  replace hS := rd_next hS hp
  refine WL_op rfl (Ex_move rfl) ?_
  refine WL_callR fn183 rfl rfl 1 rfl h0.base (Rc_F h0) (rdTypes_any U b 20 r1 (by omega)) (fun hm => WD_pan (WD_end (rd_no hS hm))) ?_
  rintro lv cs' R' ⟨ls, r2, hp2, rfl, hr2, hR, hls⟩
  replace hS := rd_next hS hp2
  refine WL_imp hR.left ?_
  refine WL_know (p := ∃ p l c, lv = .slice p l c) (fun w hs => owns_slice hs.res.1) ?_
  rintro ⟨p1, l1, c1', hpv⟩
  subst hpv
  refine WL_op rfl (Ex_move rfl) ?_
  refine WL_callR fn183 rfl rfl 1 rfl h0.base (Rc_F h0) (rdTypes_any U b 20 r2 (by omega)) (fun hm => WD_pan (WD_end (rd_no hS hm))) ?_
  rintro sv cs' R'' ⟨ss, r3, hp3, rfl, hr3, hR2, hss⟩
  replace hS := rd_next hS hp3
  refine WL_imp hR2.left ?_
  refine WL_know (p := ∃ p l c, sv = .slice p l c) (fun w hs => owns_slice hs.res.1) ?_
  rintro ⟨p2, l2, c2', hsv⟩
  subst hsv
  refine WL_op rfl (Ex_build (tb rfl) rfl rfl) ?_
  refine WL_storeN (tn rfl) rfl rfl 0 rfl rfl rfl rfl ?_
  refine WL_nil ?_
  refine WQ_next ?_
  refine WC_ret ?_
  refine Rc_endR (Res_1 rfl (RV_cellN (tn rfl) rfl (row_whole 0 rfl) rfl)) 1 rfl ?_
  exact ⟨_, r3, rd_done hS, rfl, by omega, (⟨x1, ls, ss⟩, .slice p1 l1 c1', .slice p2 l2 c2'), rfl, rfl, ((Asr.cossa _ _ _).trans (Asr.fst _ _)).trans (Asr.comm _ _), ⟨h1, hls, hss⟩⟩
end Go.Proofs.YtpofmnfkdkmieaaGreat
namespace Go.Proofs.YtpofmnfkdkmieaaGreat
open Go Go.RowKit At E

def tyX : List Ty := [⟨77, mt⟩, ⟨77, mt⟩]
end Go.Proofs.YtpofmnfkdkmieaaGreat
namespace Go.Proofs.YtpofmnfkdkmieaaGreat
open Go Go.RowKit At E

def tyRow (l : List Ty) : List Ty := l ++ tyX
end Go.Proofs.YtpofmnfkdkmieaaGreat
namespace Go.Proofs.YtpofmnfkdkmieaaGreat.E
open Go Go.RowKit

structure WA (P : Program) (n : Nat) (all : Array Oper) (fuel : Nat) (listed : Array Bool) (E : Env) (w0 : World) (F : List Nat) (H : Hp) (R : Asr) (fn : Func) (Z : Ending → World → Prop) (κ : List Kf) : Prop where
  go : ∀ w, Sat w0 F H R w → ∀ a, Ag n a E → wpAny P .any all (den P fn Z κ) fuel listed a w

section
variable {P : Program} {n : Nat} {E : Env} {w0 : World} {F : List Nat} {H : Hp} {R : Asr} {fn : Func} {Z : Ending → World → Prop} {κ : List Kf}

theorem WC_any {id : Nat} {l : List Oper} (hm : P.follows .mixedOrders = true) (h : WA P n l.toArray l.length (Array.replicate l.length false) E w0 F H R fn Z κ) : WC P n (.region id l.toArray true) E w0 F H R fn Z κ :=
  ⟨fun w hs a ha => wp_region_any hm (by rw [List.size_toArray]; exact h.go _ (hs.drawn _) a ha)⟩
theorem WA_done {all : Array Oper} {fuel : Nat} {listed : Array Bool} (hr : Region.ready .any all listed = []) (h : WQ P n .normal E w0 F H R fn Z κ) : WA P n all fuel listed E w0 F H R fn Z κ :=
  ⟨fun w hs a ha => wpAny_done hr (h.go w hs a ha) fuel⟩
theorem WA_step {all : Array Oper} {fuel : Nat} {listed : Array Bool} {rs : List Nat} (hr : Region.ready .any all listed = rs) (hne : rs ≠ [])
    (h : ∀ i ∈ rs, ∃ o, all[i]? = some o ∧ WL P n all [o] E w0 F H R fn Z (⟨2, 0, .skip, wpAny P .any all (den P fn Z κ) fuel (listed.setIfInBounds i true)⟩ :: κ)) : WA P n all (fuel + 1) listed E w0 F H R fn Z κ :=
  ⟨fun w hs a ha => wpAny_all hr hne fun i hi => by
    obtain ⟨o, ho, hw⟩ := h i hi
    have h1 := hw.go w hs a ha
    unfold wpOp
    rw [ho]
    simp only [wpList] at h1
    simp only
    split
    · rename_i hwant
      rw [if_pos hwant] at h1
      rcases h1 with h1 | ⟨h1, a0, w1, h2⟩
      · left
        unfold Oper.wp at h1 ⊢
        generalize (execOp a.eval o).run P w = r at *
        cases r with
        | ok nx w' =>
          cases nx <;> simp only [Oper.upon] at h1 ⊢ <;>
            first
              | exact h1
              | exact Calls.mono h1 (fun e w'' he => by cases e <;> exact he)
              | exact Rows.mono h1 (fun _ _ he => he)
        | halt x w' => cases x <;> simp only [Oper.upon] at h1 ⊢ <;> exact h1
      · exact .inr ⟨h1, a0, w1, h2⟩
    · rename_i hwant
      rw [if_neg hwant] at h1
      exact h1⟩
theorem WQ_any {all : Array Oper} {fuel : Nat} {listed : Array Bool} (h : WA P n all fuel listed E w0 F H R fn Z κ) : WQ P n .normal E w0 F H R fn Z (⟨2, 0, .skip, wpAny P .any all (den P fn Z κ) fuel listed⟩ :: κ) := ⟨h.go⟩
end
end Go.Proofs.YtpofmnfkdkmieaaGreat.E
namespace Go.Proofs.YtpofmnfkdkmieaaGreat.E
open Go Go.RowKit

section
variable {w1 : World} {F1 : List Nat} {H1 : Hp} {R1 : Asr} {P : Program} {n : Nat} {E : Env} {w0 : World} {F : List Nat} {H : Hp} {R : Asr} {fn : Func} {Z : Ending → World → Prop} {κ : List Kf}

end
end Go.Proofs.YtpofmnfkdkmieaaGreat.E
namespace Go.Proofs.YtpofmnfkdkmieaaGreat
open Go Go.RowKit At E

def frRows (f : Fr) : List (List Ty) := [tyRow f.locals, tyRow f.stack]
end Go.Proofs.YtpofmnfkdkmieaaGreat
namespace Go.Proofs.YtpofmnfkdkmieaaGreat
open Go Go.RowKit At E

def mT (m : Me) : List (List Ty) := tyRow m.params :: (m.code.map (fun i => tyRow i.ref.params) ++ m.frames.flatMap frRows)
theorem mT_len (m : Me) : (mT m).length = 1 + m.code.length + 2 * m.frames.length := by
  have h : ∀ l : List Fr, (l.flatMap frRows).length = 2 * l.length := by
    intro l
    induction l with
    | nil => rfl
    | cons f l ih => rw [List.flatMap_cons, List.length_append, ih, List.length_cons]; simp only [frRows, List.length_cons, List.length_nil]; omega
  simp only [mT, List.length_cons, List.length_append, List.length_map, h]; omega
end Go.Proofs.YtpofmnfkdkmieaaGreat
