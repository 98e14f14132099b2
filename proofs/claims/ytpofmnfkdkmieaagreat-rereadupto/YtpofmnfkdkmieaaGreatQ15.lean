/- What is proved here: the program's reader (package wire): lists of instructions, handlers, frames, fields; methods, and lists of them. -/
import Derived.Test.YtpofmnfkdkmieaaGreatQ12
set_option linter.unusedVariables false
set_option linter.unusedSimpArgs false
namespace Go.Proofs.YtpofmnfkdkmieaaGreat
open Go.RowKit At E

theorem rdListInstr_any (U : World) (b n most : Nat) (hn : n ≤ 65535) (hE : RdP 186 #[.pointer (some ⟨b, 0, none⟩)] U b (pIns false true) (repE fIns insC insA okIns)) :
    RdP 184 #[.int .i64 (n : Nat), .int .i64 (most : Nat), .func (.func 186) #[.pointer (some ⟨b, 0, none⟩)] #[]] U b (listP most (pIns false true) n) (repL 75 7 fIns insC insA okIns) := by
  intro r hrl w h0
  replace hE : Hid _ := hE
  refine opensF (h0.sat) (args := [.int .i64 (n : Nat), .int .i64 (most : Nat), .func (.func 186) #[.pointer (some ⟨b, 0, none⟩)] #[]]) Tryz.func184 rfl Tryz.ntmps184 ?_
  refine WC_seq ?_
  refine WC_region ?_
  refine WL_op rfl (Ex_assign rfl) ?_
  refine WL_nil ?_
  refine WQ_next ?_
  refine WC_seq ?_
  refine WC_region ?_
  refine WL_op rfl (Ex_move rfl) ?_
  refine WL_op rfl (Ex_move rfl) ?_
  refine WL_op rfl (Ex_leq rfl rfl) ?_
  refine WL_callP fn111 rfl rfl (fun w _ => must_any _ w) ?_ ?_
  rotate_left
  · intro o1
    try (first | replace o1 := of_decide_eq_false o1 | replace o1 := of_nd_false o1)
    refine WQ_pan ?_
    refine WD_of h0.base (Rc_F h0) (WD_end ?_)
    exact listP_no (by omega)
  intro o1
  try (first | replace o1 := of_decide_eq_true o1 | replace o1 := of_nd_true o1)
  have hS : Goes (some r) (listP most (pIns false true) n) (some r) (pFrom (pIns false true) [] n) := (Goes.first _ _).of (listP_ok (by omega))
  refine WL_nil ?_
  refine WQ_next ?_
  refine WC_seq ?_
  refine WC_region ?_
  refine WL_op rfl (Ex_assign rfl) ?_
  refine WL_nil ?_
  refine WQ_next ?_
  refine WC_seq ?_
  refine WC_seq ?_
  refine WC_region ?_
  refine WL_op rfl (Ex_move rfl) ?_
  refine WL_op rfl (Ex_move rfl) ?_
  refine WL_nil ?_
  refine WQ_next ?_
  refine WC_block ?_
  refine WC_own 75 7 ?_
  refine WC_imp (Asr.Imp.right (Asr.noneAdd _)) ?_
  refine WC_sub (E' := (fun x : RdL InsR => [(2, .func (.func 186) #[.pointer (some ⟨b, 0, none⟩)] #[]), (7, x.v), (12, .int .i64 (n : Nat)), (13, .int .i64 (x.l.length : Nat))]) (⟨r, nilS, []⟩)) ⟨rfl, rfl, rfl, rfl, trivial⟩ (WC_loop (X := RdL InsR) (fun x : RdL InsR => [(2, .func (.func 186) #[.pointer (some ⟨b, 0, none⟩)] #[]), (7, x.v), (12, .int .i64 (n : Nat)), (13, .int .i64 (x.l.length : Nat))]) _ _ (fun x : RdL InsR => [(b, rdC x.r)]) (fun x : RdL InsR => (ownA 75 7 x.v x.l.length (x.l.flatMap insC)).and ((bigA (x.l.map insA)).and Asr.none)) (fun x : RdL InsR => (x.l.length ≤ n ∧ x.r.length ≤ r.length) ∧ (∀ y ∈ x.l, okIns y) ∧ Goes (some r) (listP most (pIns false true) n) (some x.r) (pFrom (pIns false true) (x.l.map fIns) (n - x.l.length))) (fun x : RdL InsR => n - x.l.length) (⟨r, nilS, []⟩) (⟨⟨Nat.zero_le _, Nat.le_refl _⟩, (fun y h => by cases h), hS⟩) ?_)
  intro x hI
  obtain ⟨⟨hxn, hxr⟩, hok, hG⟩ := hI
  refine WC_seq ?_
  refine WC_region ?_
  refine WL_op rfl (Ex_lss rfl rfl) ?_
  refine WL_nil ?_
  refine WQ_next ?_
  refine WC_seq ?_
  refine WC_if rfl ?_ ?_  -- cond 1 read.go:88
  · intro c1
    try (first | replace c1 := of_decide_eq_true c1 | replace c1 := of_nd_true c1)
    obtain ⟨m, hm⟩ : ∃ m, n - x.l.length = m + 1 := ⟨n - x.l.length - 1, by omega⟩
    rw [hm, pFrom_succ] at hG
    refine WC_skip ?_
    refine WQ_next ?_
    refine WC_seq ?_
    refine WC_block ?_
    refine WC_region ?_
    refine WL_op rfl (Ex_move rfl) ?_
    refine WL_op rfl (Ex_move rfl) ?_
    refine WL_callRV fn186 rfl rfl 0 rfl h0.base (Rc_F h0) (hE.out x.r (by omega)) (fun hm => WD_pan (WD_pan (WD_pan (WD_pan (WD_pan (WD_end (rd_no hG hm))))))) ?_
    rintro v cs' R' ⟨x1, r1, hp, rfl, hr1, y, hy, rfl, hR, hok1⟩
    subst hy
    refine WL_imp hR.left ?_
    refine WL_know (p := (insC y).all (·.oneCell') = true) (fun w hs => one_Instr y w hs.res.1) ?_
    intro hone
    refine WL_imp (list_push _ _ _ _) ?_
    refine WL_bs rfl (ts rfl) (tz rfl) rfl rfl rfl rfl rfl ?_
    intro b1 hb1
    refine WL_app rfl (ta rfl) rfl rfl (row_whole 0 rfl) rfl hone ?_ ?_ ?_
    · unfold maxLen; omega
    · omega
    intro v1
    refine WL_op rfl (Ex_assign rfl) ?_
    refine WL_nil ?_
    refine WQ_bnext ?_
    refine WQ_next ?_
    refine WC_region ?_
    (first | (refine WL_op rfl (Ex_inc rfl rfl ?_) ?_; omega) | (refine WL_op rfl (Ex_addB rfl rfl ?_) ?_; omega) | refine WL_op rfl (Ex_add rfl rfl) ?_)
    refine WL_op rfl (Ex_move rfl) ?_
    refine WL_nil ?_
    refine WQ_same (s := 13) (v' := .int .i64 ((x.l ++ [y]).length : Nat)) rfl (by rw [List.length_append]; rfl) ?_
    refine WQ_again (⟨r1, v1, x.l ++ [y]⟩) ?_ (⟨⟨by show (x.l ++ [y]).length ≤ n; rw [List.length_append]; simp only [List.length_singleton]; omega, by show r1.length ≤ r.length; omega⟩, ok_snoc hok hok1, by show Goes _ _ (some r1) (pFrom (pIns false true) ((x.l ++ [y]).map fIns) (n - (x.l ++ [y]).length)); rw [List.map_append, List.length_append, show n - (x.l.length + [y].length) = m by simp only [List.length_singleton]; omega]; have h9 := rd_next hG hp; exact h9⟩) 1 rfl (by show (ownA 75 7 _ _ _).and _ = _; rw [List.length_append, List.flatMap_append, List.map_append]; rfl) ⟨rfl, rfl, rfl, rfl, trivial⟩
    show n - (x.l ++ [y]).length < n - x.l.length; rw [List.length_append]; simp only [List.length_singleton]; omega
  · intro c1
    try (first | replace c1 := of_decide_eq_false c1 | replace c1 := of_nd_false c1)
    refine WC_exit ?_
    refine WQ_exit ?_
    refine WQ_lexit ?_
    refine WQ_here ?_
    refine WQ_next ?_
    refine WC_seq ?_
    refine WC_region ?_
    refine WL_op rfl (Ex_move rfl) ?_
    refine WL_op rfl (Ex_assign rfl) ?_
    refine WL_nil ?_
    refine WQ_next ?_
    refine WC_ret ?_
    refine Rc_end1 rfl rfl 0 rfl ?_
    rw [show n - x.l.length = 0 by omega, pFrom_zero] at hG; exact ⟨x.l.map fIns, x.r, rd_done hG, rfl, hxr, x.l, rfl, Asr.Imp.right (Asr.fst _ _), by omega, hok⟩
theorem rdListHandler_any (U : World) (b n most : Nat) (hn : n ≤ 65535) (hE : RdP 188 #[.pointer (some ⟨b, 0, none⟩)] U b pHd (repE fId hdV noA hdOk)) :
    RdP 187 #[.int .i64 (n : Nat), .int .i64 (most : Nat), .func (.func 188) #[.pointer (some ⟨b, 0, none⟩)] #[]] U b (listP most pHd n) (repL 169 4 fId hdV noA hdOk) := by
  intro r hrl w h0
  replace hE : Hid _ := hE
  refine opensF (h0.sat) (args := [.int .i64 (n : Nat), .int .i64 (most : Nat), .func (.func 188) #[.pointer (some ⟨b, 0, none⟩)] #[]]) Tryz.func187 rfl Tryz.ntmps187 ?_
  refine WC_seq ?_
  refine WC_region ?_
  refine WL_op rfl (Ex_assign rfl) ?_
  refine WL_nil ?_
  refine WQ_next ?_
  refine WC_seq ?_
  refine WC_region ?_
  refine WL_op rfl (Ex_move rfl) ?_
  refine WL_op rfl (Ex_move rfl) ?_
  refine WL_op rfl (Ex_leq rfl rfl) ?_
  refine WL_callP fn111 rfl rfl (fun w _ => must_any _ w) ?_ ?_
  rotate_left
  · intro o1
    try (first | replace o1 := of_decide_eq_false o1 | replace o1 := of_nd_false o1)
    refine WQ_pan ?_
    refine WD_of h0.base (Rc_F h0) (WD_end ?_)
    exact listP_no (by omega)
  intro o1
  try (first | replace o1 := of_decide_eq_true o1 | replace o1 := of_nd_true o1)
  have hS : Goes (some r) (listP most pHd n) (some r) (pFrom pHd [] n) := (Goes.first _ _).of (listP_ok (by omega))
  refine WL_nil ?_
  refine WQ_next ?_
  refine WC_seq ?_
  refine WC_region ?_
  refine WL_op rfl (Ex_assign rfl) ?_
  refine WL_nil ?_
  refine WQ_next ?_
  refine WC_seq ?_
  refine WC_seq ?_
  refine WC_region ?_
  refine WL_op rfl (Ex_move rfl) ?_
  refine WL_op rfl (Ex_move rfl) ?_
  refine WL_nil ?_
  refine WQ_next ?_
  refine WC_block ?_
  refine WC_own 169 4 ?_
  refine WC_imp (Asr.Imp.right (Asr.noneAdd _)) ?_
  refine WC_sub (E' := (fun x : RdL Hd => [(2, .func (.func 188) #[.pointer (some ⟨b, 0, none⟩)] #[]), (7, x.v), (12, .int .i64 (n : Nat)), (13, .int .i64 (x.l.length : Nat))]) (⟨r, nilS, []⟩)) ⟨rfl, rfl, rfl, rfl, trivial⟩ (WC_loop (X := RdL Hd) (fun x : RdL Hd => [(2, .func (.func 188) #[.pointer (some ⟨b, 0, none⟩)] #[]), (7, x.v), (12, .int .i64 (n : Nat)), (13, .int .i64 (x.l.length : Nat))]) _ _ (fun x : RdL Hd => [(b, rdC x.r)]) (fun x : RdL Hd => (ownA 169 4 x.v x.l.length (x.l.flatMap hdV)).and ((bigA (x.l.map noA)).and Asr.none)) (fun x : RdL Hd => (x.l.length ≤ n ∧ x.r.length ≤ r.length) ∧ (∀ y ∈ x.l, hdOk y) ∧ Goes (some r) (listP most pHd n) (some x.r) (pFrom pHd (x.l.map fId) (n - x.l.length))) (fun x : RdL Hd => n - x.l.length) (⟨r, nilS, []⟩) (⟨⟨Nat.zero_le _, Nat.le_refl _⟩, (fun y h => by cases h), hS⟩) ?_)
  intro x hI
  obtain ⟨⟨hxn, hxr⟩, hok, hG⟩ := hI
  refine WC_seq ?_
  refine WC_region ?_
  refine WL_op rfl (Ex_lss rfl rfl) ?_
  refine WL_nil ?_
  refine WQ_next ?_
  refine WC_seq ?_
  refine WC_if rfl ?_ ?_  -- cond 1 read.go:88
  · intro c1
    try (first | replace c1 := of_decide_eq_true c1 | replace c1 := of_nd_true c1)
    obtain ⟨m, hm⟩ : ∃ m, n - x.l.length = m + 1 := ⟨n - x.l.length - 1, by omega⟩
    rw [hm, pFrom_succ] at hG
    refine WC_skip ?_
    refine WQ_next ?_
    refine WC_seq ?_
    refine WC_block ?_
    refine WC_region ?_
    refine WL_op rfl (Ex_move rfl) ?_
    refine WL_op rfl (Ex_move rfl) ?_
    refine WL_callRV fn188 rfl rfl 0 rfl h0.base (Rc_F h0) (hE.out x.r (by omega)) (fun hm => WD_pan (WD_pan (WD_pan (WD_pan (WD_pan (WD_end (rd_no hG hm))))))) ?_
    rintro v cs' R' ⟨x1, r1, hp, rfl, hr1, y, hy, rfl, hR, hok1⟩
    subst hy
    refine WL_imp hR.left ?_
    refine WL_know (p := (hdV y).all (·.oneCell') = true) (fun w hs => one_Handler y w hs.res.1) ?_
    intro hone
    refine WL_imp (list_push _ _ _ _) ?_
    refine WL_bs rfl (ts rfl) (tz rfl) rfl rfl rfl rfl rfl ?_
    intro b1 hb1
    refine WL_app rfl (ta rfl) rfl rfl (row_whole 0 rfl) rfl hone ?_ ?_ ?_
    · unfold maxLen; omega
    · omega
    intro v1
    refine WL_op rfl (Ex_assign rfl) ?_
    refine WL_nil ?_
    refine WQ_bnext ?_
    refine WQ_next ?_
    refine WC_region ?_
    (first | (refine WL_op rfl (Ex_inc rfl rfl ?_) ?_; omega) | (refine WL_op rfl (Ex_addB rfl rfl ?_) ?_; omega) | refine WL_op rfl (Ex_add rfl rfl) ?_)
    refine WL_op rfl (Ex_move rfl) ?_
    refine WL_nil ?_
    refine WQ_same (s := 13) (v' := .int .i64 ((x.l ++ [y]).length : Nat)) rfl (by rw [List.length_append]; rfl) ?_
    refine WQ_again (⟨r1, v1, x.l ++ [y]⟩) ?_ (⟨⟨by show (x.l ++ [y]).length ≤ n; rw [List.length_append]; simp only [List.length_singleton]; omega, by show r1.length ≤ r.length; omega⟩, ok_snoc hok hok1, by show Goes _ _ (some r1) (pFrom pHd ((x.l ++ [y]).map fId) (n - (x.l ++ [y]).length)); rw [List.map_append, List.length_append, show n - (x.l.length + [y].length) = m by simp only [List.length_singleton]; omega]; have h9 := rd_next hG hp; exact h9⟩) 1 rfl (by show (ownA 169 4 _ _ _).and _ = _; rw [List.length_append, List.flatMap_append, List.map_append]; rfl) ⟨rfl, rfl, rfl, rfl, trivial⟩
    show n - (x.l ++ [y]).length < n - x.l.length; rw [List.length_append]; simp only [List.length_singleton]; omega
  · intro c1
    try (first | replace c1 := of_decide_eq_false c1 | replace c1 := of_nd_false c1)
    refine WC_exit ?_
    refine WQ_exit ?_
    refine WQ_lexit ?_
    refine WQ_here ?_
    refine WQ_next ?_
    refine WC_seq ?_
    refine WC_region ?_
    refine WL_op rfl (Ex_move rfl) ?_
    refine WL_op rfl (Ex_assign rfl) ?_
    refine WL_nil ?_
    refine WQ_next ?_
    refine WC_ret ?_
    refine Rc_end1 rfl rfl 0 rfl ?_
    rw [show n - x.l.length = 0 by omega, pFrom_zero] at hG; exact ⟨x.l.map fId, x.r, rd_done hG, rfl, hxr, x.l, rfl, Asr.Imp.right (Asr.fst _ _), by omega, hok⟩
theorem rdListFrame_any (U : World) (b n most : Nat) (hn : n ≤ 65535) (hE : RdP 190 #[.pointer (some ⟨b, 0, none⟩)] U b (pFr false true) (repE fFr frC frA okFr)) :
    RdP 189 #[.int .i64 (n : Nat), .int .i64 (most : Nat), .func (.func 190) #[.pointer (some ⟨b, 0, none⟩)] #[]] U b (listP most (pFr false true) n) (repL 176 3 fFr frC frA okFr) := by
  intro r hrl w h0
  replace hE : Hid _ := hE
  refine opensF (h0.sat) (args := [.int .i64 (n : Nat), .int .i64 (most : Nat), .func (.func 190) #[.pointer (some ⟨b, 0, none⟩)] #[]]) Tryz.func189 rfl Tryz.ntmps189 ?_
  refine WC_seq ?_
  refine WC_region ?_
  refine WL_op rfl (Ex_assign rfl) ?_
  refine WL_nil ?_
  refine WQ_next ?_
  refine WC_seq ?_
  refine WC_region ?_
  refine WL_op rfl (Ex_move rfl) ?_
  refine WL_op rfl (Ex_move rfl) ?_
  refine WL_op rfl (Ex_leq rfl rfl) ?_
  refine WL_callP fn111 rfl rfl (fun w _ => must_any _ w) ?_ ?_
  rotate_left
  · intro o1
    try (first | replace o1 := of_decide_eq_false o1 | replace o1 := of_nd_false o1)
    refine WQ_pan ?_
    refine WD_of h0.base (Rc_F h0) (WD_end ?_)
    exact listP_no (by omega)
  intro o1
  try (first | replace o1 := of_decide_eq_true o1 | replace o1 := of_nd_true o1)
  have hS : Goes (some r) (listP most (pFr false true) n) (some r) (pFrom (pFr false true) [] n) := (Goes.first _ _).of (listP_ok (by omega))
  refine WL_nil ?_
  refine WQ_next ?_
  refine WC_seq ?_
  refine WC_region ?_
  refine WL_op rfl (Ex_assign rfl) ?_
  refine WL_nil ?_
  refine WQ_next ?_
  refine WC_seq ?_
  refine WC_seq ?_
  refine WC_region ?_
  refine WL_op rfl (Ex_move rfl) ?_
  refine WL_op rfl (Ex_move rfl) ?_
  refine WL_nil ?_
  refine WQ_next ?_
  refine WC_block ?_
  refine WC_own 176 3 ?_
  refine WC_imp (Asr.Imp.right (Asr.noneAdd _)) ?_
  refine WC_sub (E' := (fun x : RdL FrR => [(2, .func (.func 190) #[.pointer (some ⟨b, 0, none⟩)] #[]), (7, x.v), (12, .int .i64 (n : Nat)), (13, .int .i64 (x.l.length : Nat))]) (⟨r, nilS, []⟩)) ⟨rfl, rfl, rfl, rfl, trivial⟩ (WC_loop (X := RdL FrR) (fun x : RdL FrR => [(2, .func (.func 190) #[.pointer (some ⟨b, 0, none⟩)] #[]), (7, x.v), (12, .int .i64 (n : Nat)), (13, .int .i64 (x.l.length : Nat))]) _ _ (fun x : RdL FrR => [(b, rdC x.r)]) (fun x : RdL FrR => (ownA 176 3 x.v x.l.length (x.l.flatMap frC)).and ((bigA (x.l.map frA)).and Asr.none)) (fun x : RdL FrR => (x.l.length ≤ n ∧ x.r.length ≤ r.length) ∧ (∀ y ∈ x.l, okFr y) ∧ Goes (some r) (listP most (pFr false true) n) (some x.r) (pFrom (pFr false true) (x.l.map fFr) (n - x.l.length))) (fun x : RdL FrR => n - x.l.length) (⟨r, nilS, []⟩) (⟨⟨Nat.zero_le _, Nat.le_refl _⟩, (fun y h => by cases h), hS⟩) ?_)
  intro x hI
  obtain ⟨⟨hxn, hxr⟩, hok, hG⟩ := hI
  refine WC_seq ?_
  refine WC_region ?_
  refine WL_op rfl (Ex_lss rfl rfl) ?_
  refine WL_nil ?_
  refine WQ_next ?_
  refine WC_seq ?_
  refine WC_if rfl ?_ ?_  -- cond 1 read.go:88
  · intro c1
    try (first | replace c1 := of_decide_eq_true c1 | replace c1 := of_nd_true c1)
    obtain ⟨m, hm⟩ : ∃ m, n - x.l.length = m + 1 := ⟨n - x.l.length - 1, by omega⟩
    rw [hm, pFrom_succ] at hG
    refine WC_skip ?_
    refine WQ_next ?_
    refine WC_seq ?_
    refine WC_block ?_
    refine WC_region ?_
    refine WL_op rfl (Ex_move rfl) ?_
    refine WL_op rfl (Ex_move rfl) ?_
    refine WL_callRV fn190 rfl rfl 0 rfl h0.base (Rc_F h0) (hE.out x.r (by omega)) (fun hm => WD_pan (WD_pan (WD_pan (WD_pan (WD_pan (WD_end (rd_no hG hm))))))) ?_
    rintro v cs' R' ⟨x1, r1, hp, rfl, hr1, y, hy, rfl, hR, hok1⟩
    subst hy
    refine WL_imp hR.left ?_
    refine WL_know (p := (frC y).all (·.oneCell') = true) (fun w hs => one_Frame y w hs.res.1) ?_
    intro hone
    refine WL_imp (list_push _ _ _ _) ?_
    refine WL_bs rfl (ts rfl) (tz rfl) rfl rfl rfl rfl rfl ?_
    intro b1 hb1
    refine WL_app rfl (ta rfl) rfl rfl (row_whole 0 rfl) rfl hone ?_ ?_ ?_
    · unfold maxLen; omega
    · omega
    intro v1
    refine WL_op rfl (Ex_assign rfl) ?_
    refine WL_nil ?_
    refine WQ_bnext ?_
    refine WQ_next ?_
    refine WC_region ?_
    (first | (refine WL_op rfl (Ex_inc rfl rfl ?_) ?_; omega) | (refine WL_op rfl (Ex_addB rfl rfl ?_) ?_; omega) | refine WL_op rfl (Ex_add rfl rfl) ?_)
    refine WL_op rfl (Ex_move rfl) ?_
    refine WL_nil ?_
    refine WQ_same (s := 13) (v' := .int .i64 ((x.l ++ [y]).length : Nat)) rfl (by rw [List.length_append]; rfl) ?_
    refine WQ_again (⟨r1, v1, x.l ++ [y]⟩) ?_ (⟨⟨by show (x.l ++ [y]).length ≤ n; rw [List.length_append]; simp only [List.length_singleton]; omega, by show r1.length ≤ r.length; omega⟩, ok_snoc hok hok1, by show Goes _ _ (some r1) (pFrom (pFr false true) ((x.l ++ [y]).map fFr) (n - (x.l ++ [y]).length)); rw [List.map_append, List.length_append, show n - (x.l.length + [y].length) = m by simp only [List.length_singleton]; omega]; have h9 := rd_next hG hp; exact h9⟩) 1 rfl (by show (ownA 176 3 _ _ _).and _ = _; rw [List.length_append, List.flatMap_append, List.map_append]; rfl) ⟨rfl, rfl, rfl, rfl, trivial⟩
    show n - (x.l ++ [y]).length < n - x.l.length; rw [List.length_append]; simp only [List.length_singleton]; omega
  · intro c1
    try (first | replace c1 := of_decide_eq_false c1 | replace c1 := of_nd_false c1)
    refine WC_exit ?_
    refine WQ_exit ?_
    refine WQ_lexit ?_
    refine WQ_here ?_
    refine WQ_next ?_
    refine WC_seq ?_
    refine WC_region ?_
    refine WL_op rfl (Ex_move rfl) ?_
    refine WL_op rfl (Ex_assign rfl) ?_
    refine WL_nil ?_
    refine WQ_next ?_
    refine WC_ret ?_
    refine Rc_end1 rfl rfl 0 rfl ?_
    rw [show n - x.l.length = 0 by omega, pFrom_zero] at hG; exact ⟨x.l.map fFr, x.r, rd_done hG, rfl, hxr, x.l, rfl, Asr.Imp.right (Asr.fst _ _), by omega, hok⟩
theorem rdListField_any (U : World) (b n most : Nat) (hn : n ≤ 65535) (hE : RdP 116 #[.pointer (some ⟨b, 0, none⟩)] U b (pFd false) (repE fId fdV noA fdOk)) :
    RdP 114 #[.int .i64 (n : Nat), .int .i64 (most : Nat), .func (.func 116) #[.pointer (some ⟨b, 0, none⟩)] #[]] U b (listP most (pFd false) n) (repL 128 4 fId fdV noA fdOk) := by
  intro r hrl w h0
  replace hE : Hid _ := hE
  refine opensF (h0.sat) (args := [.int .i64 (n : Nat), .int .i64 (most : Nat), .func (.func 116) #[.pointer (some ⟨b, 0, none⟩)] #[]]) Tryz.func114 rfl Tryz.ntmps114 ?_
  refine WC_seq ?_
  refine WC_region ?_
  refine WL_op rfl (Ex_assign rfl) ?_
  refine WL_nil ?_
  refine WQ_next ?_
  refine WC_seq ?_
  refine WC_region ?_
  refine WL_op rfl (Ex_move rfl) ?_
  refine WL_op rfl (Ex_move rfl) ?_
  refine WL_op rfl (Ex_leq rfl rfl) ?_
  refine WL_callP fn111 rfl rfl (fun w _ => must_any _ w) ?_ ?_
  rotate_left
  · intro o1
    try (first | replace o1 := of_decide_eq_false o1 | replace o1 := of_nd_false o1)
    refine WQ_pan ?_
    refine WD_of h0.base (Rc_F h0) (WD_end ?_)
    exact listP_no (by omega)
  intro o1
  try (first | replace o1 := of_decide_eq_true o1 | replace o1 := of_nd_true o1)
  have hS : Goes (some r) (listP most (pFd false) n) (some r) (pFrom (pFd false) [] n) := (Goes.first _ _).of (listP_ok (by omega))
  refine WL_nil ?_
  refine WQ_next ?_
  refine WC_seq ?_
  refine WC_region ?_
  refine WL_op rfl (Ex_assign rfl) ?_
  refine WL_nil ?_
  refine WQ_next ?_
  refine WC_seq ?_
  refine WC_seq ?_
  refine WC_region ?_
  refine WL_op rfl (Ex_move rfl) ?_
  refine WL_op rfl (Ex_move rfl) ?_
  refine WL_nil ?_
  refine WQ_next ?_
  refine WC_block ?_
  refine WC_own 128 4 ?_
  refine WC_imp (Asr.Imp.right (Asr.noneAdd _)) ?_
  refine WC_sub (E' := (fun x : RdL Fld => [(2, .func (.func 116) #[.pointer (some ⟨b, 0, none⟩)] #[]), (7, x.v), (12, .int .i64 (n : Nat)), (13, .int .i64 (x.l.length : Nat))]) (⟨r, nilS, []⟩)) ⟨rfl, rfl, rfl, rfl, trivial⟩ (WC_loop (X := RdL Fld) (fun x : RdL Fld => [(2, .func (.func 116) #[.pointer (some ⟨b, 0, none⟩)] #[]), (7, x.v), (12, .int .i64 (n : Nat)), (13, .int .i64 (x.l.length : Nat))]) _ _ (fun x : RdL Fld => [(b, rdC x.r)]) (fun x : RdL Fld => (ownA 128 4 x.v x.l.length (x.l.flatMap fdV)).and ((bigA (x.l.map noA)).and Asr.none)) (fun x : RdL Fld => (x.l.length ≤ n ∧ x.r.length ≤ r.length) ∧ (∀ y ∈ x.l, fdOk y) ∧ Goes (some r) (listP most (pFd false) n) (some x.r) (pFrom (pFd false) (x.l.map fId) (n - x.l.length))) (fun x : RdL Fld => n - x.l.length) (⟨r, nilS, []⟩) (⟨⟨Nat.zero_le _, Nat.le_refl _⟩, (fun y h => by cases h), hS⟩) ?_)
  intro x hI
  obtain ⟨⟨hxn, hxr⟩, hok, hG⟩ := hI
  refine WC_seq ?_
  refine WC_region ?_
  refine WL_op rfl (Ex_lss rfl rfl) ?_
  refine WL_nil ?_
  refine WQ_next ?_
  refine WC_seq ?_
  refine WC_if rfl ?_ ?_  -- cond 1 read.go:88
  · intro c1
    try (first | replace c1 := of_decide_eq_true c1 | replace c1 := of_nd_true c1)
    obtain ⟨m, hm⟩ : ∃ m, n - x.l.length = m + 1 := ⟨n - x.l.length - 1, by omega⟩
    rw [hm, pFrom_succ] at hG
    refine WC_skip ?_
    refine WQ_next ?_
    refine WC_seq ?_
    refine WC_block ?_
    refine WC_region ?_
    refine WL_op rfl (Ex_move rfl) ?_
    refine WL_op rfl (Ex_move rfl) ?_
    refine WL_callRV fn116 rfl rfl 0 rfl h0.base (Rc_F h0) (hE.out x.r (by omega)) (fun hm => WD_pan (WD_pan (WD_pan (WD_pan (WD_pan (WD_end (rd_no hG hm))))))) ?_
    rintro v cs' R' ⟨x1, r1, hp, rfl, hr1, y, hy, rfl, hR, hok1⟩
    subst hy
    refine WL_imp hR.left ?_
    refine WL_know (p := (fdV y).all (·.oneCell') = true) (fun w hs => one_Field y w hs.res.1) ?_
    intro hone
    refine WL_imp (list_push _ _ _ _) ?_
    refine WL_bs rfl (ts rfl) (tz rfl) rfl rfl rfl rfl rfl ?_
    intro b1 hb1
    refine WL_app rfl (ta rfl) rfl rfl (row_whole 0 rfl) rfl hone ?_ ?_ ?_
    · unfold maxLen; omega
    · omega
    intro v1
    refine WL_op rfl (Ex_assign rfl) ?_
    refine WL_nil ?_
    refine WQ_bnext ?_
    refine WQ_next ?_
    refine WC_region ?_
    (first | (refine WL_op rfl (Ex_inc rfl rfl ?_) ?_; omega) | (refine WL_op rfl (Ex_addB rfl rfl ?_) ?_; omega) | refine WL_op rfl (Ex_add rfl rfl) ?_)
    refine WL_op rfl (Ex_move rfl) ?_
    refine WL_nil ?_
    refine WQ_same (s := 13) (v' := .int .i64 ((x.l ++ [y]).length : Nat)) rfl (by rw [List.length_append]; rfl) ?_
    refine WQ_again (⟨r1, v1, x.l ++ [y]⟩) ?_ (⟨⟨by show (x.l ++ [y]).length ≤ n; rw [List.length_append]; simp only [List.length_singleton]; omega, by show r1.length ≤ r.length; omega⟩, ok_snoc hok hok1, by show Goes _ _ (some r1) (pFrom (pFd false) ((x.l ++ [y]).map fId) (n - (x.l ++ [y]).length)); rw [List.map_append, List.length_append, show n - (x.l.length + [y].length) = m by simp only [List.length_singleton]; omega]; have h9 := rd_next hG hp; exact h9⟩) 1 rfl (by show (ownA 128 4 _ _ _).and _ = _; rw [List.length_append, List.flatMap_append, List.map_append]; rfl) ⟨rfl, rfl, rfl, rfl, trivial⟩
    show n - (x.l ++ [y]).length < n - x.l.length; rw [List.length_append]; simp only [List.length_singleton]; omega
  · intro c1
    try (first | replace c1 := of_decide_eq_false c1 | replace c1 := of_nd_false c1)
    refine WC_exit ?_
    refine WQ_exit ?_
    refine WQ_lexit ?_
    refine WQ_here ?_
    refine WQ_next ?_
    refine WC_seq ?_
    refine WC_region ?_
    refine WL_op rfl (Ex_move rfl) ?_
    refine WL_op rfl (Ex_assign rfl) ?_
    refine WL_nil ?_
    refine WQ_next ?_
    refine WC_ret ?_
    refine Rc_end1 rfl rfl 0 rfl ?_
    rw [show n - x.l.length = 0 by omega, pFrom_zero] at hG; exact ⟨x.l.map fId, x.r, rd_done hG, rfl, hxr, x.l, rfl, Asr.Imp.right (Asr.fst _ _), by omega, hok⟩
end Go.Proofs.YtpofmnfkdkmieaaGreat
namespace Go.Proofs.YtpofmnfkdkmieaaGreat
open Go.RowKit At E

theorem me_turn4 (I T H F : Asr) : (F.and (H.and (I.and T))).Imp (T.and (I.and (H.and F))) :=
  (Asr.comm F _).trans (((Asr.comm H (I.and T)).trans (Asr.Imp.left (Asr.comm I T))).left.trans ((Asr.assoc _ _ _).trans (Asr.assoc T I _)))
set_option maxHeartbeats 2000000 in
theorem rdMethod_any (U : World) (b : Nat) : RdP 118 #[.pointer (some ⟨b, 0, none⟩)] U b (pMe false true) (repE fMe meC meA MeFit) := by
  intro r hrl w h0
  have hS := Goes.first (some r) (pMe false true)
  refine opensF (h0.sat) (args := [.pointer (some ⟨b, 0, none⟩)]) Tryz.func118 rfl Tryz.ntmps118 ?_
  refine WC_seq ?_
  refine WC_region ?_
  refine WL_alloc rfl (tz rfl) ?_
  intro b1 hb1
  refine WL_nil ?_
  refine WQ_next ?_
  refine WC_seq ?_
  refine WC_region ?_
  refine WL_op rfl (Ex_move rfl) ?_
  refine WL_callR0 fn113 rfl rfl 1 rfl h0.base (Rc_F h0) (rdName_any U b r hrl) (fun hm => WD_pan (WD_end (rd_no hS hm))) ?_
  rintro v cs' ⟨R', nm, r1, hp, rfl, hr1, rfl, hnm, -⟩
  replace hS := rd_next hS hp
  refine WL_op rfl (Ex_move rfl) ?_
  refine WL_callR0 fn181 rfl rfl 1 rfl h0.base (Rc_F h0) (rdFlag_any U b r1 (by omega)) (fun hm => WD_pan (WD_end (rd_no hS hm))) ?_
  rintro v cs' ⟨R', st, r2, hp, rfl, hr2, rfl, -⟩
  replace hS := rd_next hS hp
  refine WL_op rfl (Ex_move rfl) ?_
  refine WL_callR fn183 rfl rfl 1 rfl h0.base (Rc_F h0) (rdTypes_any U b 6 r2 (by omega)) (fun hm => WD_pan (WD_end (rd_no hS hm))) ?_
  rintro pv cs' R' ⟨ps, r3, hp, rfl, hr3, hR, hps⟩
  replace hS := rd_next hS hp
  refine WL_imp (hR.left.trans (Asr.fst _ _)) ?_
  refine WL_know (p := ∃ p l c, pv = .slice p l c) (fun w hs => owns_slice hs.res) ?_
  rintro ⟨p1, l1, c1', hpv⟩
  subst hpv
  refine WL_op rfl (Ex_move rfl) ?_
  refine WL_callR0 fn182 rfl rfl 1 rfl h0.base (Rc_F h0) (rdTyp_any U b r3 (by omega)) (fun hm => WD_pan (WD_end (rd_no hS hm))) ?_
  rintro v cs' ⟨R', t, r4, hp, rfl, hr4, rfl, ht, -⟩
  replace hS := rd_next hS hp
  refine WL_op rfl (Ex_move rfl) ?_
  refine WL_callR0 fn115 rfl rfl 1 rfl h0.base (Rc_F h0) (rdByte_any U b r4 (by omega)) (fun hm => WD_pan (WD_end (rd_no hS hm))) ?_
  rintro v cs' ⟨R', lo, r5, hp, rfl, hr5, rfl, hlo, -, -⟩
  replace hS := rd_next hS hp
  refine WL_op rfl (Ex_move rfl) ?_
  refine WL_callR0 fn115 rfl rfl 1 rfl h0.base (Rc_F h0) (rdByte_any U b r5 (by omega)) (fun hm => WD_pan (WD_end (rd_no hS hm))) ?_
  rintro v cs' ⟨R', sk, r6, hp, rfl, hr6, rfl, hsk, -, -⟩
  replace hS := rd_next hS hp
  refine WL_op rfl (Ex_move rfl) ?_
  refine WL_callR0 fn185 rfl rfl 1 rfl h0.base (Rc_F h0) (rdNtwo_any U b r6 (by omega)) (fun hm => WD_pan (WD_end (rd_nno hS hm))) ?_; rintro v cs' ⟨R', n, r7, hp0, rfl, hr7, rfl, hn, -⟩; rw [toI_small (show n < 9223372036854775808 by omega)]
  refine WL_op rfl (Ex_move rfl) ?_
  refine WL_op rfl (Ex_func rfl) ?_
  refine WL_callR fn184 rfl rfl 1 rfl h0.base (Rc_F h0) (rdListInstr_any U b n 200 (by omega) (rdInstr_any U b) r7 (by omega)) (fun hm => WD_pan (WD_end (rd_lno hS hp0 hm))) ?_; rintro cv cs' R' ⟨cd, r8, hp, rfl, hr8, cl, hcl, hR, hcll, hclo⟩; replace hS := rd_lnext hS hp0 hp; refine WL_imp hR.left ?_; refine WL_know (p := ∃ p l c, cv = .slice p l c) (fun w hs => owns_slice hs.res.1.1) ?_; rintro ⟨p2, l2, c2', hcv⟩; subst hcv; clear hp0
  refine WL_op rfl (Ex_move rfl) ?_
  refine WL_callR0 fn115 rfl rfl 1 rfl h0.base (Rc_F h0) (rdNbyte_any U b r8 (by omega)) (fun hm => WD_pan (WD_end (rd_nno hS hm))) ?_; rintro v cs' ⟨R', n2, r9, hp0, rfl, hr9, rfl, hn2, -⟩; rw [toI_small (show n2 < 9223372036854775808 by omega)]
  refine WL_op rfl (Ex_move rfl) ?_
  refine WL_op rfl (Ex_func rfl) ?_
  refine WL_callR fn187 rfl rfl 1 rfl h0.base (Rc_F h0) (rdListHandler_any U b n2 10 (by omega) (rdHandler_any U b) r9 (by omega)) (fun hm => WD_pan (WD_end (rd_lno hS hp0 hm))) ?_; rintro hv cs' R'' ⟨hs', ra, hp, rfl, hra, hl, hhl, hR2, hhll, hhlo⟩; replace hS := rd_lnext hS hp0 hp; refine WL_imp ((hR2.trans (Asr.fst _ _)).left) ?_; refine WL_know (p := ∃ p l c, hv = .slice p l c) (fun w hs => owns_slice hs.res.1) ?_; rintro ⟨p3, l3, c3', hhv⟩; subst hhv; rw [map_fId] at hhl; subst hhl; clear hp0
  refine WL_op rfl (Ex_move rfl) ?_
  refine WL_callR0 fn115 rfl rfl 1 rfl h0.base (Rc_F h0) (rdNbyte_any U b ra (by omega)) (fun hm => WD_pan (WD_end (rd_nno hS hm))) ?_; rintro v cs' ⟨R', n3, rb, hp0, rfl, hrb, rfl, hn3, -⟩; rw [toI_small (show n3 < 9223372036854775808 by omega)]
  refine WL_op rfl (Ex_move rfl) ?_
  refine WL_op rfl (Ex_func rfl) ?_
  refine WL_callR fn189 rfl rfl 1 rfl h0.base (Rc_F h0) (rdListFrame_any U b n3 60 (by omega) (rdFrame_any U b) rb (by omega)) (fun hm => WD_pan (WD_end (rd_lno hS hp0 hm))) ?_; rintro fv cs' R''' ⟨fs', rc, hp, rfl, hrc, fl, hfl, hR3, hfll, hflo⟩; replace hS := rd_lnext hS hp0 hp; refine WL_imp hR3.left ?_; refine WL_know (p := ∃ p l c, fv = .slice p l c) (fun w hs => owns_slice hs.res.1.1) ?_; rintro ⟨p4, l4, c4', hfv⟩; subst hfv
  refine WL_op rfl (Ex_build (cs := meH nm st t lo sk (.slice p1 l1 c1') (.slice p2 l2 c2') (.slice p3 l3 c3') (.slice p4 l4 c4')) (tb rfl) rfl (by kernel_rfl)) ?_
  refine WL_storeN (tn rfl) rfl rfl 0 rfl rfl rfl rfl ?_
  refine WL_nil ?_
  refine WQ_next ?_
  refine WC_ret ?_
  refine Rc_endR (Res_1 rfl (RV_cellN (tn rfl) rfl (row_whole 0 rfl) rfl)) 1 rfl ?_
  exact ⟨_, rc, rd_done hS, rfl, by omega, (⟨nm, st, ps, t, lo, sk, cd, hl, fs'⟩, ⟨.slice p1 l1 c1', .slice p2 l2 c2', .slice p3 l3 c3', .slice p4 l4 c4', cl, fl⟩), rfl, rfl, me_turn4 _ _ _ _, ⟨hcl, hfl, ⟨strOk_255 hnm, ht, hlo, hsk⟩, hps, ⟨by show cl.length ≤ 1048576; omega, hclo⟩, ⟨by show hl.length ≤ 1048576; omega, hhlo⟩, ⟨by show fl.length ≤ 1048576; omega, hflo⟩⟩⟩
theorem rdListMethod_any (U : World) (b n most : Nat) (hn : n ≤ 65535) (hE : RdP 118 #[.pointer (some ⟨b, 0, none⟩)] U b (pMe false true) (repE fMe meC meA MeFit)) :
    RdP 117 #[.int .i64 (n : Nat), .int .i64 (most : Nat), .func (.func 118) #[.pointer (some ⟨b, 0, none⟩)] #[]] U b (listP most (pMe false true) n) (repL 134 10 fMe meC meA MeFit) := by
  intro r hrl w h0
  replace hE : Hid _ := hE
  refine opensF (h0.sat) (args := [.int .i64 (n : Nat), .int .i64 (most : Nat), .func (.func 118) #[.pointer (some ⟨b, 0, none⟩)] #[]]) Tryz.func117 rfl Tryz.ntmps117 ?_
  refine WC_seq ?_
  refine WC_region ?_
  refine WL_op rfl (Ex_assign rfl) ?_
  refine WL_nil ?_
  refine WQ_next ?_
  refine WC_seq ?_
  refine WC_region ?_
  refine WL_op rfl (Ex_move rfl) ?_
  refine WL_op rfl (Ex_move rfl) ?_
  refine WL_op rfl (Ex_leq rfl rfl) ?_
  refine WL_callP fn111 rfl rfl (fun w _ => must_any _ w) ?_ ?_
  rotate_left
  · intro o1
    try (first | replace o1 := of_decide_eq_false o1 | replace o1 := of_nd_false o1)
    refine WQ_pan ?_
    refine WD_of h0.base (Rc_F h0) (WD_end ?_)
    exact listP_no (by omega)
  intro o1
  try (first | replace o1 := of_decide_eq_true o1 | replace o1 := of_nd_true o1)
  have hS : Goes (some r) (listP most (pMe false true) n) (some r) (pFrom (pMe false true) [] n) := (Goes.first _ _).of (listP_ok (by omega))
  refine WL_nil ?_
  refine WQ_next ?_
  refine WC_seq ?_
  refine WC_region ?_
  refine WL_op rfl (Ex_assign rfl) ?_
  refine WL_nil ?_
  refine WQ_next ?_
  refine WC_seq ?_
  refine WC_seq ?_
  refine WC_region ?_
  refine WL_op rfl (Ex_move rfl) ?_
  refine WL_op rfl (Ex_move rfl) ?_
  refine WL_nil ?_
  refine WQ_next ?_
  refine WC_block ?_
  refine WC_own 134 10 ?_
  refine WC_imp (Asr.Imp.right (Asr.noneAdd _)) ?_
  refine WC_sub (E' := (fun x : RdL MeR => [(2, .func (.func 118) #[.pointer (some ⟨b, 0, none⟩)] #[]), (7, x.v), (12, .int .i64 (n : Nat)), (13, .int .i64 (x.l.length : Nat))]) (⟨r, nilS, []⟩)) ⟨rfl, rfl, rfl, rfl, trivial⟩ (WC_loop (X := RdL MeR) (fun x : RdL MeR => [(2, .func (.func 118) #[.pointer (some ⟨b, 0, none⟩)] #[]), (7, x.v), (12, .int .i64 (n : Nat)), (13, .int .i64 (x.l.length : Nat))]) _ _ (fun x : RdL MeR => [(b, rdC x.r)]) (fun x : RdL MeR => (ownA 134 10 x.v x.l.length (x.l.flatMap meC)).and ((bigA (x.l.map meA)).and Asr.none)) (fun x : RdL MeR => (x.l.length ≤ n ∧ x.r.length ≤ r.length) ∧ (∀ y ∈ x.l, MeFit y) ∧ Goes (some r) (listP most (pMe false true) n) (some x.r) (pFrom (pMe false true) (x.l.map fMe) (n - x.l.length))) (fun x : RdL MeR => n - x.l.length) (⟨r, nilS, []⟩) (⟨⟨Nat.zero_le _, Nat.le_refl _⟩, (fun y h => by cases h), hS⟩) ?_)
  intro x hI
  obtain ⟨⟨hxn, hxr⟩, hok, hG⟩ := hI
  refine WC_seq ?_
  refine WC_region ?_
  refine WL_op rfl (Ex_lss rfl rfl) ?_
  refine WL_nil ?_
  refine WQ_next ?_
  refine WC_seq ?_
  refine WC_if rfl ?_ ?_  -- cond 1 read.go:88
  · intro c1
    try (first | replace c1 := of_decide_eq_true c1 | replace c1 := of_nd_true c1)
    obtain ⟨m, hm⟩ : ∃ m, n - x.l.length = m + 1 := ⟨n - x.l.length - 1, by omega⟩
    rw [hm, pFrom_succ] at hG
    refine WC_skip ?_
    refine WQ_next ?_
    refine WC_seq ?_
    refine WC_block ?_
    refine WC_region ?_
    refine WL_op rfl (Ex_move rfl) ?_
    refine WL_op rfl (Ex_move rfl) ?_
    refine WL_callRV fn118 rfl rfl 0 rfl h0.base (Rc_F h0) (hE.out x.r (by omega)) (fun hm => WD_pan (WD_pan (WD_pan (WD_pan (WD_pan (WD_end (rd_no hG hm))))))) ?_
    rintro v cs' R' ⟨x1, r1, hp, rfl, hr1, y, hy, rfl, hR, hok1⟩
    subst hy
    refine WL_imp hR.left ?_
    refine WL_know (p := (meC y).all (·.oneCell') = true) (fun w hs => one_Method y w hs.res.1) ?_
    intro hone
    refine WL_imp (list_push _ _ _ _) ?_
    refine WL_bs rfl (ts rfl) (tz rfl) rfl rfl rfl rfl rfl ?_
    intro b1 hb1
    refine WL_app rfl (ta rfl) rfl rfl (row_whole 0 rfl) rfl hone ?_ ?_ ?_
    · unfold maxLen; omega
    · omega
    intro v1
    refine WL_op rfl (Ex_assign rfl) ?_
    refine WL_nil ?_
    refine WQ_bnext ?_
    refine WQ_next ?_
    refine WC_region ?_
    (first | (refine WL_op rfl (Ex_inc rfl rfl ?_) ?_; omega) | (refine WL_op rfl (Ex_addB rfl rfl ?_) ?_; omega) | refine WL_op rfl (Ex_add rfl rfl) ?_)
    refine WL_op rfl (Ex_move rfl) ?_
    refine WL_nil ?_
    refine WQ_same (s := 13) (v' := .int .i64 ((x.l ++ [y]).length : Nat)) rfl (by rw [List.length_append]; rfl) ?_
    refine WQ_again (⟨r1, v1, x.l ++ [y]⟩) ?_ (⟨⟨by show (x.l ++ [y]).length ≤ n; rw [List.length_append]; simp only [List.length_singleton]; omega, by show r1.length ≤ r.length; omega⟩, ok_snoc hok hok1, by show Goes _ _ (some r1) (pFrom (pMe false true) ((x.l ++ [y]).map fMe) (n - (x.l ++ [y]).length)); rw [List.map_append, List.length_append, show n - (x.l.length + [y].length) = m by simp only [List.length_singleton]; omega]; have h9 := rd_next hG hp; exact h9⟩) 1 rfl (by show (ownA 134 10 _ _ _).and _ = _; rw [List.length_append, List.flatMap_append, List.map_append]; rfl) ⟨rfl, rfl, rfl, rfl, trivial⟩
    show n - (x.l ++ [y]).length < n - x.l.length; rw [List.length_append]; simp only [List.length_singleton]; omega
  · intro c1
    try (first | replace c1 := of_decide_eq_false c1 | replace c1 := of_nd_false c1)
    refine WC_exit ?_
    refine WQ_exit ?_
    refine WQ_lexit ?_
    refine WQ_here ?_
    refine WQ_next ?_
    refine WC_seq ?_
    refine WC_region ?_
    refine WL_op rfl (Ex_move rfl) ?_
    refine WL_op rfl (Ex_assign rfl) ?_
    refine WL_nil ?_
    refine WQ_next ?_
    refine WC_ret ?_
    refine Rc_end1 rfl rfl 0 rfl ?_
    rw [show n - x.l.length = 0 by omega, pFrom_zero] at hG; exact ⟨x.l.map fMe, x.r, rd_done hG, rfl, hxr, x.l, rfl, Asr.Imp.right (Asr.fst _ _), by omega, hok⟩
end Go.Proofs.YtpofmnfkdkmieaaGreat
