/- What is proved here: the program's Encode answers the bytes of a class, or ErrForm. -/
import Derived.Test.YtpofmnfkdkmieaaGreatQ17
import Derived.Test.YtpofmnfkdkmieaaGreatQ15
import Derived.Test.YtpofmnfkdkmieaaGreatQ14
import Derived.Test.YtpofmnfkdkmieaaGreatQ12
set_option linter.unusedVariables false
set_option linter.unusedSimpArgs false
namespace Go.Proofs.YtpofmnfkdkmieaaGreat
open Go Go.RowKit At E

section
variable {n : Nat} {E : Env} {w0 : World} {F : List Nat} {H : Hp} {R : Asr}
theorem Ex_isNil {x : Operand} (hx : ev E x = some .nilIface) : Ex Tryz.prog n E w0 F H R (.binOp .eql 20 x (.const .nilIface) 20) (.bool true) := ⟨fun w _ a ha _ _ _ _ _ => by
  simp only [execOp]; rw [ha.eval hx, show a.eval (.const Value.nilIface) = .nilIface from rfl, eqGuard_nil_constR]; kernel_rfl⟩
theorem Ex_isErr {x : Operand} (hx : ev E x = some errI) : Ex Tryz.prog n E w0 F H R (.binOp .eql 20 x (.const .nilIface) 20) (.bool false) := ⟨fun w _ a ha _ _ _ _ _ => by
  simp only [execOp]; rw [ha.eval hx, show a.eval (.const Value.nilIface) = .nilIface from rfl]; kernel_rfl⟩
theorem Ex_noWrong {x : Operand} (hx : ev E x = some errI) : Ex Tryz.prog n E w0 F H R (.typeAssert x 20 143 true) (.tuple #[.agg #[.int .i64 0, .int .i64 0], .bool false]) := ⟨fun w _ a ha _ _ _ _ _ => by
  simp only [execOp]; rw [ha.eval hx]; kernel_rfl⟩
end
theorem toldNil_any (w : World) : Pure Tryz.prog 59 #[.nilIface] w (.tuple #[.agg #[.int .i64 0, .int .i64 0], .int .i64 0]) := by
  refine opens (args := [.nilIface]) Tryz.func59 rfl Tryz.ntmps59 ?_
  refine WC_seq ?_
  refine WC_region ?_
  refine WL_alloc rfl (tz rfl) ?_
  intro b0 hb0
  refine WL_op rfl (Ex_assign rfl) ?_
  refine WL_nil ?_
  refine WQ_next ?_
  refine WC_seq ?_
  refine WC_seq ?_
  refine WC_region ?_
  refine WL_op rfl (Ex_move rfl) ?_
  refine WL_nil ?_
  refine WQ_next ?_
  refine WC_block ?_
  refine WC_seq ?_
  refine WC_region ?_
  refine WL_op rfl (Ex_isNil rfl) ?_
  refine WL_nil ?_
  refine WQ_next ?_
  refine WC_if rfl ?_ ?_  -- cond 1 atrium.go:55
  · intro c1
    try (first | replace c1 := of_decide_eq_true c1 | replace c1 := of_nd_true c1)
    refine WC_seq ?_
    refine WC_region ?_
    refine WL_op rfl (Ex_assign rfl) ?_
    refine WL_nil ?_
    refine WQ_next ?_
    refine WC_seq ?_
    refine WC_region ?_
    refine WL_op rfl (Ex_build (tb rfl) rfl rfl) ?_
    refine WL_storeN (tn rfl) rfl rfl 0 rfl rfl rfl rfl ?_
    refine WL_op rfl (Ex_assign rfl) ?_
    refine WL_nil ?_
    refine WQ_next ?_
    refine WC_ret ?_
    refine WQ_ret ?_
    refine WQ_ret ?_
    refine P_endR (Res_2 rfl (RV_cellN (tn rfl) rfl (row_whole 0 rfl) rfl) (RV_tmp rfl)) ?_
    rfl
  · intro c1
    try (first | replace c1 := of_decide_eq_false c1 | replace c1 := of_nd_false c1)
    cases c1
theorem toldErr_any (w : World) : Pure Tryz.prog 59 #[errI] w (.tuple #[.agg #[.int .i64 0, .int .i64 0], .int .i64 1]) := by
  refine opens (args := [errI]) Tryz.func59 rfl Tryz.ntmps59 ?_
  refine WC_seq ?_
  refine WC_region ?_
  refine WL_alloc rfl (tz rfl) ?_
  intro b0 hb0
  refine WL_op rfl (Ex_assign rfl) ?_
  refine WL_nil ?_
  refine WQ_next ?_
  refine WC_seq ?_
  refine WC_seq ?_
  refine WC_region ?_
  refine WL_op rfl (Ex_move rfl) ?_
  refine WL_nil ?_
  refine WQ_next ?_
  refine WC_block ?_
  refine WC_seq ?_
  refine WC_region ?_
  refine WL_op rfl (Ex_isErr rfl) ?_
  refine WL_nil ?_
  refine WQ_next ?_
  refine WC_if rfl ?_ ?_  -- cond 1 atrium.go:55
  · intro c1
    try (first | replace c1 := of_decide_eq_true c1 | replace c1 := of_nd_true c1)
    cases c1
  · intro c1
    try (first | replace c1 := of_decide_eq_false c1 | replace c1 := of_nd_false c1)
    refine WC_seq ?_
    refine WC_region ?_
    refine WL_op rfl (Ex_noWrong rfl) ?_
    refine WL_op rfl (Ex_ext rfl rfl) ?_
    refine WL_op rfl (Ex_ext rfl rfl) ?_
    refine WL_nil ?_
    refine WQ_next ?_
    refine WC_if rfl ?_ ?_  -- cond 2 atrium.go:55
    · intro c2
      try (first | replace c2 := of_decide_eq_true c2 | replace c2 := of_nd_true c2)
      cases c2
    · intro c2
      try (first | replace c2 := of_decide_eq_false c2 | replace c2 := of_nd_false c2)
      refine WC_skip ?_
      refine WQ_bnext ?_
      refine WQ_next ?_
      refine WC_seq ?_
      refine WC_region ?_
      refine WL_op rfl (Ex_build (tb rfl) rfl rfl) ?_
      refine WL_storeN (tn rfl) rfl rfl 0 rfl rfl rfl rfl ?_
      refine WL_op rfl (Ex_assign rfl) ?_
      refine WL_nil ?_
      refine WQ_next ?_
      refine WC_ret ?_
      refine P_endR (Res_2 rfl (RV_cellN (tn rfl) rfl (row_whole 0 rfl) rfl) (RV_tmp rfl)) ?_
      rfl
theorem encode1_any (c : Cl) (fv mv : Value) (b : Nat) (u w : World) (hc0 : ClAt u c fv mv) (hu : Below u.heap.size u w) (hb : ∀ j v, (clV c fv mv)[j]? = some v → w.cell? ⟨b, j, none⟩ = some v) (hlt : b < w.heap.size) :
    PureQ Tryz.prog 70 #[.pointer (some ⟨b, 0, none⟩)] w (if isClassB c = true then some (.string (bytesS c)) else none) := by
  refine opens (args := [.pointer (some ⟨b, 0, none⟩)]) Tryz.func70 rfl Tryz.ntmps70 ?_
  refine WC_seq ?_
  refine WC_region ?_
  refine WL_op rfl (Ex_assign rfl) ?_
  refine WL_nil ?_
  refine WQ_next ?_
  refine WC_seq ?_
  refine WC_region ?_
  refine WL_op rfl (Ex_loadN (tn rfl) rfl (row_old (o := 0) (vs := clV c fv mv) (fun j v hj => by rw [Nat.zero_add]; exact hb j v hj) hlt) rfl) ?_
  refine WL_callQ fn71 rfl rfl (fun w' hs => write_any c fv mv w' (hc0.mono (below_then hu (lowOf hs)))) (fun hn => WQ_pan (PQ_dies hn)) ?_
  intro v hv
  refine WL_op rfl (Ex_assign rfl) ?_
  refine WL_nil ?_
  refine WQ_next ?_
  refine WC_ret ?_
  refine PQ_end1 rfl rfl hv
def encO (c : Cl) : Option Value := if isClassB c = true then some (.string (bytesS c)) else none
theorem own_cells {w0 w : World} {F : List Nat} {H : Hp} {R : Asr} (hs : Sat w0 F H R w) {i b : Nat} {cs : List Value} (hp : H[i]? = some (b, cs)) : (∀ j v, cs[j]? = some v → w.cell? ⟨b, j, none⟩ = some v) ∧ b < w.heap.size :=
  ⟨fun j v hj => by rw [hs.mine (List.mem_of_getElem? hp)]; exact hj, hs.lt (List.mem_of_getElem? hp)⟩
theorem encCaught_any (c : Cl) (fv mv : Value) (b : Nat) (u w : World) (hc0 : ClAt u c fv mv) (hu : Below u.heap.size u w) (hb : (∀ j v, (clV c fv mv)[j]? = some v → w.cell? ⟨b, j, none⟩ = some v) ∧ b < w.heap.size) :
    FnP Tryz.prog 69 #[.func (.func 70) #[] #[.pointer (some ⟨b, 0, none⟩)]] w (caughtOk (.string ⟨#[]⟩) (fun v R' => encO c = some v ∧ R' = Asr.none) (encO c = none)) False :=
  caughtString_any 70 _ w _ _ fn70 fun w2 hb2 => FnP.of_Q (encode1_any c fv mv b u w2 hc0 (below_then hu hb2) (fun j v hj => by rw [hb2.cell (p := ⟨b, j, none⟩) hb.2]; exact hb.1 j v hj) (Nat.lt_of_lt_of_le hb.2 hb2.size))
theorem encO_some {c : Cl} {v : Value} (h : encO c = some v) : isClassB c = true ∧ v = .string (bytesS c) := by
  unfold encO at h
  split at h
  · cases h; exact ⟨by assumption, rfl⟩
  · cases h
theorem encO_none {c : Cl} (h : encO c = none) : isClassB c = false := by
  unfold encO at h
  split at h
  · cases h
  · simpa using (by assumption : ¬ isClassB c = true)
theorem told_any (y : Value) (k : Int) (w : World) (hy : (y = .nilIface ∧ k = 0) ∨ (y = errI ∧ k = 1)) : Pure Tryz.prog 59 #[y] w (.tuple #[.agg #[.int .i64 0, .int .i64 0], .int .i64 k]) := by
  rcases hy with ⟨rfl, rfl⟩ | ⟨rfl, rfl⟩
  · exact toldNil_any w
  · exact toldErr_any w
theorem enc_know {c : Cl} {v : Value} {R' : Asr} (h : caughtOk (.string ⟨#[]⟩) (fun v R' => encO c = some v ∧ R' = Asr.none) (encO c = none) v R') :
    ∃ (x : ByteArray) (y : Value) (k : Int), v = .tuple #[.string x, y] ∧ x = (if isClassB c then bytesS c else ⟨#[]⟩) ∧ k = (if isClassB c then 0 else 1) ∧ ((y = .nilIface ∧ k = 0) ∨ (y = errI ∧ k = 1)) := by
  rcases h with ⟨x, ⟨hx, -⟩, rfl⟩ | ⟨hx, -, rfl⟩
  · obtain ⟨h1, rfl⟩ := encO_some hx
    exact ⟨_, _, 0, rfl, by rw [h1]; rfl, by rw [h1]; rfl, .inl ⟨rfl, rfl⟩⟩
  · have h1 := encO_none hx
    exact ⟨_, _, 1, rfl, by rw [h1]; rfl, by rw [h1]; rfl, .inr ⟨rfl, rfl⟩⟩
theorem encode_any (c : Cl) (fv mv : Value) (w : World) (hc0 : ClAt w c fv mv) :
    Pure Tryz.prog 26 #[.agg (clV c fv mv).toArray] w (.tuple #[.string (if isClassB c then bytesS c else ⟨#[]⟩), .int .i64 (if isClassB c then 0 else 1)]) := by
  obtain ⟨p1, e1, rfl, -, -⟩ := hc0.fs.is
  obtain ⟨p2, e2, rfl, -, -⟩ := hc0.ms.is
  refine opens (args := [.agg (clV c (.slice p1 c.fields.length e1) (.slice p2 c.methods.length e2)).toArray]) Tryz.func26 rfl Tryz.ntmps26 ?_
  refine WC_seq ?_
  refine WC_region ?_
  refine WL_box rfl rfl ?_
  intro b0 hb0
  refine WL_op rfl (Ex_assign rfl) ?_
  refine WL_op rfl (Ex_assign rfl) ?_
  refine WL_nil ?_
  refine WQ_next ?_
  refine WC_seq ?_
  refine WC_region ?_
  refine WL_op rfl (Ex_cap rfl) ?_
  refine WL_callF fn69 rfl rfl (fun w' hs => encCaught_any c _ _ b0 w w' hc0 (lowOf hs) (own_cells hs (i := 0) rfl)) (fun h => h.elim) ?_
  intro v R' hv
  refine WL_know (p := ∃ (x : ByteArray) (y : Value) (k : Int), v = .tuple #[.string x, y] ∧ x = (if isClassB c then bytesS c else ⟨#[]⟩) ∧ k = (if isClassB c then 0 else 1) ∧ ((y = .nilIface ∧ k = 0) ∨ (y = errI ∧ k = 1))) (fun _ _ => enc_know hv) ?_
  rintro ⟨x, y, k, rfl, hx, hk, hy⟩
  refine WL_op rfl (Ex_move rfl) ?_
  refine WL_op rfl (Ex_ext rfl rfl) ?_
  refine WL_op rfl (Ex_ext rfl rfl) ?_
  refine WL_op rfl (Ex_assign rfl) ?_
  refine WL_op rfl (Ex_assign rfl) ?_
  refine WL_nil ?_
  refine WQ_next ?_
  refine WC_seq ?_
  refine WC_region ?_
  refine WL_op rfl (Ex_move rfl) ?_
  refine WL_call fn59 rfl rfl (fun w' _ => told_any y k w' hy) ?_
  refine WL_op rfl (Ex_move rfl) ?_
  refine WL_op rfl (Ex_ext rfl rfl) ?_
  refine WL_op rfl (Ex_ext rfl rfl) ?_
  refine WL_alloc rfl (tz rfl) ?_
  intro b1 hb1
  refine WL_storeN (tn rfl) rfl rfl 0 rfl rfl rfl rfl ?_
  refine WL_op rfl (Ex_assign rfl) ?_
  refine WL_nil ?_
  refine WQ_next ?_
  refine WC_seq ?_
  refine WC_region ?_
  refine WL_op rfl (Ex_move rfl) ?_
  refine WL_op rfl (Ex_move rfl) ?_
  refine WL_op rfl (Ex_assign rfl) ?_
  refine WL_op rfl (Ex_assign rfl) ?_
  refine WL_nil ?_
  refine WQ_next ?_
  refine WC_ret ?_
  refine P_end2 rfl rfl rfl ?_
  rw [hx, hk]; rfl
end Go.Proofs.YtpofmnfkdkmieaaGreat
namespace Go.Proofs.YtpofmnfkdkmieaaGreat
open Go.RowKit At E

theorem WD_endF {P : Program} {n : Nat} {E : Env} {w : World} {fn : Func} {ok : Value → Asr → Prop} {may : Prop} (h : may) : WD P n E w fn (FnZ w ok may) [] :=
  ⟨fun _ hb _ ha => ⟨ha.no, .inr ⟨h, rfl, hb⟩⟩⟩
def readOk (o : Option Cl) : Value → Asr → Prop := fun v R' => ∃ c k, o = some c ∧ v = .agg (clV c k.fv k.mv).toArray ∧ R'.Imp (clA c k) ∧ ClFit c k
theorem read_short {r : List UInt8} (h : pTake 4 r = none) : okOnly (decL false true r) = none := by
  have h4 : ¬ 4 ≤ r.length := by
    intro h9; rw [pTake_ok h9] at h; cases h
  unfold decL
  rw [if_neg]; rfl
  intro e
  have := congrArg List.length e
  rw [List.length_take] at this
  simp only [clas, List.length_cons, List.length_nil] at this
  omega
theorem read_front {r : List UInt8} (h : ¬ r.take 4 = clas) : okOnly (decL false true r) = none := by unfold decL; rw [if_neg h]; rfl
theorem read_no {r : List UInt8} (hcl : r.take 4 = clas) (h : pCl false true (r.drop 4) = none) : okOnly (decL false true r) = none := by
  unfold decL; rw [if_pos hcl, h]; rfl
theorem read_all {r r' : List UInt8} {c : Cl} (hcl : r.take 4 = clas) (h : pCl false true (r.drop 4) = some (c, r')) : decL false true r = if r' = [] then some c else none := by
  unfold decL; rw [if_pos hcl, h]
set_option maxHeartbeats 2000000 in
theorem read_any (r : List UInt8) (w : World) (hr : r.length ≤ 4000000) : FnP Tryz.prog 68 #[.string ⟨r.toArray⟩] w (readOk (okOnly (decL false true r))) (okOnly (decL false true r) = none) := by
  have hu : Below w.heap.size w w := Below.refl _ w
  refine opens (args := [.string ⟨r.toArray⟩]) Tryz.func68 rfl Tryz.ntmps68 ?_
  refine WC_seq ?_
  refine WC_region ?_
  refine WL_alloc rfl (tz rfl) ?_
  intro b0 hb0
  refine WL_nil ?_
  refine WQ_next ?_
  refine WC_seq ?_
  refine WC_region ?_
  refine WL_op rfl (Ex_move rfl) ?_
  refine WL_op rfl (Ex_build (tb rfl) rfl rfl) ?_
  refine WL_box rfl rfl ?_
  intro b1 hb1
  refine WL_op rfl (Ex_assign rfl) ?_
  refine WL_nil ?_
  refine WQ_next ?_
  refine WC_seq ?_
  refine WC_region ?_
  refine WL_op rfl (Ex_move rfl) ?_
  refine WL_callR0 fn112 rfl rfl 0 rfl hu none_in (rdTake_any w b1 4 r hr) (fun hm => WD_pan (WD_endF (read_short hm))) ?_; rintro v cs' ⟨R', l, r1, hp, rfl, hr1, rfl, -⟩; obtain ⟨hl1, hl2, -⟩ := pTake_some hp
  refine WL_op rfl (Ex_eqlS rfl rfl) ?_
  refine WL_callP fn111 rfl rfl (fun w _ => must_any _ w) ?_ ?_
  rotate_left
  · intro o1
    try (first | replace o1 := of_decide_eq_false o1 | replace o1 := of_nd_false o1)
    have hdead : okOnly (decL false true r) = none := read_front (fun h => by rw [hl1, h] at o1; exact absurd rfl o1)
    refine WQ_pan ?_
    refine Fn_dies ?_
    exact hdead
  intro o1
  try (first | replace o1 := of_decide_eq_true o1 | replace o1 := of_nd_true o1)
  have hcl : r.take 4 = clas := by rw [← hl1]; have h9 := congrArg (fun b : ByteArray => b.data.toList) o1; unfold clas; simpa using h9
  subst hl2; have hS := Goes.first (some (r.drop 4)) (pCl false true)
  refine WL_nil ?_
  refine WQ_next ?_
  refine WC_seq ?_
  refine WC_region ?_
  refine WL_op rfl (Ex_move rfl) ?_
  refine WL_callR0 fn113 rfl rfl 0 rfl hu none_in (rdName_any w b1 (r.drop 4) (by omega)) (fun hm => WD_pan (WD_endF (read_no hcl (rd_no hS hm)))) ?_
  rintro v cs' ⟨R', nm, r2, hp, rfl, hr2, rfl, hnm, -⟩
  replace hS := rd_next hS hp
  refine WL_op rfl (Ex_move rfl) ?_
  refine WL_callR0 fn113 rfl rfl 0 rfl hu none_in (rdName_any w b1 r2 (by omega)) (fun hm => WD_pan (WD_endF (read_no hcl (rd_no hS hm)))) ?_
  rintro v cs' ⟨R', sp, r3, hp, rfl, hr3, rfl, hsp, -⟩
  replace hS := rd_next hS hp
  refine WL_op rfl (Ex_move rfl) ?_
  refine WL_callR0 fn115 rfl rfl 0 rfl hu none_in (rdNbyte_any w b1 r3 (by omega)) (fun hm => WD_pan (WD_endF (read_no hcl (rd_nno hS hm)))) ?_; rintro v cs' ⟨R', n, r4, hp0, rfl, hr4, rfl, hn, -⟩; rw [toI_small (show n < 9223372036854775808 by omega)]
  refine WL_op rfl (Ex_move rfl) ?_
  refine WL_op rfl (Ex_func rfl) ?_
  refine WL_callR fn114 rfl rfl 0 rfl hu none_in (rdListField_any w b1 n 20 (by omega) (rdField_any w b1) r4 (by omega)) (fun hm => WD_pan (WD_endF (read_no hcl (rd_lno hS hp0 hm)))) ?_; rintro fv cs' R' ⟨fd, r5, hp, rfl, hr5, fl, hfl, hR, hfll, hflo⟩; replace hS := rd_lnext hS hp0 hp; refine WL_imp ((hR.trans (Asr.fst _ _)).left.trans (Asr.fst _ _)) ?_; refine WL_know (p := ∃ p l c, fv = .slice p l c) (fun w hs => owns_slice hs.res) ?_; rintro ⟨p1, l1, c1', hfv⟩; subst hfv; rw [map_fId] at hfl; subst hfl; clear hp0
  refine WL_op rfl (Ex_move rfl) ?_
  refine WL_callR0 fn115 rfl rfl 0 rfl hu none_in (rdNbyte_any w b1 r5 (by omega)) (fun hm => WD_pan (WD_endF (read_no hcl (rd_nno hS hm)))) ?_; rintro v cs' ⟨R', n2, r6, hp0, rfl, hr6, rfl, hn2, -⟩; rw [toI_small (show n2 < 9223372036854775808 by omega)]
  refine WL_op rfl (Ex_move rfl) ?_
  refine WL_op rfl (Ex_func rfl) ?_
  refine WL_callR fn117 rfl rfl 0 rfl hu none_in (rdListMethod_any w b1 n2 20 (by omega) (rdMethod_any w b1) r6 (by omega)) (fun hm => WD_pan (WD_endF (read_no hcl (rd_lno hS hp0 hm)))) ?_; rintro mv cs' R'' ⟨md, r7, hp, rfl, hr7, ml, hml, hR2, hmll, hmlo⟩; replace hS := rd_lnext hS hp0 hp; refine WL_imp hR2.left ?_; refine WL_know (p := ∃ p l c, mv = .slice p l c) (fun w hs => owns_slice hs.res.1.1) ?_; rintro ⟨p2, l2, c2', hmv⟩; subst hmv; have hD := read_all hcl (rd_done hS); have hfit : ClFit ⟨nm, sp, fl, md⟩ ⟨.slice p1 l1 c1', .slice p2 l2 c2', ml⟩ := ⟨hml, ⟨strOk_255 hnm, strOk_255 hsp⟩, ⟨by show fl.length ≤ 1048576; omega, hflo⟩, ⟨by show ml.length ≤ 1048576; omega, hmlo⟩⟩; refine WL_imp (R' := clA ⟨nm, sp, fl, md⟩ ⟨.slice p1 l1 c1', .slice p2 l2 c2', ml⟩) (Asr.comm _ _) ?_
  refine WL_op rfl (Ex_build (cs := clH nm sp (.slice p1 l1 c1') (.slice p2 l2 c2')) (tb rfl) rfl (by kernel_rfl)) ?_
  refine WL_alloc rfl (tz rfl) ?_
  intro b2 hb2
  refine WL_storeN (tn rfl) rfl rfl 0 rfl rfl rfl rfl ?_
  refine WL_nil ?_
  refine WQ_next ?_
  refine WC_seq ?_
  refine WC_region ?_
  refine WL_op rfl (Ex_move rfl) ?_
  refine WL_op rfl (Ex_nil rfl) ?_
  refine WL_op rfl (Ex_field (ff rfl) rfl) ?_
  refine WL_op rfl (Ex_load (t1 rfl) rfl (cell_mine 1 rfl rfl)) ?_
  refine WL_op rfl (Ex_eqlS rfl rfl) ?_
  refine WL_callP fn111 rfl rfl (fun w _ => must_any _ w) ?_ ?_
  rotate_left
  · intro o2
    try (first | replace o2 := of_decide_eq_false o2 | replace o2 := of_nd_false o2)
    have hdead : okOnly (decL false true r) = none := by rw [hD, if_neg (fun h => by rw [h] at o2; exact absurd rfl o2)]; rfl
    refine WQ_pan ?_
    refine Fn_dies ?_
    exact hdead
  intro o2
  try (first | replace o2 := of_decide_eq_true o2 | replace o2 := of_nd_true o2)
  have hnil : r7 = [] := by have h9 := congrArg (fun b : ByteArray => b.data.toList) o2; simpa using h9
  rw [if_pos hnil] at hD
  refine WL_nil ?_
  refine WQ_next ?_
  refine WC_seq ?_
  refine WC_region ?_
  refine WL_op rfl (Ex_loadM (tn rfl) rfl 0 rfl rfl) ?_
  refine WL_callP fn103 rfl rfl (fun w' hs => mustBeClass_any ⟨nm, sp, fl, md⟩ (.slice p1 l1 c1') (.slice p2 l2 c2') w' (clA_at (k := ⟨.slice p1 l1 c1', .slice p2 l2 c2', ml⟩) hs.res hfit)) ?_ ?_
  rotate_left
  · intro o3
    try (first | replace o3 := of_decide_eq_false o3 | replace o3 := of_nd_false o3)
    have hdead : okOnly (decL false true r) = none := by rw [hD]; simp only [okOnly]; rw [if_neg (by rw [o3]; simp)]
    refine WQ_pan ?_
    refine Fn_dies ?_
    exact hdead
  intro o3
  try (first | replace o3 := of_decide_eq_true o3 | replace o3 := of_nd_true o3)
  refine WL_nil ?_
  refine WQ_next ?_
  refine WC_seq ?_
  refine WC_region ?_
  refine WL_op rfl (Ex_loadM (tn rfl) rfl 0 rfl rfl) ?_
  refine WL_storeN (tn rfl) rfl rfl 2 rfl rfl rfl rfl ?_
  refine WL_nil ?_
  refine WQ_next ?_
  refine WC_ret ?_
  refine Fn_end (Res_1 rfl (RV_cellN (tn rfl) rfl (row_whole 2 rfl) rfl)) ?_
  exact ⟨⟨nm, sp, fl, md⟩, ⟨.slice p1 l1 c1', .slice p2 l2 c2', ml⟩, by rw [hD]; simp only [okOnly]; rw [if_pos o3], rfl, .refl _, hfit⟩
theorem clV_one (c : Cl) {fv mv : Value} (h1 : fv.oneCell' = true) (h2 : mv.oneCell' = true) : (clV c fv mv).all (·.oneCell') = true := by
  simp only [clV, List.all_cons, List.all_nil, h1, h2]; rfl
theorem WL_box1 {P : Program} {n : Nat} {E : Env} {w0 : World} {F : List Nat} {H : Hp} {R : Asr} {fn : Func} {Z : Ending → World → Prop} {κ : List Kf} {all : Array Oper} {l : List Oper} {d : Nat} {s : TypeId} {x : Operand} {t : TypeId} {p : String} {e : Array Edge} {v : Value} (hd : Nat.blt d n = true) (hx : ev E x = some v) (hv : v.cells = #[v])
    (h : ∀ b, w0.heap.size ≤ b → WL P n all l ((d, .pointer (some ⟨b, 0, none⟩)) :: E) w0 F ((b, [v]) :: H) R fn Z κ) : WL P n all (⟨some d, .box s x, t, p, e, none⟩ :: l) E w0 F H R fn Z κ :=
  ⟨fun w hs a ha => wpList_plain rfl fun K hK => by
    have hr : (execOp a.eval ⟨some d, .box s x, t, p, e, none⟩).run P w = .ok (.value (.pointer (some ⟨w.heap.size, 0, none⟩))) (w.alloc (.cells [v].toArray s)) := by
      simp only [execOp]; rw [ha.eval hx]
      simp [Instr.box, newVar, newRow, hv]
    unfold Oper.wp; rw [hr]
    exact hK _ _ ((h w.heap.size hs.low.size).go (w.alloc _) (hs.alloc [v] s) _ (ha.put hd _))⟩
theorem decode1_any (r : List UInt8) (b : Nat) (w : World) (hr : r.length ≤ 4000000) (hb : w.cell? ⟨b, 0, none⟩ = some (.string ⟨r.toArray⟩)) (hlt : b < w.heap.size) :
    FnP Tryz.prog 67 #[.pointer (some ⟨b, 0, none⟩)] w (readOk (okOnly (decL false true r))) (okOnly (decL false true r) = none) := by
  refine opens (args := [.pointer (some ⟨b, 0, none⟩)]) Tryz.func67 rfl Tryz.ntmps67 ?_
  refine WC_seq ?_
  refine WC_region ?_
  refine WL_alloc rfl (tz rfl) ?_
  intro b0 hb0
  refine WL_nil ?_
  refine WQ_next ?_
  refine WC_seq ?_
  refine WC_region ?_
  refine WL_op rfl (Ex_load (t1 rfl) rfl (cell_old hb hlt)) ?_
  refine WL_callF fn68 rfl rfl (fun w' _ => read_any r w' hr) (fun hn => WQ_pan (Fn_dies hn)) ?_
  rintro v R' ⟨c, ⟨fv, mv, ms⟩, ho, rfl, hR, hfit⟩
  refine WL_imp (hR.left.trans (Asr.fst _ _)) ?_
  refine WL_know (p := fv.oneCell' = true ∧ mv.oneCell' = true) (fun w hs => ⟨own_one hs.res.1, own_one hs.res.2.1.1⟩) ?_
  rintro ⟨hf1, hm1⟩
  refine WL_storeN (tn rfl) rfl rfl 0 rfl rfl (clV_one c hf1 hm1) rfl ?_
  refine WL_nil ?_
  refine WQ_next ?_
  refine WC_ret ?_
  refine Fn_end (Res_1 rfl (RV_cellN (tn rfl) rfl (row_whole 0 rfl) rfl)) ?_
  exact ⟨c, ⟨fv, mv, ms⟩, ho, rfl, .refl _, hfit⟩
def readOk' (o : Option Cl) : Value → Asr → Prop := fun v R' => ∃ c k, o = some c ∧ v = .agg (clV c k.fv k.mv).toArray ∧ R'.Imp (clA c k) ∧ ClFit c k ∧ (clV c k.fv k.mv).all (·.oneCell') = true
theorem fn_one {f : FuncId} {args : Array Value} {w : World} {o : Option Cl} {may : Prop} (h : FnP Tryz.prog f args w (readOk o) may) : FnP Tryz.prog f args w (readOk' o) may := by
  refine Calls.mono h ?_
  rintro e w' (⟨v, R', rfl, ⟨c, k, ho, rfl, hR, hfit⟩, hw⟩ | ⟨hm, rfl, hb⟩)
  · have h1 := hR.a w' hw.res
    exact .inl ⟨_, R', rfl, ⟨c, k, ho, rfl, hR, hfit, clV_one c (own_one h1.1) (own_one h1.2.1.1)⟩, hw⟩
  · exact .inr ⟨hm, rfl, hb⟩
theorem decCaught_any (r : List UInt8) (b : Nat) (w : World) (hr : r.length ≤ 4000000) (hb : w.cell? ⟨b, 0, none⟩ = some (.string ⟨r.toArray⟩)) (hlt : b < w.heap.size) :
    FnP Tryz.prog 66 #[.func (.func 67) #[] #[.pointer (some ⟨b, 0, none⟩)]] w (caughtOk (.agg zeroC.toArray) (readOk' (okOnly (decL false true r))) (okOnly (decL false true r) = none)) False :=
  caughtClass_any 67 _ w _ _ fn67 (fun w2 hb2 => fn_one (decode1_any r b w2 hr (by rw [hb2.cell (p := ⟨b, 0, none⟩) hlt]; exact hb) (Nat.lt_of_lt_of_le hlt hb2.size)))
    (fun v R' ⟨c, k, _, hv, _, _, h1⟩ => ⟨_, hv, rfl, h1⟩)
theorem dec_know {o : Option Cl} {v : Value} {R' : Asr} (h : caughtOk (.agg zeroC.toArray) (readOk' o) (o = none) v R') :
    (∃ c k, o = some c ∧ v = .tuple #[.agg (clV c k.fv k.mv).toArray, .nilIface] ∧ R'.Imp (clA c k) ∧ ClFit c k ∧ (clV c k.fv k.mv).all (·.oneCell') = true) ∨ (o = none ∧ v = .tuple #[.agg zeroC.toArray, errI]) := by
  rcases h with ⟨x, ⟨c, k, ho, rfl, hR, hfit, h1⟩, rfl⟩ | ⟨hx, -, rfl⟩
  · exact .inl ⟨c, k, ho, rfl, hR, hfit, h1⟩
  · exact .inr ⟨hx, rfl⟩
theorem dec_shape {o : Option Cl} {v : Value} {R' : Asr} (h : caughtOk (.agg zeroC.toArray) (readOk' o) (o = none) v R') :
    ∃ (vs : List Value) (y : Value) (k : Int), v = .tuple #[.agg vs.toArray, y] ∧ vs.length = 4 ∧ vs.all (·.oneCell') = true ∧ ((y = .nilIface ∧ k = 0) ∨ (y = errI ∧ k = 1)) ∧ decOk o (.tuple #[.agg vs.toArray, .int .i64 k]) R' := by
  rcases dec_know h with ⟨c, k, ho, rfl, hR, hfit, h1⟩ | ⟨ho, rfl⟩
  · exact ⟨_, _, 0, rfl, rfl, h1, .inl ⟨rfl, rfl⟩, .inl ⟨c, k, ho, rfl, hR, hfit⟩⟩
  · exact ⟨zeroC, _, 1, rfl, rfl, rfl, .inr ⟨rfl, rfl⟩, .inr ⟨ho, rfl⟩⟩
theorem put_four {vs : List Value} (h : vs.length = 4) : put [.string ⟨#[]⟩, .string ⟨#[]⟩, .slice none 0 0, .slice none 0 0] 0 vs = vs := by unfold put; rw [h]; show [] ++ vs ++ [] = vs; simp
theorem cut_four {vs : List Value} (h : vs.length = 4) : cut vs 0 4 = vs := by unfold cut; rw [List.drop_zero, List.take_of_length_le (by omega)]
theorem decode_any (s : ByteArray) (w : World) (hs : s.size ≤ 4000000) : FnP Tryz.prog 25 #[.string s] w (decOk (okOnly (decL false true (dl s)))) False := by
  obtain ⟨r, rfl⟩ : ∃ r : List UInt8, s = ⟨r.toArray⟩ := ⟨dl s, by cases s; simp [dl]⟩
  rw [ba_size] at hs
  rw [dl_ba]
  refine opens (args := [.string ⟨r.toArray⟩]) Tryz.func25 rfl Tryz.ntmps25 ?_
  refine WC_seq ?_
  refine WC_region ?_
  refine WL_box1 rfl rfl rfl ?_
  intro b0 hb0
  refine WL_alloc rfl (tz rfl) ?_
  intro b1 hb1
  refine WL_op rfl (Ex_assign rfl) ?_
  refine WL_nil ?_
  refine WQ_next ?_
  refine WC_seq ?_
  refine WC_region ?_
  refine WL_op rfl (Ex_cap rfl) ?_
  refine WL_callF fn66 rfl rfl (fun w' hs' => decCaught_any r b0 w' hs ((own_cells hs' (i := 1) rfl).1 0 _ rfl) (own_cells hs' (i := 1) rfl).2) (fun h => h.elim) ?_
  intro v R' hv
  obtain ⟨vs, y, k, rfl, h4, h1, hy, hok⟩ := dec_shape hv
  refine WL_op rfl (Ex_move rfl) ?_
  refine WL_op rfl (Ex_ext rfl rfl) ?_
  refine WL_op rfl (Ex_ext rfl rfl) ?_
  refine WL_alloc rfl (tz rfl) ?_
  intro b2 hb2
  refine WL_storeN (tn rfl) rfl rfl 0 rfl h4 h1 (by rw [h4]; rfl) ?_; rw [put_four h4]
  refine WL_op rfl (Ex_assign rfl) ?_
  refine WL_nil ?_
  refine WQ_next ?_
  refine WC_seq ?_
  refine WC_region ?_
  refine WL_op rfl (Ex_move rfl) ?_
  refine WL_call fn59 rfl rfl (fun w' _ => told_any y k w' hy) ?_
  refine WL_op rfl (Ex_move rfl) ?_
  refine WL_op rfl (Ex_ext rfl rfl) ?_
  refine WL_op rfl (Ex_ext rfl rfl) ?_
  refine WL_alloc rfl (tz rfl) ?_
  intro b3 hb3
  refine WL_storeN (tn rfl) rfl rfl 0 rfl rfl rfl rfl ?_
  refine WL_op rfl (Ex_assign rfl) ?_
  refine WL_nil ?_
  refine WQ_next ?_
  refine WC_seq ?_
  refine WC_region ?_
  refine WL_op rfl (Ex_loadM (tn rfl) rfl 1 rfl (by rw [h4]; rfl)) ?_
  refine WL_op rfl (Ex_move rfl) ?_
  rw [cut_four h4]; refine WL_storeN (tn rfl) rfl rfl 2 rfl h4 h1 (by rw [h4]; rfl) ?_; rw [put_four h4]
  refine WL_op rfl (Ex_assign rfl) ?_
  refine WL_nil ?_
  refine WQ_next ?_
  refine WC_ret ?_
  refine WQ_imp (Asr.fst _ _) (Fn_end (Res_2 rfl (RV_cellN (vs := vs) (tn rfl) rfl (row_whole 2 rfl) h4) (RV_tmp rfl)) ?_)
  exact hok
end Go.Proofs.YtpofmnfkdkmieaaGreat
namespace Go.Proofs.YtpofmnfkdkmieaaGreat
open Go Go.RowKit At E
theorem clA_one {w : World} {c : Cl} {k : ClM} (h : (clA c k).A w) : (clV c k.fv k.mv).all (·.oneCell') = true := clV_one c (own_one h.1) (own_one h.2.1.1)
end Go.Proofs.YtpofmnfkdkmieaaGreat
namespace Go.Proofs.YtpofmnfkdkmieaaGreat
open Go Go.RowKit At E

def tysOk' (l : List Ty) : Prop := l.length ≤ 1000000 ∧ ∀ t ∈ l, tyOk t
structure MeGood (m : Me) : Prop where
  ok : meOk m
  ps : tysOk' m.params
  cs : m.code.length ≤ 1000000 ∧ ∀ i ∈ m.code, insOk i ∧ tysOk' i.ref.params
  hs : m.handlers.length ≤ 1000000 ∧ ∀ h ∈ m.handlers, hdOk h
  fs : m.frames.length ≤ 1000000 ∧ ∀ f ∈ m.frames, intOk f.pos ∧ tysOk' f.locals ∧ tysOk' f.stack
structure ClGood (c : Cl) : Prop where
  ok : strOk c.name ∧ strOk c.super
  fs : c.fields.length ≤ 1000000 ∧ ∀ f ∈ c.fields, fdOk f
  ms : c.methods.length ≤ 1000000 ∧ ∀ m ∈ c.methods, MeGood m
  n : (c.methods.flatMap mT).length ≤ 1048576
end Go.Proofs.YtpofmnfkdkmieaaGreat
namespace Go.Proofs.YtpofmnfkdkmieaaGreat
open Go Go.RowKit At E

theorem one_at {α : Type} {x y : α} {i : Nat} (h : [x][i]? = some y) : i = 0 ∧ y = x := by
  match i, h with
  | 0, h => exact ⟨rfl, (Option.some.inj h).symm⟩
end Go.Proofs.YtpofmnfkdkmieaaGreat
