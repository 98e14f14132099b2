/- What is proved here: the program's Read and Decode answer the class that the plain reading comes to, in memory of their own, or give up, or answer ErrForm. the statement's comparing of classes; its step that reads bytes: Decode answers as the document does, twice, and its lists are kept. -/
import Derived.Test.YtpofmnfkdkmieaaGreatQ28
import Derived.Test.YtpofmnfkdkmieaaGreatQ31
import Derived.Test.YtpofmnfkdkmieaaGreatQ27
import Derived.Test.YtpofmnfkdkmieaaGreatQ24
set_option linter.unusedVariables false
set_option linter.unusedSimpArgs false
namespace Go.Proofs.YtpofmnfkdkmieaaGreat
open Go.RowKit At E
theorem WD_endF {P : Program} {n : Nat} {E : Env} {w : World} {fn : Func} {ok : Value → Asr → Prop} {may : Prop} (h : may) : WD P n E w fn (FnZ w ok may) [] :=
 ⟨fun _ hb _ ha => ⟨ha.no, .inr ⟨h, rfl, hb⟩⟩⟩
def readOk (o : Option Cl) : Value → Asr → Prop := fun v R' => ∃ c k, o = some c ∧ v = .agg (clV c k.fv k.mv).toArray ∧ R'.Imp (clA c k) ∧ ClFit c k
theorem read_short {r : List UInt8} (h : pTake 4 r = none) : okOnly (decL false true r) = none := by
 have h4 : ¬ 4 ≤ r.length := by
  intro h9; rw [pTake_ok h9] at h; cases h
 unfold decL
 rw [if_neg]; rfl
 intro e
 have := congrArg List.length e
 rw [List.length_take] at this
 simp only [clas, List.length_cons, List.length_nil] at this
 omega
theorem read_front {r : List UInt8} (h : ¬ r.take 4 = clas) : okOnly (decL false true r) = none := by unfold decL; rw [if_neg h]; rfl
theorem read_no {r : List UInt8} (hcl : r.take 4 = clas) (h : pCl false true (r.drop 4) = none) : okOnly (decL false true r) = none := by
 unfold decL; rw [if_pos hcl, h]; rfl
theorem read_all {r r' : List UInt8} {c : Cl} (hcl : r.take 4 = clas) (h : pCl false true (r.drop 4) = some (c, r')) : decL false true r = if r' = [] then some c else none := by
 unfold decL; rw [if_pos hcl, h]
theorem eqS_ba (l : List UInt8) (m : List UInt8) : eqS ⟨l.toArray⟩ ⟨m.toArray⟩ = decide (l = m) := by
 unfold eqS
 rw [Bool.eq_iff_iff]
 simp only [decide_eq_true_eq]
 constructor
 ·intro h
  have h2 := congrArg (fun b : ByteArray => b.data.toList) h
  simpa using h2
 ·intro h; rw [h]
set_option maxHeartbeats 2000000 in
theorem read_any (r : List UInt8) (w : World) (hr : r.length ≤ 4000000) : FnP Tryz.prog 68 #[.string ⟨r.toArray⟩] w (readOk (okOnly (decL false true r))) (okOnly (decL false true r) = none) := by
 have hu : Below w.heap.size w w := Below.refl _ w
 refine opens (args := [.string ⟨r.toArray⟩]) Tryz.func68 rfl Tryz.ntmps68 ?_
 refine Zf (Zb (Xg rfl (tz rfl) ?_))
 intro b0 hb0
 refine Ze (Zc (Zf (Zb (Za rfl (Zd rfl) (Za rfl (Xs (tb rfl) rfl rfl) ?_)))))
 refine WL_box rfl rfl ?_
 intro b1 hb1
 refine Za rfl (Zg rfl) (Ze (Zc (Zf (Zb (Za rfl (Zd rfl) ?_)))))
 refine Yk fn112 rfl rfl 0 rfl hu none_in (rdTake_any w b1 4 r hr) (fun hm => Xp (WD_endF (read_short hm))) ?_; rintro v cs' ⟨R', l, r1, hp, rfl, hr1, rfl, -⟩; obtain ⟨hl1, hl2, -⟩ := pTake_some hp
 refine Za rfl (Ex_eqlS rfl rfl) (Yl fn111 rfl rfl (fun w _ => Xe _ w) ?_ ?_)
 rotate_left
 ·intro o1
  try (first | replace o1 := dFa o1 | replace o1 := Zi o1)
  have hdead : okOnly (decL false true r) = none := read_front (fun h => by rw [hl1, h] at o1; exact absurd rfl o1)
  refine Ye (Fn_dies ?_)
  exact hdead
 intro o1
 try (first | replace o1 := dTr o1 | replace o1 := Zk o1)
 have hcl : r.take 4 = clas := by rw [← hl1]; have h9 := congrArg (fun b : ByteArray => b.data.toList) o1; unfold clas; simpa using h9
 subst hl2; have hS := Wa.first (some (r.drop 4)) (pCl false true)
 refine Ze (Zc (Zf (Zb (Za rfl (Zd rfl) (Yk fn113 rfl rfl 0 rfl hu none_in (rdName_any w b1 (r.drop 4) (by omega)) (fun hm => Xp (WD_endF (read_no hcl (rd_no hS hm)))) ?_)))))
 rintro v cs' ⟨R', nm, r2, hp, rfl, hr2, rfl, hnm, -⟩
 replace hS := rd_next hS hp
 refine Za rfl (Zd rfl) (Yk fn113 rfl rfl 0 rfl hu none_in (rdName_any w b1 r2 (by omega)) (fun hm => Xp (WD_endF (read_no hcl (rd_no hS hm)))) ?_)
 rintro v cs' ⟨R', sp, r3, hp, rfl, hr3, rfl, hsp, -⟩
 replace hS := rd_next hS hp
 refine Za rfl (Zd rfl) ?_
 refine Yk fn115 rfl rfl 0 rfl hu none_in (rdNbyte_any w b1 r3 (by omega)) (fun hm => Xp (WD_endF (read_no hcl (rd_nno hS hm)))) ?_; rintro v cs' ⟨R', n, r4, hp0, rfl, hr4, rfl, hn, -⟩; rw [toI_small (show n < 9223372036854775808 by omega)]
 refine Za rfl (Zd rfl) (Za rfl (Ex_func rfl) ?_)
 refine WL_callR fn114 rfl rfl 0 rfl hu none_in (rdListField_any w b1 n 20 (by omega) (rdField_any w b1) r4 (by omega)) (fun hm => Xp (WD_endF (read_no hcl (rd_lno hS hp0 hm)))) ?_; rintro fv cs' R' ⟨fd, r5, hp, rfl, hr5, fl, hfl, hR, hfll, hflo⟩; replace hS := rd_lnext hS hp0 hp; refine Xm ((hR.trans (Asr.fst _ _)).left.trans (Asr.fst _ _)) ?_; refine Xz (p := ∃ p l c, fv = .slice p l c) (fun w hs => Xl hs.res) ?_; rintro ⟨p1, l1, c1', hfv⟩; subst hfv; rw [map_fId] at hfl; subst hfl; clear hp0
 refine Za rfl (Zd rfl) ?_
 refine Yk fn115 rfl rfl 0 rfl hu none_in (rdNbyte_any w b1 r5 (by omega)) (fun hm => Xp (WD_endF (read_no hcl (rd_nno hS hm)))) ?_; rintro v cs' ⟨R', n2, r6, hp0, rfl, hr6, rfl, hn2, -⟩; rw [toI_small (show n2 < 9223372036854775808 by omega)]
 refine Za rfl (Zd rfl) (Za rfl (Ex_func rfl) ?_)
 refine WL_callR fn117 rfl rfl 0 rfl hu none_in (rdListMethod_any w b1 n2 20 (by omega) (rdMethod_any w b1) r6 (by omega)) (fun hm => Xp (WD_endF (read_no hcl (rd_lno hS hp0 hm)))) ?_; rintro mv cs' R'' ⟨md, r7, hp, rfl, hr7, ml, hml, hR2, hmll, hmlo⟩; replace hS := rd_lnext hS hp0 hp; refine Xm hR2.left ?_; refine Xz (p := ∃ p l c, mv = .slice p l c) (fun w hs => Xl hs.res.1.1) ?_; rintro ⟨p2, l2, c2', hmv⟩; subst hmv; have hD := read_all hcl (Xy hS); have hfit : ClFit ⟨nm, sp, fl, md⟩ ⟨.slice p1 l1 c1', .slice p2 l2 c2', ml⟩ := ⟨hml, ⟨Zr hnm, Zr hsp⟩, ⟨by show fl.length ≤ 1048576; omega, hflo⟩, ⟨by show ml.length ≤ 1048576; omega, hmlo⟩⟩; refine Xm (R' := clA ⟨nm, sp, fl, md⟩ ⟨.slice p1 l1 c1', .slice p2 l2 c2', ml⟩) (Asr.comm _ _) ?_
 refine Za rfl (Xs (cs := clH nm sp (.slice p1 l1 c1') (.slice p2 l2 c2')) (tb rfl) rfl (by kernel_rfl)) ?_
 refine Xg rfl (tz rfl) ?_
 intro b2 hb2
 refine Yd (tn rfl) rfl rfl 0 rfl rfl rfl rfl (Ze (Zc (Zf (Zb (Za rfl (Zd rfl) ?_)))))
 refine Za rfl (Ys rfl) (Za rfl (Zh (ff rfl) rfl) (Za rfl (Zj (t1 rfl) rfl (Zl 1 rfl rfl)) (Za rfl (Ex_eqlS rfl rfl) (Yl fn111 rfl rfl (fun w _ => Xe _ w) ?_ ?_))))
 rotate_left
 ·intro o2
  try (first | replace o2 := dFa o2 | replace o2 := Zi o2)
  have hdead : okOnly (decL false true r) = none := by rw [hD, if_neg (fun h => by rw [h] at o2; exact absurd rfl o2)]; rfl
  refine Ye (Fn_dies ?_)
  exact hdead
 intro o2
 try (first | replace o2 := dTr o2 | replace o2 := Zk o2)
 have hnil : r7 = [] := by have h9 := congrArg (fun b : ByteArray => b.data.toList) o2; simpa using h9
 rw [if_pos hnil] at hD
 refine Ze (Zc (Zf (Zb (Za rfl (Yb (tn rfl) rfl 0 rfl rfl) (Yl fn103 rfl rfl (fun w' hs => mustBeClass_any ⟨nm, sp, fl, md⟩ (.slice p1 l1 c1') (.slice p2 l2 c2') w' (clA_at (k := ⟨.slice p1 l1 c1', .slice p2 l2 c2', ml⟩) hs.res hfit)) ?_ ?_)))))
 rotate_left
 ·intro o3
  try (first | replace o3 := dFa o3 | replace o3 := Zi o3)
  have hdead : okOnly (decL false true r) = none := by rw [hD]; simp only [okOnly]; rw [if_neg (by rw [o3]; simp)]
  refine Ye (Fn_dies ?_)
  exact hdead
 intro o3
 try (first | replace o3 := dTr o3 | replace o3 := Zk o3)
 refine Ze (Zc (Zf (Zb (Za rfl (Yb (tn rfl) rfl 0 rfl rfl) (Yd (tn rfl) rfl rfl 2 rfl rfl rfl rfl ?_)))))
 refine Ze (Zc (Zv (Fn_end (Res_1 rfl (Xo (tn rfl) rfl (Yj 2 rfl) rfl)) ?_)))
 exact ⟨⟨nm, sp, fl, md⟩, ⟨.slice p1 l1 c1', .slice p2 l2 c2', ml⟩, by rw [hD]; simp only [okOnly]; rw [if_pos o3], rfl, .refl _, hfit⟩
theorem clV_one (c : Cl) {fv mv : Value} (h1 : fv.oneCell' = true) (h2 : mv.oneCell' = true) : (clV c fv mv).all (·.oneCell') = true := by
 simp only [clV, List.all_cons, List.all_nil, h1, h2]; rfl
/-- One cell is boxed. -/
theorem WL_box1 {P : Program} {n : Nat} {E : Env} {w0 : World} {F : List Nat} {H : Hp} {R : Asr} {fn : Func} {Z : Ending → World → Prop} {κ : List Kf} {all : Array Oper} {l : List Oper} {d : Nat} {s : TypeId} {x : Operand} {t : TypeId} {p : String} {e : Array Edge} {v : Value} (hd : Nat.blt d n = true) (hx : ev E x = some v) (hv : v.cells = #[v])
  (h : ∀ b, w0.heap.size ≤ b → WL P n all l ((d, .pointer (some ⟨b, 0, none⟩)) :: E) w0 F ((b, [v]) :: H) R fn Z κ) : WL P n all (⟨some d, .box s x, t, p, e, none⟩ :: l) E w0 F H R fn Z κ :=
 ⟨fun w hs a ha => wpList_plain rfl fun K hK => by
  have hr : (execOp a.eval ⟨some d, .box s x, t, p, e, none⟩).run P w = .ok (.value (.pointer (some ⟨w.heap.size, 0, none⟩))) (w.alloc (.cells [v].toArray s)) := by
   simp only [execOp]; rw [ha.eval hx]
   simp [Instr.box, newVar, newRow, hv]
  unfold Oper.wp; rw [hr]
  exact hK _ _ ((h w.heap.size hs.low.size).go (w.alloc _) (hs.alloc [v] s) _ (ha.put hd _))⟩
theorem decode1_any (r : List UInt8) (b : Nat) (w : World) (hr : r.length ≤ 4000000) (hb : w.cell? ⟨b, 0, none⟩ = some (.string ⟨r.toArray⟩)) (hlt : b < w.heap.size) :
  FnP Tryz.prog 67 #[.pointer (some ⟨b, 0, none⟩)] w (readOk (okOnly (decL false true r))) (okOnly (decL false true r) = none) := by
 refine opens (args := [.pointer (some ⟨b, 0, none⟩)]) Tryz.func67 rfl Tryz.ntmps67 ?_
 refine Zf (Zb (Xg rfl (tz rfl) ?_))
 intro b0 hb0
 refine Ze (Zc (Zf (Zb (Za rfl (Zj (t1 rfl) rfl (Zn hb hlt)) (WL_callF fn68 rfl rfl (fun w' _ => read_any r w' hr) (fun hn => Ye (Fn_dies hn)) ?_)))))
 rintro v R' ⟨c, ⟨fv, mv, ms⟩, ho, rfl, hR, hfit⟩
 refine Xm (hR.left.trans (Asr.fst _ _)) (Xz (p := fv.oneCell' = true ∧ mv.oneCell' = true) (fun w hs => ⟨own_one hs.res.1, own_one hs.res.2.1.1⟩) ?_)
 rintro ⟨hf1, hm1⟩
 refine Yd (tn rfl) rfl rfl 0 rfl rfl (clV_one c hf1 hm1) rfl (Ze (Zc (Zv (Fn_end (Res_1 rfl (Xo (tn rfl) rfl (Yj 0 rfl) rfl)) ?_))))
 exact ⟨c, ⟨fv, mv, ms⟩, ho, rfl, .refl _, hfit⟩
/-- The same with what the memory says of the lists. -/
def readOk' (o : Option Cl) : Value → Asr → Prop := fun v R' => ∃ c k, o = some c ∧ v = .agg (clV c k.fv k.mv).toArray ∧ R'.Imp (clA c k) ∧ ClFit c k ∧ (clV c k.fv k.mv).all (·.oneCell') = true
theorem fn_one {f : FuncId} {args : Array Value} {w : World} {o : Option Cl} {may : Prop} (h : FnP Tryz.prog f args w (readOk o) may) : FnP Tryz.prog f args w (readOk' o) may := by
 refine Calls.mono h ?_
 rintro e w' (⟨v, R', rfl, ⟨c, k, ho, rfl, hR, hfit⟩, hw⟩ | ⟨hm, rfl, hb⟩)
 ·have h1 := hR.a w' hw.res
  exact .inl ⟨_, R', rfl, ⟨c, k, ho, rfl, hR, hfit, clV_one c (own_one h1.1) (own_one h1.2.1.1)⟩, hw⟩
 ·exact .inr ⟨hm, rfl, hb⟩
theorem decCaught_any (r : List UInt8) (b : Nat) (w : World) (hr : r.length ≤ 4000000) (hb : w.cell? ⟨b, 0, none⟩ = some (.string ⟨r.toArray⟩)) (hlt : b < w.heap.size) :
  FnP Tryz.prog 66 #[.func (.func 67) #[] #[.pointer (some ⟨b, 0, none⟩)]] w (caughtOk (.agg zeroC.toArray) (readOk' (okOnly (decL false true r))) (okOnly (decL false true r) = none)) False :=
 caughtClass_any 67 _ w _ _ fn67 (fun w2 hb2 => fn_one (decode1_any r b w2 hr (by rw [hb2.cell (p := ⟨b, 0, none⟩) hlt]; exact hb) (Nat.lt_of_lt_of_le hlt hb2.size)))
  (fun v R' ⟨c, k, _, hv, _, _, h1⟩ => ⟨_, hv, rfl, h1⟩)
theorem dec_know {o : Option Cl} {v : Value} {R' : Asr} (h : caughtOk (.agg zeroC.toArray) (readOk' o) (o = none) v R') :
  (∃ c k, o = some c ∧ v = .tuple #[.agg (clV c k.fv k.mv).toArray, .nilIface] ∧ R'.Imp (clA c k) ∧ ClFit c k ∧ (clV c k.fv k.mv).all (·.oneCell') = true) ∨ (o = none ∧ v = .tuple #[.agg zeroC.toArray, errI]) := by
 rcases h with ⟨x, ⟨c, k, ho, rfl, hR, hfit, h1⟩, rfl⟩ | ⟨hx, -, rfl⟩
 ·exact .inl ⟨c, k, ho, rfl, hR, hfit, h1⟩
 ·exact .inr ⟨hx, rfl⟩
/-- What Decode hands back, in one shape. -/
theorem dec_shape {o : Option Cl} {v : Value} {R' : Asr} (h : caughtOk (.agg zeroC.toArray) (readOk' o) (o = none) v R') :
  ∃ (vs : List Value) (y : Value) (k : Int), v = .tuple #[.agg vs.toArray, y] ∧ vs.length = 4 ∧ vs.all (·.oneCell') = true ∧ ((y = .nilIface ∧ k = 0) ∨ (y = errI ∧ k = 1)) ∧ decOk o (.tuple #[.agg vs.toArray, .int .i64 k]) R' := by
 rcases dec_know h with ⟨c, k, ho, rfl, hR, hfit, h1⟩ | ⟨ho, rfl⟩
 ·exact ⟨_, _, 0, rfl, rfl, h1, .inl ⟨rfl, rfl⟩, .inl ⟨c, k, ho, rfl, hR, hfit⟩⟩
 ·exact ⟨zeroC, _, 1, rfl, rfl, rfl, .inr ⟨rfl, rfl⟩, .inr ⟨ho, rfl⟩⟩
theorem put_four {vs : List Value} (h : vs.length = 4) : put [.string ⟨#[]⟩, .string ⟨#[]⟩, .slice none 0 0, .slice none 0 0] 0 vs = vs := by unfold put; rw [h]; show [] ++ vs ++ [] = vs; simp
theorem cut_four {vs : List Value} (h : vs.length = 4) : cut vs 0 4 = vs := by unfold cut; rw [List.drop_zero, List.take_of_length_le (by omega)]
theorem decode_any (s : ByteArray) (w : World) (hs : s.size ≤ 4000000) : FnP Tryz.prog 25 #[.string s] w (decOk (okOnly (decL false true (dl s)))) False := by
 obtain ⟨r, rfl⟩ : ∃ r : List UInt8, s = ⟨r.toArray⟩ := ⟨dl s, by cases s; simp [dl]⟩
 rw [ba_size] at hs
 rw [dl_ba]
 refine opens (args := [.string ⟨r.toArray⟩]) Tryz.func25 rfl Tryz.ntmps25 ?_
 refine Zf (Zb (WL_box1 rfl rfl rfl ?_))
 intro b0 hb0
 refine Xg rfl (tz rfl) ?_
 intro b1 hb1
 refine Za rfl (Zg rfl) (Ze (Zc (Zf (Zb (Za rfl (Ex_cap rfl) ?_)))))
 refine WL_callF fn66 rfl rfl (fun w' hs' => decCaught_any r b0 w' hs ((own_cells hs' (i := 1) rfl).1 0 _ rfl) (own_cells hs' (i := 1) rfl).2) (fun h => h.elim) ?_
 intro v R' hv
 obtain ⟨vs, y, k, rfl, h4, h1, hy, hok⟩ := dec_shape hv
 refine Za rfl (Zd rfl) (Za rfl (Ex_ext rfl rfl) (Za rfl (Ex_ext rfl rfl) (Xg rfl (tz rfl) ?_)))
 intro b2 hb2
 refine Yd (tn rfl) rfl rfl 0 rfl h4 h1 (by rw [h4]; rfl) ?_; rw [put_four h4]
 refine Za rfl (Zg rfl) (Ze (Zc (Zf (Zb (Za rfl (Zd rfl) ?_)))))
 refine Xi fn59 rfl rfl (fun w' _ => told_any y k w' hy) ?_
 refine Za rfl (Zd rfl) (Za rfl (Ex_ext rfl rfl) (Za rfl (Ex_ext rfl rfl) (Xg rfl (tz rfl) ?_)))
 intro b3 hb3
 refine Yd (tn rfl) rfl rfl 0 rfl rfl rfl rfl (Za rfl (Zg rfl) (Ze (Zc (Zf (Zb ?_)))))
 refine Za rfl (Yb (tn rfl) rfl 1 rfl (by rw [h4]; rfl)) ?_
 refine Za rfl (Zd rfl) ?_
 rw [cut_four h4]; refine Yd (tn rfl) rfl rfl 2 rfl h4 h1 (by rw [h4]; rfl) ?_; rw [put_four h4]
 refine Za rfl (Zg rfl) (Ze (Zc (Zv (WQ_imp (Asr.fst _ _) (Fn_end (Res_2 rfl (Xo (vs := vs) (tn rfl) rfl (Yj 2 rfl) h4) (RV_tmp rfl)) ?_)))))
 exact hok
end Go.Proofs.YtpofmnfkdkmieaaGreat
namespace Go.Proofs.YtpofmnfkdkmieaaGreat.E
open Go Go.RowKit
theorem teBool (d : Nat) (b : Bool) (w : World) : (Op.equalIn (d + 1) 4 (.bool b) (.bool b)).run Tryz.prog w = .ok true w := by
 have hu : Tryz.prog.underlying 4 = some .bool := by kernel_rfl
 cases b <;> simp [Op.equalIn, run_underlying hu]
theorem teTyS (d : Nat) (a : Int) (s : ByteArray) (w : World) : (Op.equalIn (d + 2) 71 (.agg #[.int .i64 a, .string s]) (.agg #[.int .i64 a, .string s])).run Tryz.prog w = .ok true w := by
 have h := teTy d a a s s w
 rw [eqS_self] at h; simpa using h
theorem teFd (n : ByteArray) (b : Bool) (a : Int) (s : ByteArray) (w : World) : (Op.equalIn 10000 128 (.agg #[.string n, .bool b, .int .i64 a, .string s]) (.agg #[.string n, .bool b, .int .i64 a, .string s])).run Tryz.prog w = .ok true w := by
 have hs : Tryz.prog.stoodInHeld 128 = false := by kernel_rfl
 have h9 : ∀ w : World, (Op.equalIn 9999 9 (.string n) (.string n)).run Tryz.prog w = .ok true w := fun w => teStr 9998 n w
 have h4 : ∀ w : World, (Op.equalIn 9999 4 (.bool b) (.bool b)).run Tryz.prog w = .ok true w := fun w => teBool 9998 b w
 have h7 : ∀ w : World, (Op.equalIn 9999 71 (.agg #[.int .i64 a, .string s]) (.agg #[.int .i64 a, .string s])).run Tryz.prog w = .ok true w := fun w => teTyS 9997 a s w
 have hu := Tryz.underlying128
 have hut := Tryz.underlying71
 have hub : Tryz.prog.underlying 4 = some .bool := by kernel_rfl
 have hsz : ∀ w : World, (sizeOf 71).run Tryz.prog w = .ok 2 w := fun w => (tn (t := 71) (k := 2) rfl w).2
 rw [show (10000 : Nat) = 9999 + 1 from rfl, Op.equalIn]
 simp only [Sem.run_bind, run_underlying hu, Result.andThen_ok, run_program, hs, Bool.false_eq_true, if_false]
 simp [part, isAgg, run_underlying hut, run_underlying hub, run_underlying (tstr (t := 9) rfl), h9, h4, h7, hsz]
theorem Ex_neqFld0 {n : Nat} {E : Env} {w0 : World} {F : List Nat} {H : Hp} {R : Asr} {t' : TypeId} {x y : Operand} {m : ByteArray} {b : Bool} {a : Int} {s : ByteArray} (hx : ev E x = some (.agg #[.string m, .bool b, .int .i64 a, .string s])) (hy : ev E y = some (.agg #[.string m, .bool b, .int .i64 a, .string s])) : Ex Tryz.prog n E w0 F H R (.binOp .neq 128 x y t') (.bool false) :=
 Ex_neqN (r := true) (by kernel_rfl) hx hy (fun w => teFd m b a s w)
end Go.Proofs.YtpofmnfkdkmieaaGreat.E
namespace Go.Proofs.YtpofmnfkdkmieaaGreat
open Go Go.RowKit At E
set_option maxHeartbeats 2000000 in
theorem sameClass_any (c : Cl) (fv mv fv' mv' : Value) (w : World) (hc0 : ClAt w c fv mv) (hc1 : ClAt w c fv' mv') : Pure Tryz.prog 44 #[.agg (clV c fv mv).toArray, .agg (clV c fv' mv').toArray] w (.bool true) := by
 obtain ⟨p1, e1, rfl, hl1, hr1⟩ := hc0.fs.is
 obtain ⟨p2, e2, rfl, hl2, hr2⟩ := hc0.ms.is
 obtain ⟨q1, d1, rfl, -, hs1⟩ := hc1.fs.is
 obtain ⟨q2, d2, rfl, -, hs2⟩ := hc1.ms.is
 replace hr1 : Hid _ := hr1
 replace hr2 : Hid _ := hr2
 replace hs1 : Hid _ := hs1
 replace hs2 : Hid _ := hs2
 refine opens (args := [.agg (clV c (.slice p1 c.fields.length e1) (.slice p2 c.methods.length e2)).toArray, .agg (clV c (.slice q1 c.fields.length d1) (.slice q2 c.methods.length d2)).toArray]) Tryz.func44 rfl Tryz.ntmps44 ?_
 refine Zf (Zb (WL_box rfl rfl ?_))
 intro b0 hb0
 refine WL_box rfl rfl ?_
 intro b1 hb1
 refine Za rfl (Zg rfl) (Ze (Zc (Zf (Zf (Zb ?_)))))
 refine Za rfl (Zh (ff rfl) rfl) (Za rfl (Zj (t1 rfl) rfl (Zl 1 rfl rfl)) (Za rfl (Zh (ff rfl) rfl) (Za rfl (Zj (t1 rfl) rfl (Zl 0 rfl rfl)) (Za rfl (Ex_neqS0 rfl rfl) (Za rfl (Zd rfl) ?_)))))
 refine Zo rfl rfl rfl (Zh (ff rfl) rfl) (Zo rfl rfl rfl (Zj (t1 rfl) rfl (Zl 1 rfl rfl)) (Zo rfl rfl rfl (Zh (ff rfl) rfl) (Zo rfl rfl rfl (Zj (t1 rfl) rfl (Zl 0 rfl rfl)) (Zo rfl rfl rfl (Ex_neqS0 rfl rfl) (Za rfl (Zz rfl rfl) ?_)))))
 refine Za rfl (Zd rfl) (Zo rfl rfl rfl (Zh (ff rfl) rfl) (Zo rfl rfl rfl (Zj (t1 rfl) rfl (Zl 1 rfl rfl)) (Zo rfl rfl rfl (Yg (ts rfl) rfl) (Zo rfl rfl rfl (Zh (ff rfl) rfl) (Zo rfl rfl rfl (Zj (t1 rfl) rfl (Zl 0 rfl rfl)) ?_)))))
 refine Zo rfl rfl rfl (Yg (ts rfl) rfl) (Zo rfl rfl rfl (Ex_neqI0 rfl rfl) (Za rfl (Zz rfl rfl) (Za rfl (Zd rfl) (Zo rfl rfl rfl (Zh (ff rfl) rfl) (Zo rfl rfl rfl (Zj (t1 rfl) rfl (Zl 1 rfl rfl)) ?_)))))
 refine Zo rfl rfl rfl (Yg (ts rfl) rfl) (Zo rfl rfl rfl (Zh (ff rfl) rfl) (Zo rfl rfl rfl (Zj (t1 rfl) rfl (Zl 0 rfl rfl)) (Zo rfl rfl rfl (Yg (ts rfl) rfl) (Zo rfl rfl rfl (Ex_neqI0 rfl rfl) (Za rfl (Zz rfl rfl) ?_)))))
 refine Ze (Zc (WC_false rfl (Zw (Zc (Zf ?_)))))
 refine Zf (Zb (Za rfl (Zg rfl) (Ze (Zc (Zs ?_)))))
 refine Xh (E' := (fun i : Nat => [(2, .pointer (some ⟨b0, 0, none⟩)), (3, .pointer (some ⟨b1, 0, none⟩)), (5, .int .i64 (i : Nat))]) (0)) ⟨rfl, rfl, rfl, trivial⟩ (Yy (X := Nat) (fun i : Nat => [(2, .pointer (some ⟨b0, 0, none⟩)), (3, .pointer (some ⟨b1, 0, none⟩)), (5, .int .i64 (i : Nat))]) _ _ (fun i : Nat => [(b1, clV c (.slice q1 c.fields.length d1) (.slice q2 c.methods.length d2)), (b0, clV c (.slice p1 c.fields.length e1) (.slice p2 c.methods.length e2))]) (fun i : Nat => Asr.none) (fun i : Nat => i ≤ c.fields.length) (fun i : Nat => c.fields.length - i) (0) (Nat.zero_le _) ?_)
 intro i hI
 refine Zf (Zf (Zb (Za rfl (Zd rfl) (Za rfl (Zh (ff rfl) rfl) (Za rfl (Zj (t1 rfl) rfl (Zl 1 rfl rfl)) ?_)))))
 refine Za rfl (Yg (ts rfl) rfl) (Za rfl (Xb rfl rfl) (Ze (Zc (Yi rfl ?_ ?_))))
 ·intro c2
  try (first | replace c2 := dTr c2 | replace c2 := Zk c2)
  have hi : i < c.fields.length := by omega
  obtain ⟨b, o, r, hp, hb, ⟨hr, -⟩, hc⟩ := hr1.out i c.fields[i] (List.getElem?_eq_getElem hi)
  obtain ⟨b', o', r', hp', hb', ⟨hr', -⟩, hc'⟩ := hs1.out i c.fields[i] (List.getElem?_eq_getElem hi)
  subst hp; subst hr; subst hp'; subst hr'
  refine Zw (Zc (Zf (Zs (Zf (WC_draw mixed (by kernel_rfl) ?_)))))
  refine Zm rfl (Zh (ff rfl) rfl) (Zm rfl (Zj (t1 rfl) rfl (Zl 1 rfl rfl)) (Zm rfl (Zd rfl) (Zm rfl (Xk (ts rfl) rfl rfl ?_) ?_)))
  ·omega
  (first | refine Zm rfl (Ym (tn rfl) rfl (Yt hc hb) rfl) ?_ | refine Zm rfl (Ym (tn rfl) rfl (Yt hc' hb') rfl) ?_)
  refine Zm rfl (Zh (ff rfl) rfl) (Zm rfl (Zj (t1 rfl) rfl (Zl 0 rfl rfl)) (Zm rfl (Zd rfl) (Zm rfl (Xk (ts rfl) rfl rfl ?_) ?_)))
  ·omega
  (first | refine Zm rfl (Ym (tn rfl) rfl (Yt hc hb) rfl) ?_ | refine Zm rfl (Ym (tn rfl) rfl (Yt hc' hb') rfl) ?_)
  refine Zm rfl (Ex_neqFld0 rfl rfl) (WO_nil (Zc (WC_false rfl (Zw (Zx ?_)))))
  refine Zc (Zb (Za rfl (Zd rfl) ?_))
  (first | (refine Za rfl (Xa rfl rfl ?_) ?_; omega) | (refine Za rfl (Yp rfl rfl ?_) ?_; omega) | refine Za rfl (Yz rfl rfl) ?_)
  refine Za rfl (Zg rfl) (Ze ?_)
  refine Yn (i + 1) ?_ (by omega) 0 rfl (rfl) ⟨rfl, rfl, rfl, trivial⟩
  omega
 ·intro c2
  try (first | replace c2 := dFa c2 | replace c2 := Zi c2)
  refine Yx (Yw (Yo (Yv (Zc (Zf ?_)))))
  refine Zf (Zb (Za rfl (Zg rfl) (Ze (Zc (Zs ?_)))))
  refine Xh (E' := (fun k : Nat => [(2, .pointer (some ⟨b0, 0, none⟩)), (3, .pointer (some ⟨b1, 0, none⟩)), (6, .int .i64 (k : Nat))]) (0)) ⟨rfl, rfl, rfl, trivial⟩ (Yy (X := Nat) (fun k : Nat => [(2, .pointer (some ⟨b0, 0, none⟩)), (3, .pointer (some ⟨b1, 0, none⟩)), (6, .int .i64 (k : Nat))]) _ _ (fun k : Nat => [(b1, clV c (.slice q1 c.fields.length d1) (.slice q2 c.methods.length d2)), (b0, clV c (.slice p1 c.fields.length e1) (.slice p2 c.methods.length e2))]) (fun k : Nat => Asr.none) (fun k : Nat => k ≤ c.methods.length) (fun k : Nat => c.methods.length - k) (0) (Nat.zero_le _) ?_)
  intro k hI
  refine Zf (Zf (Zb (Za rfl (Zd rfl) (Za rfl (Zh (ff rfl) rfl) (Za rfl (Zj (t1 rfl) rfl (Zl 1 rfl rfl)) ?_)))))
  refine Za rfl (Yg (ts rfl) rfl) (Za rfl (Xb rfl rfl) (Ze (Zc (Yi rfl ?_ ?_))))
  ·intro c4
   try (first | replace c4 := dTr c4 | replace c4 := Zk c4)
   have hk : k < c.methods.length := by omega
   obtain ⟨b, o, r, hp, hb, ⟨pv, cv, hv, gv, hr, hmp⟩, hc⟩ := hr2.out k c.methods[k] (List.getElem?_eq_getElem hk)
   obtain ⟨b', o', r', hp', hb', ⟨pv', cv', hv', gv', hr', hmp'⟩, hc'⟩ := hs2.out k c.methods[k] (List.getElem?_eq_getElem hk)
   subst hp; subst hr; subst hp'; subst hr'
   refine Zw (Zc (Zf (Zs (Zf (WC_draw mixed (by kernel_rfl) ?_)))))
   refine Zm rfl (Zh (ff rfl) rfl) (Zm rfl (Zj (t1 rfl) rfl (Zl 1 rfl rfl)) (Zm rfl (Zd rfl) (Zm rfl (Xk (ts rfl) rfl rfl ?_) ?_)))
   ·omega
   (first | refine Zm rfl (Ym (tn rfl) rfl (Yt hc hb) rfl) ?_ | refine Zm rfl (Ym (tn rfl) rfl (Yt hc' hb') rfl) ?_)
   refine Zm rfl (Zh (ff rfl) rfl) (Zm rfl (Zj (t1 rfl) rfl (Zl 0 rfl rfl)) (Zm rfl (Zd rfl) (Zm rfl (Xk (ts rfl) rfl rfl ?_) ?_)))
   ·omega
   (first | refine Zm rfl (Ym (tn rfl) rfl (Yt hc hb) rfl) ?_ | refine Zm rfl (Ym (tn rfl) rfl (Yt hc' hb') rfl) ?_)
   refine WO_call fn53 rfl rfl (fun w hs => sameMethod_any c.methods[k] _ _ _ _ _ _ _ _ w (hmp.mono (lowOf hs)) (hmp'.mono (lowOf hs))) ?_
   refine Zm rfl (Zg rfl) (WO_nil (Zc (Zf (Zb (Za rfl (Zd rfl) ?_)))))
   refine Za rfl (Ex_not rfl) (Ze (Zc (WC_false rfl (Zw (Zx ?_)))))
   refine Zc (Zb (Za rfl (Zd rfl) ?_))
   (first | (refine Za rfl (Xa rfl rfl ?_) ?_; omega) | (refine Za rfl (Yp rfl rfl ?_) ?_; omega) | refine Za rfl (Yz rfl rfl) ?_)
   refine Za rfl (Zg rfl) (Ze ?_)
   refine Yn (k + 1) ?_ (by omega) 0 rfl (rfl) ⟨rfl, rfl, rfl, trivial⟩
   omega
  ·intro c4
   try (first | replace c4 := dFa c4 | replace c4 := Zi c4)
   refine Yx (Yw (Yo (Yv (Zc (Zf ?_)))))
   refine Zb (Za rfl (Zg rfl) (Ze (Zc (Zv (Yh rfl rfl ?_)))))
   rfl
theorem num_any (k : Int) (w : World) : Pure Tryz.prog 48 #[.int .i64 k] w (.int .i64 k) := by
 refine opens (args := [.int .i64 k]) Tryz.func48 rfl Tryz.ntmps48 ?_
 refine Zf (Zb (Za rfl (Zg rfl) (Ze (Zc (Zf ?_)))))
 refine Zb (Za rfl (Zd rfl) (Za rfl (Zg rfl) (Ze (Zc (Zv ?_)))))
 refine Yh rfl rfl ?_
 rfl
def cl0 : Cl := ⟨mt, mt, [], []⟩
def clOf : Option Cl → Cl
 | some c => c
 | none => cl0
def errOf : Option Cl → Int
 | some _ => 0
 | none => 1
theorem ownA_nil (e sz : Nat) (R : Asr) : R.Imp (ownA e sz nilS 0 []) := ⟨fun k hk => by simp [ownA, nilS, Value.ownBlock] at hk, fun w _ => World.ownsRow_nil w 0 e sz⟩
theorem cl0_all (R : Asr) : R.Imp (clA cl0 ⟨nilS, nilS, []⟩) :=
 ⟨fun k hk => by simp [clA, cl0, fdsA, mesA, Asr.and, ownA, nilS, Value.ownBlock, bigA, Asr.none] at hk,
  fun w _ => ⟨World.ownsRow_nil w 0 128 4, ⟨World.ownsRow_nil w 0 134 10, trivial, fun k hk => by simp [ownA, nilS, Value.ownBlock] at hk⟩, fun k hk => by simp [fdsA, ownA, nilS, Value.ownBlock] at hk⟩⟩
theorem cntL_le (K : Nat) : ∀ l : List MeR, (∀ p ∈ l, mCnt p ≤ K) → cntL l ≤ l.length * K
 | [], _ => by simp [cntL]
 | p :: l, h => by
  have h1 := h p List.mem_cons_self
  have h2 := cntL_le K l (fun q hq => h q (List.mem_cons_of_mem _ hq))
  rw [cntL, List.length_cons, Nat.add_mul]; omega
theorem okOnly_class {o : Option Cl} {c : Cl} (h : okOnly o = some c) : isClassB c = true := by
 cases o with
 | none => cases h
 | some d =>
  simp only [okOnly] at h
  split at h
  ·cases h; assumption
  ·cases h
/-- What Decode hands back, in one shape. -/
theorem dec_cl {o : Option Cl} {v : Value} {R' : Asr} (h : decOk (okOnly o) v R') : ∃ k : ClM, v = .tuple #[.agg (clV (clOf (okOnly o)) k.fv k.mv).toArray, .int .i64 (errOf (okOnly o))] ∧ R'.Imp (clA (clOf (okOnly o)) k) ∧ ClFit (clOf (okOnly o)) k ∧ cntL k.ms ≤ 6480 := by
 rcases h with ⟨c, k, ho, rfl, hR, hfit⟩ | ⟨ho, rfl⟩
 ·have hS := isClassB_small (okOnly_class ho)
  refine ⟨k, by rw [ho]; rfl, by rw [ho]; exact hR, by rw [ho]; exact hfit, ?_⟩
  have h1 : k.ms.length ≤ 20 := by have := hS.ml; rw [← hfit.ms, List.length_map] at this; exact this
  have h2 := cntL_le 324 k.ms (fun p hp => by
   have hm := hS.mi p.1 (by rw [← hfit.ms]; exact List.mem_map_of_mem hp)
   have hf := hfit.mo.2 p hp
   have e1 : p.2.cs.length = p.1.code.length := by rw [← hf.code, List.length_map]
   have e2 : p.2.fs.length = p.1.frames.length := by rw [← hf.frames, List.length_map]
   have := hm.cl; have := hm.fl
   unfold mCnt; omega)
  have h3 : k.ms.length * 324 ≤ 20 * 324 := Nat.mul_le_mul_right _ h1
  omega
 ·refine ⟨⟨nilS, nilS, []⟩, by rw [ho]; rfl, by rw [ho]; exact cl0_all _, by rw [ho]; exact ⟨rfl, ⟨Xt, Xt⟩, ⟨by simp [clOf, cl0], fun h hh => by cases hh⟩, ⟨by simp, fun h hh => by cases hh⟩⟩, by simp [cntL]⟩
theorem clA_one {w : World} {c : Cl} {k : ClM} (h : (clA c k).A w) : (clV c k.fv k.mv).all (·.oneCell') = true := clV_one c (own_one h.1) (own_one h.2.1.1)
theorem decodes_any (b : Nat) (bk : Bk) (N : Nat) (s : ByteArray) (hN : N ≤ 1000000000) (hbk : BkOk bk N) (hs : s.size ≤ 4000000) :
  RkP Tryz.prog 15 #[.pointer (some ⟨b, 0, none⟩), .string s] b bk.C (bookA bk) (fun v cs' R' => v = .bool true ∧ bkOk (N + 60000) v cs' R') := by
 intro w hs0
 have hd1 := fun w => decode_any s w hs
 have hd2 := fun w => refDecode_any s w hs
 rw [decL_eq (dl s)] at hd2
 replace hd1 : Hid _ := hd1
 replace hd2 : Hid _ := hd2
 generalize ho : decL false true (dl s) = o at hd1 hd2
 refine opensF (hs0) (args := [.pointer (some ⟨b, 0, none⟩), .string s]) Tryz.func15 rfl Tryz.ntmps15 ?_
 refine Zf (Zb (Za rfl (Zg rfl) (Ze (Zc (Zf ?_)))))
 refine Zb (Za rfl (Zd rfl) (WL_callF fn25 rfl rfl (fun w' _ => hd1.out w') (fun h => h.elim) ?_))
 intro v R1 hv
 obtain ⟨⟨fv1, mv1, ms1⟩, rfl, hR1, hfit1, hc1⟩ := dec_cl hv
 refine Xm hR1.left ?_
 refine Xz (p := (clV (clOf (okOnly o)) fv1 mv1).all (·.oneCell') = true) (fun w hs => clA_one hs.res.1) ?_
 intro h11
 refine Za rfl (Zd rfl) (Za rfl (Ex_ext rfl rfl) (Za rfl (Ex_ext rfl rfl) (Xg rfl (tz rfl) ?_)))
 intro b1 hb1
 refine Yd (tn rfl) rfl rfl 0 rfl rfl h11 rfl (Za rfl (Zg rfl) (Ze (Zc (Zf (Zb ?_)))))
 refine Za rfl (Zd rfl) (WL_callF fn25 rfl rfl (fun w' _ => hd1.out w') (fun h => h.elim) ?_)
 intro v R2 hv
 obtain ⟨⟨fv2, mv2, ms2⟩, rfl, hR2, hfit2, hc2⟩ := dec_cl hv
 refine Xm hR2.left ?_
 refine Xz (p := (clV (clOf (okOnly o)) fv2 mv2).all (·.oneCell') = true) (fun w hs => clA_one hs.res.1) ?_
 intro h12
 refine Za rfl (Zd rfl) (Za rfl (Ex_ext rfl rfl) (Za rfl (Ex_ext rfl rfl) (Xg rfl (tz rfl) ?_)))
 intro b2 hb2
 refine Yd (tn rfl) rfl rfl 0 rfl rfl h12 rfl (Za rfl (Zg rfl) (Ze (Zc (Zf (Zb ?_)))))
 refine Za rfl (Zd rfl) (WL_callF fn49 rfl rfl (fun w' _ => hd2.out w') (fun h => h.elim) ?_)
 intro v R3 hv
 obtain ⟨⟨fv3, mv3, ms3⟩, rfl, hR3, hfit3, hc3⟩ := dec_cl hv
 refine Xm hR3.left ?_
 refine Xz (p := (clV (clOf (okOnly o)) fv3 mv3).all (·.oneCell') = true) (fun w hs => clA_one hs.res.1) ?_
 intro h13
 refine Za rfl (Zd rfl) (Za rfl (Ex_ext rfl rfl) (Za rfl (Ex_ext rfl rfl) (Xg rfl (tz rfl) ?_)))
 intro b3 hb3
 refine Yd (tn rfl) rfl rfl 0 rfl rfl h13 rfl (Za rfl (Zg rfl) (Ze (Zc (Zf (Zb ?_)))))
 refine Za rfl (Yb (tn rfl) rfl 2 rfl rfl) (Za rfl (Yb (tn rfl) rfl 0 rfl rfl) (Xi fn44 rfl rfl (fun w' hs => sameClass_any (clOf (okOnly o)) _ _ _ _ w' (clA_at (k := ⟨fv1, mv1, ms1⟩) hs.res.2.1.2.1.1 hfit1) (clA_at (k := ⟨fv3, mv3, ms3⟩) hs.res.1 hfit3)) ?_))
 refine Za rfl (Zg rfl) (Ze (Zc (Zf (Zb (Za rfl (Yb (tn rfl) rfl 1 rfl rfl) ?_)))))
 refine Za rfl (Yb (tn rfl) rfl 0 rfl rfl) (Xi fn44 rfl rfl (fun w' hs => sameClass_any (clOf (okOnly o)) _ _ _ _ w' (clA_at (k := ⟨fv2, mv2, ms2⟩) hs.res.2.1.1 hfit2) (clA_at (k := ⟨fv3, mv3, ms3⟩) hs.res.1 hfit3)) ?_)
 refine Za rfl (Zg rfl) (Ze (Zc (Zf (Zb (Za rfl (Zd rfl) ?_)))))
 refine Za rfl (Yb (tn rfl) rfl 2 rfl rfl) ?_
 refine Xm ((Asr.snd _ _).trans ((Asr.comm _ _).trans (Asr.assoc _ _ _))) ?_; refine Xm (Asr.cossa _ _ _) ?_; refine WL_callK fn50 rfl rfl 3 rfl (keepClass_any b bk N (N + 26000) (clOf (okOnly o)) ⟨fv1, mv1, ms1⟩ (by omega) hbk (by dsimp only at hc1 ⊢; omega) hfit1) ?_; rintro v cs' R' ⟨bk1, rfl, hRb, hbk1⟩; refine Xm ((Asr.comm _ _).trans (Asr.Imp.right hRb)) ?_; refine Xm (Asr.addNone _) ?_
 refine Ze (Zc (Zf (Zb (Za rfl (Zd rfl) (Za rfl (Yb (tn rfl) rfl 1 rfl rfl) ?_)))))
 refine WL_callK fn50 rfl rfl 3 rfl (keepClass_any b bk1 (N + 26000) (N + 52000) (clOf (okOnly o)) ⟨fv2, mv2, ms2⟩ (by omega) hbk1 (by dsimp only at hc2 ⊢; omega) hfit2) ?_; rintro v cs' R' ⟨bk2, rfl, hRb2, hbk2⟩; refine Xm (hRb2.left.trans (Asr.fst _ _)) ?_
 refine Ze (Zc (Zf (Zb (Za rfl (Zd rfl) (Za rfl (Zd rfl) ?_)))))
 refine Zo rfl rfl rfl (Zd rfl) (Za rfl (Zt rfl rfl) (Za rfl (Zd rfl) (Zo rfl rfl rfl (Zd rfl) (WL_callYes fn48 rfl rfl rfl rfl (fun w _ => num_any _ w) ?_))))
 refine Zo rfl rfl rfl (Zd rfl) (Zo rfl rfl rfl (Ex_eqlI1 rfl rfl) (Za rfl (Zt rfl rfl) (Za rfl (Zd rfl) (Zo rfl rfl rfl (Zd rfl) (WL_callYes fn48 rfl rfl rfl rfl (fun w _ => num_any _ w) ?_)))))
 refine Zo rfl rfl rfl (Zd rfl) (Zo rfl rfl rfl (Ex_eqlI1 rfl rfl) (Za rfl (Zt rfl rfl) (Za rfl (Zg rfl) (Ze (Zc ?_)))))
 refine Zv (Rk_endR (Res_1 rfl (RV_tmp rfl)) 3 rfl ?_)
 exact ⟨rfl, bk2, rfl, .refl _, hbk2.mono (by omega)⟩
end Go.Proofs.YtpofmnfkdkmieaaGreat
