/- What is proved here: the statement Reread gives true for every class, all bytes and each byte more. -/
import Derived.Test.YtpofmnfkdkmieaaGreatQ23
import Derived.Test.YtpofmnfkdkmieaaGreatQ33
set_option linter.unusedVariables false
set_option linter.unusedSimpArgs false
namespace Go.Proofs.YtpofmnfkdkmieaaGreat
open Go Go.RowKit At E

theorem fn24 : IsFn Tryz.prog 24 := ⟨Tryz.f24, Tryz.func24, by kernel_rfl, by kernel_rfl⟩
theorem rr_sy (c : Cl) (fv mv : Value) (s : ByteArray) (m : UInt8) (w : World) (hcl : ClAt w c fv mv) (hs : s.size ≤ 4000000) (c1 : Cl) (ho : okOnly (decL false true (dl s)) = some c1) (hc : isClassB c = true) :
    Pure Tryz.prog 6 #[.agg (clV c fv mv).toArray, .string s, byteV m] w (.bool true) := by
  obtain ⟨qf, ef, hfv, -, -⟩ := hcl.fs.is
  obtain ⟨qm, em, hmv, -, -⟩ := hcl.ms.is
  subst hfv; subst hmv
  have hn := clN_at hcl
  have hd1 := fun w => dec_yes ho hs w
  have hsz := bytes_le hc
  have hpos := bytes_pos (c := c)
  have hne := bytes_ne (c := c)
  have hd2 := fun w => dec_yes (dec_t hc hn) (by omega) w
  have hd3 := fun w => dec_no (dec_tm hc hn m) (by rw [ByteArray.size_append]; show (bytesS c).size + 1 ≤ 4000000; omega) w
  have hd4 := fun w => dec_no (dec_tl hc hn) (by rw [ByteArray.size_extract]; omega) w
  replace hd2 : Hid _ := hd2
  replace hd3 : Hid _ := hd3
  replace hd4 : Hid _ := hd4
  replace hcl : Hid _ := hcl
  replace hd1 : Hid _ := hd1
  replace hn : Hid _ := hn
  refine opens (args := [.agg (clV c (.slice qf c.fields.length ef) (.slice qm c.methods.length em)).toArray, .string s, byteV m]) Tryz.func6 rfl Tryz.ntmps6 ?_
  refine WC_seq ?_
  refine WC_region ?_
  refine WL_box rfl rfl ?_
  intro b0 hb0
  refine WL_op rfl (Ex_assign rfl) ?_
  refine WL_nil ?_
  refine WQ_next ?_
  refine WC_seq ?_
  refine WC_region ?_
  refine WL_call fn24 rfl rfl (fun w' _ => S.begin_any w') ?_
  refine WL_op rfl (Ex_assign rfl) ?_
  refine WL_nil ?_
  refine WQ_next ?_
  refine WC_seq ?_
  refine WC_seq ?_
  refine WC_region ?_
  refine WL_op rfl (Ex_move rfl) ?_
  refine WL_op rfl (Ex_not rfl) ?_
  refine WL_nil ?_
  refine WQ_next ?_
  refine WC_false rfl ?_
  refine WC_skip ?_
  refine WQ_next ?_
  refine WC_seq ?_
  refine WC_region ?_
  refine WL_op rfl (Ex_move rfl) ?_
  refine WL_callF fn25 rfl rfl (fun w' _ => hd1.out w') (fun h => h.elim) ?_
  rintro v R1 ⟨⟨fv1, mv1, ms1⟩, rfl, hR1, hfit1⟩
  obtain ⟨hB1, hc1⟩ := enc_of_dec ho hfit1
  refine WL_imp hR1.left ?_
  refine WL_know (p := (clV c1 fv1 mv1).all (·.oneCell') = true) (fun w hs => clA_one hs.res.1) ?_
  intro h11
  refine WL_op rfl (Ex_move rfl) ?_
  refine WL_op rfl (Ex_ext rfl rfl) ?_
  refine WL_op rfl (Ex_ext rfl rfl) ?_
  refine WL_alloc rfl (tz rfl) ?_
  intro b1 hb1
  refine WL_storeN (tn rfl) rfl rfl 0 rfl rfl h11 rfl ?_
  refine WL_op rfl (Ex_assign rfl) ?_
  refine WL_nil ?_
  refine WQ_next ?_
  refine WC_seq ?_
  refine WC_seq ?_
  refine WC_region ?_
  refine WL_op rfl (Ex_move rfl) ?_
  refine WL_op rfl (Ex_eqlI1 rfl rfl) ?_
  refine WL_nil ?_
  refine WQ_next ?_
  refine WC_true rfl ?_
  refine WC_seq ?_
  refine WC_region ?_
  refine WL_op rfl (Ex_loadM (tn rfl) rfl 0 rfl rfl) ?_
  refine WL_call fn26 rfl rfl (fun w' hs => enc_yes (clA_at (k := ⟨fv1, mv1, ms1⟩) hs.res.1 hfit1) hc1 hB1) ?_
  refine WL_op rfl (Ex_move rfl) ?_
  refine WL_op rfl (Ex_ext rfl rfl) ?_
  refine WL_op rfl (Ex_ext rfl rfl) ?_
  refine WL_op rfl (Ex_assign rfl) ?_
  refine WL_op rfl (Ex_assign rfl) ?_
  refine WL_nil ?_
  refine WQ_next ?_
  refine WC_seq ?_
  refine WC_region ?_
  refine WL_op rfl (Ex_move rfl) ?_
  refine WL_op rfl (Ex_neqI0 rfl rfl) ?_
  refine WL_op rfl (Ex_move rfl) ?_
  refine WL_yes rfl rfl rfl (Ex_move rfl) ?_
  refine WL_yes rfl rfl rfl (Ex_move rfl) ?_
  refine WL_yes rfl rfl rfl (Ex_neqS0 rfl rfl) ?_
  refine WL_op rfl (Ex_pickF rfl rfl) ?_
  refine WL_nil ?_
  refine WQ_next ?_
  refine WC_false rfl ?_
  refine WC_skip ?_
  refine WQ_next ?_
  refine WC_seq ?_
  refine WC_region ?_
  refine WL_op rfl (Ex_loadM (tn rfl) rfl 1 rfl rfl) ?_
  refine WL_call fn26 rfl rfl (fun w' hs => enc_yes (hcl.out.mono (lowOf hs)) hc rfl) ?_
  refine WL_op rfl (Ex_move rfl) ?_
  refine WL_op rfl (Ex_ext rfl rfl) ?_
  refine WL_op rfl (Ex_ext rfl rfl) ?_
  refine WL_op rfl (Ex_assign rfl) ?_
  refine WL_op rfl (Ex_assign rfl) ?_
  refine WL_nil ?_
  refine WQ_next ?_
  refine WC_seq ?_
  refine WC_seq ?_
  refine WC_region ?_
  refine WL_op rfl (Ex_move rfl) ?_
  refine WL_op rfl (Ex_neqI0 rfl rfl) ?_
  refine WL_op rfl (Ex_move rfl) ?_
  refine WL_yes rfl rfl rfl (Ex_move rfl) ?_
  refine WL_yes rfl rfl rfl (Ex_eqlSd rfl rfl hne) ?_
  refine WL_op rfl (Ex_pickF rfl rfl) ?_
  refine WL_nil ?_
  refine WQ_next ?_
  refine WC_false rfl ?_
  refine WC_skip ?_
  refine WQ_next ?_
  refine WC_seq ?_
  refine WC_region ?_
  refine WL_op rfl (Ex_move rfl) ?_
  refine WL_callF fn25 rfl rfl (fun w' _ => hd2.out w') (fun h => h.elim) ?_
  rintro v R2 ⟨⟨fv2, mv2, ms2⟩, rfl, hR2, hfit2⟩
  refine WL_imp hR2.left ?_
  refine WL_know (p := (clV c fv2 mv2).all (·.oneCell') = true) (fun w hs => clA_one hs.res.1) ?_
  intro h12
  refine WL_op rfl (Ex_move rfl) ?_
  refine WL_op rfl (Ex_ext rfl rfl) ?_
  refine WL_op rfl (Ex_ext rfl rfl) ?_
  refine WL_storeN (tn rfl) rfl rfl 0 rfl rfl h12 rfl ?_
  refine WL_op rfl (Ex_assign rfl) ?_
  refine WL_nil ?_
  refine WQ_next ?_
  refine WC_seq ?_
  refine WC_region ?_
  refine WL_op rfl (Ex_loadM (tn rfl) rfl 0 rfl rfl) ?_
  refine WL_call fn26 rfl rfl (fun w' hs => enc_yes (clA_at (k := ⟨fv2, mv2, ms2⟩) hs.res.1 hfit2) hc rfl) ?_
  refine WL_op rfl (Ex_move rfl) ?_
  refine WL_op rfl (Ex_ext rfl rfl) ?_
  refine WL_op rfl (Ex_ext rfl rfl) ?_
  refine WL_op rfl (Ex_assign rfl) ?_
  refine WL_op rfl (Ex_assign rfl) ?_
  refine WL_nil ?_
  refine WQ_next ?_
  refine WC_seq ?_
  refine WC_region ?_
  refine WL_op rfl (Ex_move rfl) ?_
  refine WL_op rfl (Ex_move rfl) ?_
  refine WL_bs rfl (ts rfl) (tz rfl) rfl rfl rfl rfl rfl ?_
  intro b2 hb2
  refine WL_op rfl (Ex_byte1 (ta rfl).sl (tint rfl) (tstr rfl) rfl 0 rfl) ?_
  refine WL_op rfl (Ex_addS rfl rfl ?_) ?_
  · (show (bytesS c).size + 1 < 9223372036854775807; omega)
  refine WL_callF fn25 rfl rfl (fun w' _ => hd3.out w') (fun h => h.elim) ?_
  rintro v R3 rfl
  refine WL_op rfl (Ex_move rfl) ?_
  refine WL_op rfl (Ex_ext rfl rfl) ?_
  refine WL_op rfl (Ex_ext rfl rfl) ?_
  refine WL_alloc rfl (tz rfl) ?_
  intro b3 hb3
  refine WL_storeN (tn rfl) rfl rfl 0 rfl rfl rfl rfl ?_
  refine WL_op rfl (Ex_assign rfl) ?_
  refine WL_nil ?_
  refine WQ_next ?_
  refine WC_seq ?_
  refine WC_region ?_
  refine WL_op rfl (Ex_move rfl) ?_
  refine WL_op rfl (Ex_move rfl) ?_
  refine WL_op rfl (Ex_lenS (tstr rfl) rfl) ?_
  refine WL_op rfl (Ex_pred rfl rfl hpos (by omega)) ?_
  refine WL_op rfl (Ex_sliceTo (tstr rfl) rfl rfl ?_) ?_
  · omega
  refine WL_callF fn25 rfl rfl (fun w' _ => hd4.out w') (fun h => h.elim) ?_
  rintro v R4 rfl
  refine WL_op rfl (Ex_move rfl) ?_
  refine WL_op rfl (Ex_ext rfl rfl) ?_
  refine WL_op rfl (Ex_ext rfl rfl) ?_
  refine WL_alloc rfl (tz rfl) ?_
  intro b4 hb4
  refine WL_storeN (tn rfl) rfl rfl 0 rfl rfl rfl rfl ?_
  refine WL_op rfl (Ex_assign rfl) ?_
  refine WL_nil ?_
  refine WQ_next ?_
  refine WC_seq ?_
  refine WC_region ?_
  refine WL_op rfl (Ex_move rfl) ?_
  refine WL_op rfl (Ex_eqlI1 rfl rfl) ?_
  refine WL_op rfl (Ex_move rfl) ?_
  refine WL_yes rfl rfl rfl (Ex_move rfl) ?_
  refine WL_yes rfl rfl rfl (Ex_eqlI1 rfl rfl) ?_
  refine WL_op rfl (Ex_pickT rfl rfl) ?_
  refine WL_op rfl (Ex_move rfl) ?_
  refine WL_yes rfl rfl rfl (Ex_move rfl) ?_
  refine WL_yes rfl rfl rfl (Ex_move rfl) ?_
  refine WL_yes rfl rfl rfl (Ex_eqlS1 rfl rfl) ?_
  refine WL_op rfl (Ex_pickT rfl rfl) ?_
  refine WL_op rfl (Ex_move rfl) ?_
  refine WL_yes rfl rfl rfl (Ex_field (ff rfl) rfl) ?_
  refine WL_yes rfl rfl rfl (Ex_load (t1 rfl) rfl (cell_mine 3 rfl rfl)) ?_
  refine WL_yes rfl rfl rfl (Ex_field (ff rfl) rfl) ?_
  refine WL_yes rfl rfl rfl (Ex_load (t1 rfl) rfl (cell_mine 4 rfl rfl)) ?_
  refine WL_yes rfl rfl rfl (Ex_eqlS1 rfl rfl) ?_
  refine WL_op rfl (Ex_pickT rfl rfl) ?_
  refine WL_op rfl (Ex_move rfl) ?_
  refine WL_yes rfl rfl rfl (Ex_move rfl) ?_
  refine WL_yes rfl rfl rfl (Ex_eqlI1 rfl rfl) ?_
  refine WL_op rfl (Ex_pickT rfl rfl) ?_
  refine WL_op rfl (Ex_move rfl) ?_
  refine WL_yes rfl rfl rfl (Ex_move rfl) ?_
  refine WL_yes rfl rfl rfl (Ex_eqlI1 rfl rfl) ?_
  refine WL_op rfl (Ex_pickT rfl rfl) ?_
  refine WL_op rfl (Ex_assign rfl) ?_
  refine WL_nil ?_
  refine WQ_next ?_
  refine WC_ret ?_
  refine P_end1 rfl rfl ?_
  rfl
theorem rr_sn (c : Cl) (fv mv : Value) (s : ByteArray) (m : UInt8) (w : World) (hcl : ClAt w c fv mv) (hs : s.size ≤ 4000000) (c1 : Cl) (ho : okOnly (decL false true (dl s)) = some c1) (hc : isClassB c = false) :
    Pure Tryz.prog 6 #[.agg (clV c fv mv).toArray, .string s, byteV m] w (.bool true) := by
  obtain ⟨qf, ef, hfv, -, -⟩ := hcl.fs.is
  obtain ⟨qm, em, hmv, -, -⟩ := hcl.ms.is
  subst hfv; subst hmv
  have hn := clN_at hcl
  have hd1 := fun w => dec_yes ho hs w
  replace hcl : Hid _ := hcl
  replace hd1 : Hid _ := hd1
  replace hn : Hid _ := hn
  refine opens (args := [.agg (clV c (.slice qf c.fields.length ef) (.slice qm c.methods.length em)).toArray, .string s, byteV m]) Tryz.func6 rfl Tryz.ntmps6 ?_
  refine WC_seq ?_
  refine WC_region ?_
  refine WL_box rfl rfl ?_
  intro b0 hb0
  refine WL_op rfl (Ex_assign rfl) ?_
  refine WL_nil ?_
  refine WQ_next ?_
  refine WC_seq ?_
  refine WC_region ?_
  refine WL_call fn24 rfl rfl (fun w' _ => S.begin_any w') ?_
  refine WL_op rfl (Ex_assign rfl) ?_
  refine WL_nil ?_
  refine WQ_next ?_
  refine WC_seq ?_
  refine WC_seq ?_
  refine WC_region ?_
  refine WL_op rfl (Ex_move rfl) ?_
  refine WL_op rfl (Ex_not rfl) ?_
  refine WL_nil ?_
  refine WQ_next ?_
  refine WC_false rfl ?_
  refine WC_skip ?_
  refine WQ_next ?_
  refine WC_seq ?_
  refine WC_region ?_
  refine WL_op rfl (Ex_move rfl) ?_
  refine WL_callF fn25 rfl rfl (fun w' _ => hd1.out w') (fun h => h.elim) ?_
  rintro v R1 ⟨⟨fv1, mv1, ms1⟩, rfl, hR1, hfit1⟩
  obtain ⟨hB1, hc1⟩ := enc_of_dec ho hfit1
  refine WL_imp hR1.left ?_
  refine WL_know (p := (clV c1 fv1 mv1).all (·.oneCell') = true) (fun w hs => clA_one hs.res.1) ?_
  intro h11
  refine WL_op rfl (Ex_move rfl) ?_
  refine WL_op rfl (Ex_ext rfl rfl) ?_
  refine WL_op rfl (Ex_ext rfl rfl) ?_
  refine WL_alloc rfl (tz rfl) ?_
  intro b1 hb1
  refine WL_storeN (tn rfl) rfl rfl 0 rfl rfl h11 rfl ?_
  refine WL_op rfl (Ex_assign rfl) ?_
  refine WL_nil ?_
  refine WQ_next ?_
  refine WC_seq ?_
  refine WC_seq ?_
  refine WC_region ?_
  refine WL_op rfl (Ex_move rfl) ?_
  refine WL_op rfl (Ex_eqlI1 rfl rfl) ?_
  refine WL_nil ?_
  refine WQ_next ?_
  refine WC_true rfl ?_
  refine WC_seq ?_
  refine WC_region ?_
  refine WL_op rfl (Ex_loadM (tn rfl) rfl 0 rfl rfl) ?_
  refine WL_call fn26 rfl rfl (fun w' hs => enc_yes (clA_at (k := ⟨fv1, mv1, ms1⟩) hs.res.1 hfit1) hc1 hB1) ?_
  refine WL_op rfl (Ex_move rfl) ?_
  refine WL_op rfl (Ex_ext rfl rfl) ?_
  refine WL_op rfl (Ex_ext rfl rfl) ?_
  refine WL_op rfl (Ex_assign rfl) ?_
  refine WL_op rfl (Ex_assign rfl) ?_
  refine WL_nil ?_
  refine WQ_next ?_
  refine WC_seq ?_
  refine WC_region ?_
  refine WL_op rfl (Ex_move rfl) ?_
  refine WL_op rfl (Ex_neqI0 rfl rfl) ?_
  refine WL_op rfl (Ex_move rfl) ?_
  refine WL_yes rfl rfl rfl (Ex_move rfl) ?_
  refine WL_yes rfl rfl rfl (Ex_move rfl) ?_
  refine WL_yes rfl rfl rfl (Ex_neqS0 rfl rfl) ?_
  refine WL_op rfl (Ex_pickF rfl rfl) ?_
  refine WL_nil ?_
  refine WQ_next ?_
  refine WC_false rfl ?_
  refine WC_skip ?_
  refine WQ_next ?_
  refine WC_seq ?_
  refine WC_region ?_
  refine WL_op rfl (Ex_loadM (tn rfl) rfl 1 rfl rfl) ?_
  refine WL_call fn26 rfl rfl (fun w' hs => enc_no (hcl.out.mono (lowOf hs)) hc) ?_
  refine WL_op rfl (Ex_move rfl) ?_
  refine WL_op rfl (Ex_ext rfl rfl) ?_
  refine WL_op rfl (Ex_ext rfl rfl) ?_
  refine WL_op rfl (Ex_assign rfl) ?_
  refine WL_op rfl (Ex_assign rfl) ?_
  refine WL_nil ?_
  refine WQ_next ?_
  refine WC_seq ?_
  refine WC_seq ?_
  refine WC_region ?_
  refine WL_op rfl (Ex_move rfl) ?_
  refine WL_op rfl (Ex_neqId rfl rfl (by decide)) ?_
  refine WL_op rfl (Ex_move rfl) ?_
  refine WL_no rfl rfl rfl ?_
  refine WL_no rfl rfl rfl ?_
  refine WL_op rfl (Ex_pickT rfl rfl) ?_
  refine WL_nil ?_
  refine WQ_next ?_
  refine WC_true rfl ?_
  refine WC_seq ?_
  refine WC_region ?_
  refine WL_op rfl (Ex_move rfl) ?_
  refine WL_op rfl (Ex_eqlI1 rfl rfl) ?_
  refine WL_op rfl (Ex_move rfl) ?_
  refine WL_yes rfl rfl rfl (Ex_move rfl) ?_
  refine WL_yes rfl rfl rfl (Ex_eqlS1 rfl rfl) ?_
  refine WL_op rfl (Ex_pickT rfl rfl) ?_
  refine WL_op rfl (Ex_assign rfl) ?_
  refine WL_nil ?_
  refine WQ_next ?_
  refine WC_ret ?_
  refine WQ_ret ?_
  refine P_end1 rfl rfl ?_
  rfl
theorem rr_ny (c : Cl) (fv mv : Value) (s : ByteArray) (m : UInt8) (w : World) (hcl : ClAt w c fv mv) (hs : s.size ≤ 4000000) (ho : okOnly (decL false true (dl s)) = none) (hc : isClassB c = true) :
    Pure Tryz.prog 6 #[.agg (clV c fv mv).toArray, .string s, byteV m] w (.bool true) := by
  obtain ⟨qf, ef, hfv, -, -⟩ := hcl.fs.is
  obtain ⟨qm, em, hmv, -, -⟩ := hcl.ms.is
  subst hfv; subst hmv
  have hn := clN_at hcl
  have hd1 := fun w => dec_no ho hs w
  have hsz := bytes_le hc
  have hpos := bytes_pos (c := c)
  have hne := bytes_ne (c := c)
  have hd2 := fun w => dec_yes (dec_t hc hn) (by omega) w
  have hd3 := fun w => dec_no (dec_tm hc hn m) (by rw [ByteArray.size_append]; show (bytesS c).size + 1 ≤ 4000000; omega) w
  have hd4 := fun w => dec_no (dec_tl hc hn) (by rw [ByteArray.size_extract]; omega) w
  replace hd2 : Hid _ := hd2
  replace hd3 : Hid _ := hd3
  replace hd4 : Hid _ := hd4
  replace hcl : Hid _ := hcl
  replace hd1 : Hid _ := hd1
  replace hn : Hid _ := hn
  refine opens (args := [.agg (clV c (.slice qf c.fields.length ef) (.slice qm c.methods.length em)).toArray, .string s, byteV m]) Tryz.func6 rfl Tryz.ntmps6 ?_
  refine WC_seq ?_
  refine WC_region ?_
  refine WL_box rfl rfl ?_
  intro b0 hb0
  refine WL_op rfl (Ex_assign rfl) ?_
  refine WL_nil ?_
  refine WQ_next ?_
  refine WC_seq ?_
  refine WC_region ?_
  refine WL_call fn24 rfl rfl (fun w' _ => S.begin_any w') ?_
  refine WL_op rfl (Ex_assign rfl) ?_
  refine WL_nil ?_
  refine WQ_next ?_
  refine WC_seq ?_
  refine WC_seq ?_
  refine WC_region ?_
  refine WL_op rfl (Ex_move rfl) ?_
  refine WL_op rfl (Ex_not rfl) ?_
  refine WL_nil ?_
  refine WQ_next ?_
  refine WC_false rfl ?_
  refine WC_skip ?_
  refine WQ_next ?_
  refine WC_seq ?_
  refine WC_region ?_
  refine WL_op rfl (Ex_move rfl) ?_
  refine WL_callF fn25 rfl rfl (fun w' _ => hd1.out w') (fun h => h.elim) ?_
  rintro v R1 rfl
  refine WL_op rfl (Ex_move rfl) ?_
  refine WL_op rfl (Ex_ext rfl rfl) ?_
  refine WL_op rfl (Ex_ext rfl rfl) ?_
  refine WL_alloc rfl (tz rfl) ?_
  intro b1 hb1
  refine WL_storeN (tn rfl) rfl rfl 0 rfl rfl rfl rfl ?_
  refine WL_op rfl (Ex_assign rfl) ?_
  refine WL_nil ?_
  refine WQ_next ?_
  refine WC_seq ?_
  refine WC_seq ?_
  refine WC_region ?_
  refine WL_op rfl (Ex_move rfl) ?_
  refine WL_op rfl (Ex_eqlId rfl rfl (by decide)) ?_
  refine WL_nil ?_
  refine WQ_next ?_
  refine WC_false rfl ?_
  refine WC_seq ?_
  refine WC_region ?_
  refine WL_op rfl (Ex_move rfl) ?_
  refine WL_op rfl (Ex_neqI0 rfl rfl) ?_
  refine WL_nil ?_
  refine WQ_next ?_
  refine WC_false rfl ?_
  refine WC_skip ?_
  refine WQ_next ?_
  refine WC_seq ?_
  refine WC_region ?_
  refine WL_op rfl (Ex_loadM (tn rfl) rfl 1 rfl rfl) ?_
  refine WL_call fn26 rfl rfl (fun w' hs => enc_yes (hcl.out.mono (lowOf hs)) hc rfl) ?_
  refine WL_op rfl (Ex_move rfl) ?_
  refine WL_op rfl (Ex_ext rfl rfl) ?_
  refine WL_op rfl (Ex_ext rfl rfl) ?_
  refine WL_op rfl (Ex_assign rfl) ?_
  refine WL_op rfl (Ex_assign rfl) ?_
  refine WL_nil ?_
  refine WQ_next ?_
  refine WC_seq ?_
  refine WC_seq ?_
  refine WC_region ?_
  refine WL_op rfl (Ex_move rfl) ?_
  refine WL_op rfl (Ex_neqI0 rfl rfl) ?_
  refine WL_op rfl (Ex_move rfl) ?_
  refine WL_yes rfl rfl rfl (Ex_move rfl) ?_
  refine WL_yes rfl rfl rfl (Ex_eqlSd rfl rfl hne) ?_
  refine WL_op rfl (Ex_pickF rfl rfl) ?_
  refine WL_nil ?_
  refine WQ_next ?_
  refine WC_false rfl ?_
  refine WC_skip ?_
  refine WQ_next ?_
  refine WC_seq ?_
  refine WC_region ?_
  refine WL_op rfl (Ex_move rfl) ?_
  refine WL_callF fn25 rfl rfl (fun w' _ => hd2.out w') (fun h => h.elim) ?_
  rintro v R2 ⟨⟨fv2, mv2, ms2⟩, rfl, hR2, hfit2⟩
  refine WL_imp hR2.left ?_
  refine WL_know (p := (clV c fv2 mv2).all (·.oneCell') = true) (fun w hs => clA_one hs.res.1) ?_
  intro h12
  refine WL_op rfl (Ex_move rfl) ?_
  refine WL_op rfl (Ex_ext rfl rfl) ?_
  refine WL_op rfl (Ex_ext rfl rfl) ?_
  refine WL_storeN (tn rfl) rfl rfl 0 rfl rfl h12 rfl ?_
  refine WL_op rfl (Ex_assign rfl) ?_
  refine WL_nil ?_
  refine WQ_next ?_
  refine WC_seq ?_
  refine WC_region ?_
  refine WL_op rfl (Ex_loadM (tn rfl) rfl 0 rfl rfl) ?_
  refine WL_call fn26 rfl rfl (fun w' hs => enc_yes (clA_at (k := ⟨fv2, mv2, ms2⟩) hs.res.1 hfit2) hc rfl) ?_
  refine WL_op rfl (Ex_move rfl) ?_
  refine WL_op rfl (Ex_ext rfl rfl) ?_
  refine WL_op rfl (Ex_ext rfl rfl) ?_
  refine WL_op rfl (Ex_assign rfl) ?_
  refine WL_op rfl (Ex_assign rfl) ?_
  refine WL_nil ?_
  refine WQ_next ?_
  refine WC_seq ?_
  refine WC_region ?_
  refine WL_op rfl (Ex_move rfl) ?_
  refine WL_op rfl (Ex_move rfl) ?_
  refine WL_bs rfl (ts rfl) (tz rfl) rfl rfl rfl rfl rfl ?_
  intro b2 hb2
  refine WL_op rfl (Ex_byte1 (ta rfl).sl (tint rfl) (tstr rfl) rfl 0 rfl) ?_
  refine WL_op rfl (Ex_addS rfl rfl ?_) ?_
  · (show (bytesS c).size + 1 < 9223372036854775807; omega)
  refine WL_callF fn25 rfl rfl (fun w' _ => hd3.out w') (fun h => h.elim) ?_
  rintro v R3 rfl
  refine WL_op rfl (Ex_move rfl) ?_
  refine WL_op rfl (Ex_ext rfl rfl) ?_
  refine WL_op rfl (Ex_ext rfl rfl) ?_
  refine WL_alloc rfl (tz rfl) ?_
  intro b3 hb3
  refine WL_storeN (tn rfl) rfl rfl 0 rfl rfl rfl rfl ?_
  refine WL_op rfl (Ex_assign rfl) ?_
  refine WL_nil ?_
  refine WQ_next ?_
  refine WC_seq ?_
  refine WC_region ?_
  refine WL_op rfl (Ex_move rfl) ?_
  refine WL_op rfl (Ex_move rfl) ?_
  refine WL_op rfl (Ex_lenS (tstr rfl) rfl) ?_
  refine WL_op rfl (Ex_pred rfl rfl hpos (by omega)) ?_
  refine WL_op rfl (Ex_sliceTo (tstr rfl) rfl rfl ?_) ?_
  · omega
  refine WL_callF fn25 rfl rfl (fun w' _ => hd4.out w') (fun h => h.elim) ?_
  rintro v R4 rfl
  refine WL_op rfl (Ex_move rfl) ?_
  refine WL_op rfl (Ex_ext rfl rfl) ?_
  refine WL_op rfl (Ex_ext rfl rfl) ?_
  refine WL_alloc rfl (tz rfl) ?_
  intro b4 hb4
  refine WL_storeN (tn rfl) rfl rfl 0 rfl rfl rfl rfl ?_
  refine WL_op rfl (Ex_assign rfl) ?_
  refine WL_nil ?_
  refine WQ_next ?_
  refine WC_seq ?_
  refine WC_region ?_
  refine WL_op rfl (Ex_move rfl) ?_
  refine WL_op rfl (Ex_eqlI1 rfl rfl) ?_
  refine WL_op rfl (Ex_move rfl) ?_
  refine WL_yes rfl rfl rfl (Ex_move rfl) ?_
  refine WL_yes rfl rfl rfl (Ex_eqlI1 rfl rfl) ?_
  refine WL_op rfl (Ex_pickT rfl rfl) ?_
  refine WL_op rfl (Ex_move rfl) ?_
  refine WL_yes rfl rfl rfl (Ex_move rfl) ?_
  refine WL_yes rfl rfl rfl (Ex_move rfl) ?_
  refine WL_yes rfl rfl rfl (Ex_eqlS1 rfl rfl) ?_
  refine WL_op rfl (Ex_pickT rfl rfl) ?_
  refine WL_op rfl (Ex_move rfl) ?_
  refine WL_yes rfl rfl rfl (Ex_field (ff rfl) rfl) ?_
  refine WL_yes rfl rfl rfl (Ex_load (t1 rfl) rfl (cell_mine 3 rfl rfl)) ?_
  refine WL_yes rfl rfl rfl (Ex_field (ff rfl) rfl) ?_
  refine WL_yes rfl rfl rfl (Ex_load (t1 rfl) rfl (cell_mine 4 rfl rfl)) ?_
  refine WL_yes rfl rfl rfl (Ex_eqlS1 rfl rfl) ?_
  refine WL_op rfl (Ex_pickT rfl rfl) ?_
  refine WL_op rfl (Ex_move rfl) ?_
  refine WL_yes rfl rfl rfl (Ex_move rfl) ?_
  refine WL_yes rfl rfl rfl (Ex_eqlI1 rfl rfl) ?_
  refine WL_op rfl (Ex_pickT rfl rfl) ?_
  refine WL_op rfl (Ex_move rfl) ?_
  refine WL_yes rfl rfl rfl (Ex_move rfl) ?_
  refine WL_yes rfl rfl rfl (Ex_eqlI1 rfl rfl) ?_
  refine WL_op rfl (Ex_pickT rfl rfl) ?_
  refine WL_op rfl (Ex_assign rfl) ?_
  refine WL_nil ?_
  refine WQ_next ?_
  refine WC_ret ?_
  refine P_end1 rfl rfl ?_
  rfl
theorem rr_nn (c : Cl) (fv mv : Value) (s : ByteArray) (m : UInt8) (w : World) (hcl : ClAt w c fv mv) (hs : s.size ≤ 4000000) (ho : okOnly (decL false true (dl s)) = none) (hc : isClassB c = false) :
    Pure Tryz.prog 6 #[.agg (clV c fv mv).toArray, .string s, byteV m] w (.bool true) := by
  obtain ⟨qf, ef, hfv, -, -⟩ := hcl.fs.is
  obtain ⟨qm, em, hmv, -, -⟩ := hcl.ms.is
  subst hfv; subst hmv
  have hn := clN_at hcl
  have hd1 := fun w => dec_no ho hs w
  replace hcl : Hid _ := hcl
  replace hd1 : Hid _ := hd1
  replace hn : Hid _ := hn
  refine opens (args := [.agg (clV c (.slice qf c.fields.length ef) (.slice qm c.methods.length em)).toArray, .string s, byteV m]) Tryz.func6 rfl Tryz.ntmps6 ?_
  refine WC_seq ?_
  refine WC_region ?_
  refine WL_box rfl rfl ?_
  intro b0 hb0
  refine WL_op rfl (Ex_assign rfl) ?_
  refine WL_nil ?_
  refine WQ_next ?_
  refine WC_seq ?_
  refine WC_region ?_
  refine WL_call fn24 rfl rfl (fun w' _ => S.begin_any w') ?_
  refine WL_op rfl (Ex_assign rfl) ?_
  refine WL_nil ?_
  refine WQ_next ?_
  refine WC_seq ?_
  refine WC_seq ?_
  refine WC_region ?_
  refine WL_op rfl (Ex_move rfl) ?_
  refine WL_op rfl (Ex_not rfl) ?_
  refine WL_nil ?_
  refine WQ_next ?_
  refine WC_false rfl ?_
  refine WC_skip ?_
  refine WQ_next ?_
  refine WC_seq ?_
  refine WC_region ?_
  refine WL_op rfl (Ex_move rfl) ?_
  refine WL_callF fn25 rfl rfl (fun w' _ => hd1.out w') (fun h => h.elim) ?_
  rintro v R1 rfl
  refine WL_op rfl (Ex_move rfl) ?_
  refine WL_op rfl (Ex_ext rfl rfl) ?_
  refine WL_op rfl (Ex_ext rfl rfl) ?_
  refine WL_alloc rfl (tz rfl) ?_
  intro b1 hb1
  refine WL_storeN (tn rfl) rfl rfl 0 rfl rfl rfl rfl ?_
  refine WL_op rfl (Ex_assign rfl) ?_
  refine WL_nil ?_
  refine WQ_next ?_
  refine WC_seq ?_
  refine WC_seq ?_
  refine WC_region ?_
  refine WL_op rfl (Ex_move rfl) ?_
  refine WL_op rfl (Ex_eqlId rfl rfl (by decide)) ?_
  refine WL_nil ?_
  refine WQ_next ?_
  refine WC_false rfl ?_
  refine WC_seq ?_
  refine WC_region ?_
  refine WL_op rfl (Ex_move rfl) ?_
  refine WL_op rfl (Ex_neqI0 rfl rfl) ?_
  refine WL_nil ?_
  refine WQ_next ?_
  refine WC_false rfl ?_
  refine WC_skip ?_
  refine WQ_next ?_
  refine WC_seq ?_
  refine WC_region ?_
  refine WL_op rfl (Ex_loadM (tn rfl) rfl 1 rfl rfl) ?_
  refine WL_call fn26 rfl rfl (fun w' hs => enc_no (hcl.out.mono (lowOf hs)) hc) ?_
  refine WL_op rfl (Ex_move rfl) ?_
  refine WL_op rfl (Ex_ext rfl rfl) ?_
  refine WL_op rfl (Ex_ext rfl rfl) ?_
  refine WL_op rfl (Ex_assign rfl) ?_
  refine WL_op rfl (Ex_assign rfl) ?_
  refine WL_nil ?_
  refine WQ_next ?_
  refine WC_seq ?_
  refine WC_seq ?_
  refine WC_region ?_
  refine WL_op rfl (Ex_move rfl) ?_
  refine WL_op rfl (Ex_neqId rfl rfl (by decide)) ?_
  refine WL_op rfl (Ex_move rfl) ?_
  refine WL_no rfl rfl rfl ?_
  refine WL_no rfl rfl rfl ?_
  refine WL_op rfl (Ex_pickT rfl rfl) ?_
  refine WL_nil ?_
  refine WQ_next ?_
  refine WC_true rfl ?_
  refine WC_seq ?_
  refine WC_region ?_
  refine WL_op rfl (Ex_move rfl) ?_
  refine WL_op rfl (Ex_eqlI1 rfl rfl) ?_
  refine WL_op rfl (Ex_move rfl) ?_
  refine WL_yes rfl rfl rfl (Ex_move rfl) ?_
  refine WL_yes rfl rfl rfl (Ex_eqlS1 rfl rfl) ?_
  refine WL_op rfl (Ex_pickT rfl rfl) ?_
  refine WL_op rfl (Ex_assign rfl) ?_
  refine WL_nil ?_
  refine WQ_next ?_
  refine WC_ret ?_
  refine WQ_ret ?_
  refine P_end1 rfl rfl ?_
  rfl
theorem reread_any (c : Cl) (fv mv : Value) (s : ByteArray) (m : UInt8) (w : World) (hcl : ClAt w c fv mv) (hs : s.size ≤ 4000000) :
    Pure Tryz.prog 6 #[.agg (clV c fv mv).toArray, .string s, byteV m] w (.bool true) := by
  cases ho : okOnly (decL false true (dl s)) with
  | some c1 =>
    cases hc : isClassB c with
    | true => exact rr_sy c fv mv s m w hcl hs c1 ho hc
    | false => exact rr_sn c fv mv s m w hcl hs c1 ho hc
  | none =>
    cases hc : isClassB c with
    | true => exact rr_ny c fv mv s m w hcl hs ho hc
    | false => exact rr_nn c fv mv s m w hcl hs ho hc
end Go.Proofs.YtpofmnfkdkmieaaGreat
