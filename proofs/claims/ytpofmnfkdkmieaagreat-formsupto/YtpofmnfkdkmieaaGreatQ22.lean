/- What is proved here: the program's writer (package wire) writes the bytes that the plain functions name: lists of types, instructions, handlers, frames, methods. -/
import Derived.Test.YtpofmnfkdkmieaaGreatQ13
import Derived.Test.YtpofmnfkdkmieaaGreatQ21
set_option linter.unusedVariables false
set_option linter.unusedSimpArgs false
namespace Go.Proofs.YtpofmnfkdkmieaaGreat
open Go.RowKit At E
theorem dl_fold {α : Type} (g : ByteArray → α → ByteArray) (f : α → List UInt8) (hg : ∀ s x, dl (g s x) = dl s ++ f x) : ∀ (l : List α) (s : ByteArray), dl (l.foldl g s) = dl s ++ l.flatMap f
 | [], s => by simp
 | x :: l, s => by rw [List.foldl_cons, dl_fold g f hg l, hg, List.flatMap_cons, List.append_assoc]
theorem flat_room {α : Type} (g : α → List UInt8) (l : List α) (i : Nat) (hi : i < l.length) : ((l.take i).flatMap g).length + (g l[i]).length ≤ (l.flatMap g).length := by
 have h : l.flatMap g = (l.take i).flatMap g ++ (g l[i] ++ (l.drop (i + 1)).flatMap g) := by
  rw [← List.flatMap_cons, ← List.flatMap_append, ← List.drop_eq_getElem_cons hi, List.take_append_drop]
 rw [h]; simp only [List.length_append]; omega
theorem flat_next {α : Type} (g : α → List UInt8) (l : List α) (i : Nat) (hi : i < l.length) : (l.take (i + 1)).flatMap g = (l.take i).flatMap g ++ g l[i] := by
 rw [List.take_succ_eq_append_getElem hi, List.flatMap_append, List.flatMap_cons, List.flatMap_nil, List.append_nil]
theorem flat_all {α : Type} (g : α → List UInt8) (l : List α) (i : Nat) (hi : ¬ i < l.length) : (l.take i).flatMap g = l.flatMap g := by rw [List.take_of_length_le (by omega)]
def tyL (t : Ty) : List UInt8 := dl (oneTypeS t)
theorem dl_typesS (l : List Ty) : dl (typesS l) = dl (lowS (l.length : Nat) 1) ++ l.flatMap tyL := dl_fold _ tyL (fun s t => dl_append s _) l _
theorem wrTypes_any (U : World) (b : Nat) (tv : Value) (l : List Ty) (hv : TysAt U tv l) : WrP Tryz.prog 192 #[.pointer (some ⟨b, 0, none⟩), tv] U b (dl (typesS l)) := by
 intro w v bs h0 hl
 obtain ⟨p, e, rfl, hlen, hr1⟩ := hv.is
 replace hr1 : Hid _ := hr1
 rw [dl_typesS] at hl ⊢
 simp only [List.length_append] at hl
 refine opensF (h0.sat) (args := [.pointer (some ⟨b, 0, none⟩), .slice p l.length e]) Tryz.func192 rfl Tryz.ntmps192 ?_
 refine Zf (Zb (Za rfl (Zd rfl) (Za rfl (Zd rfl) (Za rfl (Yg (ts rfl) rfl) (Xu fn122 rfl rfl 0 rfl h0.base h0.F (wrByte_any U b (l.length : Nat)) (by omega) ?_)))))
 intro v1
 refine Ze (Zc (Zf (Zb (Za rfl (Zd rfl) (Za rfl (Yg (ts rfl) rfl) ?_)))))
 refine Za rfl (Zd rfl) (Ze (Zc (Zs (WC_res (congrArg (wrA _) (show _ = bs ++ dl (lowS (l.length : Nat) 1) ++ (l.take 0).flatMap tyL from by simp)) ?_))))
 refine Xh (E' := (fun x : Nat × Value => [(0, .pointer (some ⟨b, 0, none⟩)), (10, .slice p l.length e), (11, .int .i64 (l.length : Nat)), (12, .int .i64 (x.1 : Nat))]) ((0, v1))) ⟨rfl, rfl, rfl, rfl, trivial⟩ (Yy (X := Nat × Value) (fun x : Nat × Value => [(0, .pointer (some ⟨b, 0, none⟩)), (10, .slice p l.length e), (11, .int .i64 (l.length : Nat)), (12, .int .i64 (x.1 : Nat))]) _ _ (fun x : Nat × Value => [(b, [x.2])]) (fun x : Nat × Value => wrA x.2 (bs ++ dl (lowS (l.length : Nat) 1) ++ (l.take x.1).flatMap tyL)) (fun x : Nat × Value => x.1 ≤ l.length) (fun x : Nat × Value => l.length - x.1) ((0, v1)) (Nat.zero_le _) ?_)
 intro x hI
 refine Zf (Zb (Za rfl (Xb rfl rfl) (Ze (Zc (Zf ?_)))))
 refine Yi rfl ?_ ?_
 ·intro c1
  try (first | replace c1 := dTr c1 | replace c1 := Zk c1)
  have hx : x.1 < l.length := by omega
  obtain ⟨b', o', r, hp, hb, ⟨hr, -⟩, hc⟩ := hr1.out x.1 l[x.1] (List.getElem?_eq_getElem hx)
  subst hp; subst hr
  refine Zw (Zc (Zf (Zs (Zf (Zb ?_)))))
  refine Za rfl (Xk (ts rfl) rfl rfl ?_) ?_
  ·omega
  refine Za rfl (Ym (tn rfl) rfl (row_oldU h0.base h0.F hb hc) rfl) (Xg rfl (tz rfl) ?_)
  intro b1 hb1
  refine Yd (tn rfl) rfl rfl 0 rfl rfl rfl rfl (Ze (Zc (Zb (Za rfl (Zd rfl) (Za rfl (Yb (tn rfl) rfl 0 rfl rfl) ?_)))))
  refine Xu fn124 rfl rfl 1 rfl h0.base h0.F (wrTyp_any U b l[x.1]) (by have hr := flat_room tyL l x.1 hx; unfold tyL at hr; simp only [List.length_append]; unfold tyL at *; omega) ?_
  intro v2
  refine Ze (Zx (Zc (Zb ?_)))
  (first | (refine Za rfl (Xa rfl rfl ?_) ?_; omega) | (refine Za rfl (Yp rfl rfl ?_) ?_; omega) | refine Za rfl (Yz rfl rfl) ?_)
  refine Za rfl (Zd rfl) (Ze ?_)
  refine Yn ((x.1 + 1, v2)) ?_ (hx) 1 rfl (congrArg (wrA v2) (by rw [flat_next tyL l x.1 hx, ← List.append_assoc]; rfl)) ⟨rfl, rfl, rfl, rfl, trivial⟩
  omega
 ·intro c1
  try (first | replace c1 := dFa c1 | replace c1 := Zi c1)
  refine Yx (Yw (Yo (Yv ?_)))
  refine wr_end h0 rfl (i := 0) rfl ?_
  rw [flat_all tyL l x.1 (by omega), List.append_assoc]
theorem opd_eq (op : Int) : opdB op = if sortB op = -1 then 0 else sortB op := by
 unfold opdB sortB
 by_cases h1 : op = 1
 ·rw [if_pos h1, if_pos h1]; rfl
 rw [if_neg h1, if_neg h1]
 by_cases h2 : op = 2 ∨ op = 3
 ·rw [if_pos h2, if_pos h2]; rfl
 rw [if_neg h2, if_neg h2]
 by_cases h3 : op = 10 ∨ op = 11 ∨ op = 12 ∨ op = 13
 ·rw [if_pos h3, if_pos h3]; rfl
 rw [if_neg h3, if_neg h3]
 by_cases h4 : op = 15 ∨ op = 25 ∨ op = 26
 ·rw [if_pos h4, if_pos h4]; rfl
 rw [if_neg h4, if_neg h4]
 by_cases h5 : op = 16 ∨ op = 17 ∨ op = 18 ∨ op = 19
 ·rw [if_pos h5, if_pos h5]; rfl
 rw [if_neg h5, if_neg h5]
 by_cases h6 : op = 20 ∨ op = 21
 ·rw [if_pos h6, if_pos h6]; rfl
 rw [if_neg h6, if_neg h6]
 by_cases h7 : op < 0 ∨ 32 < op
 ·rw [if_pos h7]; rfl
 ·rw [if_neg h7]; rfl
theorem opd_sort {op k : Int} (hk : k = 1 ∨ k = 2 ∨ k = 3 ∨ k = 4 ∨ k = 5 ∨ k = 6) : opdB op = k ↔ sortB op = k := by
 rw [opd_eq]
 split <;> omega
theorem instrL_1 {i : Ins} (h : opdB i.op = 1) : dl (instrS i) = dl (lowS i.op 1) ++ dl (lowS i.n 8) := by
 have h := (opd_sort (by omega)).1 h
 unfold instrS; rw [if_pos h, dl_append]
theorem instrL_2 {i : Ins} (h : opdB i.op = 2) : dl (instrS i) = dl (lowS i.op 1) ++ dl (lowS i.n 1) := by
 have h := (opd_sort (by omega)).1 h
 unfold instrS; rw [if_neg (by omega), if_pos h, dl_append]
theorem instrL_3 {i : Ins} (h : opdB i.op = 3) : dl (instrS i) = dl (lowS i.op 1) ++ dl (lowS i.n 2) := by
 have h := (opd_sort (by omega)).1 h
 unfold instrS; rw [if_neg (by omega), if_neg (by omega), if_pos h, dl_append]
theorem instrL_4 {i : Ins} (h : opdB i.op = 4) : dl (instrS i) = dl (lowS i.op 1) ++ dl (nameS i.ref.cls) := by
 have h := (opd_sort (by omega)).1 h
 unfold instrS; rw [if_neg (by omega), if_neg (by omega), if_neg (by omega), if_pos h, dl_append]
theorem instrL_5 {i : Ins} (h : opdB i.op = 5) : dl (instrS i) = dl (lowS i.op 1) ++ dl (nameS i.ref.cls) ++ dl (nameS i.ref.name) ++ dl (oneTypeS i.ref.ty) := by
 have h := (opd_sort (by omega)).1 h
 unfold instrS; rw [if_neg (by omega), if_neg (by omega), if_neg (by omega), if_neg (by omega), if_pos h, dl_append, dl_append, dl_append]
theorem instrL_6 {i : Ins} (h : opdB i.op = 6) : dl (instrS i) = dl (lowS i.op 1) ++ dl (nameS i.ref.cls) ++ dl (nameS i.ref.name) ++ dl (typesS i.ref.params) ++ dl (oneTypeS i.ref.ty) := by
 have h := (opd_sort (by omega)).1 h
 unfold instrS; rw [if_neg (by omega), if_neg (by omega), if_neg (by omega), if_neg (by omega), if_neg (by omega), if_pos h, dl_append, dl_append, dl_append, dl_append]
theorem instrL_0 {i : Ins} (h1 : ¬ opdB i.op = 1) (h2 : ¬ opdB i.op = 2) (h3 : ¬ opdB i.op = 3) (h4 : ¬ opdB i.op = 4) (h5 : ¬ opdB i.op = 5) (h6 : ¬ opdB i.op = 6) : dl (instrS i) = dl (lowS i.op 1) := by
 have h1 := fun h => h1 ((opd_sort (by omega)).2 h)
 have h2 := fun h => h2 ((opd_sort (by omega)).2 h)
 have h3 := fun h => h3 ((opd_sort (by omega)).2 h)
 have h4 := fun h => h4 ((opd_sort (by omega)).2 h)
 have h5 := fun h => h5 ((opd_sort (by omega)).2 h)
 have h6 := fun h => h6 ((opd_sort (by omega)).2 h)
 unfold instrS; rw [if_neg h1, if_neg h2, if_neg h3, if_neg h4, if_neg h5, if_neg h6]
theorem instrL_pos (i : Ins) : (dl (lowS i.op 1)).length ≤ (dl (instrS i)).length := by
 by_cases h1 : opdB i.op = 1
 ·rw [instrL_1 h1]; simp only [List.length_append]; omega
 by_cases h2 : opdB i.op = 2
 ·rw [instrL_2 h2]; simp only [List.length_append]; omega
 by_cases h3 : opdB i.op = 3
 ·rw [instrL_3 h3]; simp only [List.length_append]; omega
 by_cases h4 : opdB i.op = 4
 ·rw [instrL_4 h4]; simp only [List.length_append]; omega
 by_cases h5 : opdB i.op = 5
 ·rw [instrL_5 h5]; simp only [List.length_append]; omega
 by_cases h6 : opdB i.op = 6
 ·rw [instrL_6 h6]; simp only [List.length_append]; omega
 rw [instrL_0 h1 h2 h3 h4 h5 h6]; omega
theorem wrInstr_any (U : World) (b : Nat) (i : Ins) (pv : Value) (hp : TysAt U pv i.ref.params) : WrP Tryz.prog 194 #[.pointer (some ⟨b, 0, none⟩), .agg (insV i pv).toArray] U b (dl (instrS i)) := by
 intro w v bs h0 hl
 have h1 := instrL_pos i
 refine opensF (h0.sat) (args := [.pointer (some ⟨b, 0, none⟩), .agg (insV i pv).toArray]) Tryz.func194 rfl Tryz.ntmps194 ?_
 refine Zf (Zb (WL_box rfl rfl ?_))
 intro b1 hb1
 refine Ze (Zc (Zf (Zb (Za rfl (Zd rfl) (Za rfl (Zh (ff rfl) rfl) ?_)))))
 refine Za rfl (Zj (t1 rfl) rfl (Zl 0 rfl rfl)) (Xu fn122 rfl rfl 1 rfl h0.base h0.F (wrByte_any U b i.op) (by omega) ?_)
 intro v1
 refine Ze (Zc (Zf (Zb (Za rfl (Zh (ff rfl) rfl) (Za rfl (Zj (t1 rfl) rfl (Zl 0 rfl rfl)) ?_)))))
 refine Xi fn284 rfl rfl (fun w _ => operandOf_any _ w) ?_
 refine Ze (Zc (Zs (Zf (Zb (Za rfl (Xc rfl rfl) ?_)))))
 refine Za rfl (Zg rfl) (Ze (Zc (Yi rfl ?_ ?_)))
 ·intro c1
  try (first | replace c1 := dTr c1 | replace c1 := Zk c1)
  have e := instrL_1 c1; rw [e] at hl; simp only [List.length_append] at hl
  refine Zb (Za rfl (Zd rfl) (Za rfl (Zh (ff rfl) rfl) (Za rfl (Zj (t1 rfl) rfl (Zl 0 rfl rfl)) ?_)))
  refine Xu fn286 rfl rfl 1 rfl h0.base h0.F (wrEight_any U b i.n) (by (try simp only [List.length_append]); omega) ?_
  intro v2
  refine Ze (Zx ?_)
  refine wr_end h0 rfl (i := 1) rfl ?_
  first | (rw [e]; done) | (rw [e]; simp only [List.append_assoc])
 ·intro c1
  try (first | replace c1 := dFa c1 | replace c1 := Zi c1)
  refine Zf (Zb (Za rfl (Xc rfl rfl) (Za rfl (Zg rfl) (Ze (Zc ?_)))))
  refine Yi rfl ?_ ?_
  ·intro c2
   try (first | replace c2 := dTr c2 | replace c2 := Zk c2)
   have e := instrL_2 c2; rw [e] at hl; simp only [List.length_append] at hl
   refine Zb (Za rfl (Zd rfl) (Za rfl (Zh (ff rfl) rfl) (Za rfl (Zj (t1 rfl) rfl (Zl 0 rfl rfl)) ?_)))
   refine Xu fn122 rfl rfl 1 rfl h0.base h0.F (wrByte_any U b i.n) (by (try simp only [List.length_append]); omega) ?_
   intro v3
   refine Ze (Zx ?_)
   refine wr_end h0 rfl (i := 1) rfl ?_
   first | (rw [e]; done) | (rw [e]; simp only [List.append_assoc])
  ·intro c2
   try (first | replace c2 := dFa c2 | replace c2 := Zi c2)
   refine Zf (Zb (Za rfl (Xc rfl rfl) (Za rfl (Zg rfl) (Ze (Zc ?_)))))
   refine Yi rfl ?_ ?_
   ·intro c3
    try (first | replace c3 := dTr c3 | replace c3 := Zk c3)
    have e := instrL_3 c3; rw [e] at hl; simp only [List.length_append] at hl
    refine Zb (Za rfl (Zd rfl) (Za rfl (Zh (ff rfl) rfl) (Za rfl (Zj (t1 rfl) rfl (Zl 0 rfl rfl)) ?_)))
    refine Xu fn193 rfl rfl 1 rfl h0.base h0.F (wrTwo_any U b i.n) (by (try simp only [List.length_append]); omega) ?_
    intro v4
    refine Ze (Zx ?_)
    refine wr_end h0 rfl (i := 1) rfl ?_
    first | (rw [e]; done) | (rw [e]; simp only [List.append_assoc])
   ·intro c3
    try (first | replace c3 := dFa c3 | replace c3 := Zi c3)
    refine Zf (Zb (Za rfl (Xc rfl rfl) (Za rfl (Zg rfl) (Ze (Zc ?_)))))
    refine Yi rfl ?_ ?_
    ·intro c4
     try (first | replace c4 := dTr c4 | replace c4 := Zk c4)
     have e := instrL_4 c4; rw [e] at hl; simp only [List.length_append] at hl
     refine Zb (Za rfl (Zd rfl) (Za rfl (Zh (ff rfl) rfl) (Za rfl (Zh (ff rfl) rfl) (Za rfl (Zj (t1 rfl) rfl (Zl 0 rfl rfl)) ?_))))
     refine Xu fn121 rfl rfl 1 rfl h0.base h0.F (wrName_any U b i.ref.cls) (by (try simp only [List.length_append]); omega) ?_
     intro v5
     refine Ze (Zx ?_)
     refine wr_end h0 rfl (i := 1) rfl ?_
     first | (rw [e]; done) | (rw [e]; simp only [List.append_assoc])
    ·intro c4
     try (first | replace c4 := dFa c4 | replace c4 := Zi c4)
     refine Zf (Zb (Za rfl (Xc rfl rfl) (Za rfl (Zg rfl) (Ze (Zc ?_)))))
     refine Yi rfl ?_ ?_
     ·intro c5
      try (first | replace c5 := dTr c5 | replace c5 := Zk c5)
      have e := instrL_5 c5; rw [e] at hl; simp only [List.length_append] at hl
      refine Zf (Zb (Za rfl (Zd rfl) (Za rfl (Zh (ff rfl) rfl) (Za rfl (Zh (ff rfl) rfl) (Za rfl (Zj (t1 rfl) rfl (Zl 0 rfl rfl)) ?_)))))
      refine Xu fn121 rfl rfl 1 rfl h0.base h0.F (wrName_any U b i.ref.cls) (by (try simp only [List.length_append]); omega) ?_
      intro v6
      refine Ze (Zc (Zf (Zb (Za rfl (Zd rfl) (Za rfl (Zh (ff rfl) rfl) ?_)))))
      refine Za rfl (Zh (ff rfl) rfl) (Za rfl (Zj (t1 rfl) rfl (Zl 0 rfl rfl)) ?_)
      refine Xu fn121 rfl rfl 1 rfl h0.base h0.F (wrName_any U b i.ref.name) (by (try simp only [List.length_append]); omega) ?_
      intro v7
      refine Ze (Zc (Zb (Za rfl (Zd rfl) (Za rfl (Zh (ff rfl) rfl) (Za rfl (Zh (ff rfl) rfl) ?_)))))
      refine Za rfl (Yb (tn rfl) rfl 0 rfl rfl) ?_
      refine Xu fn124 rfl rfl 1 rfl h0.base h0.F (wrTyp_any U b i.ref.ty) (by (try simp only [List.length_append]); omega) ?_
      intro v8
      refine Ze (Zx ?_)
      refine wr_end h0 rfl (i := 1) rfl ?_
      first | (rw [e]; done) | (rw [e]; simp only [List.append_assoc])
     ·intro c5
      try (first | replace c5 := dFa c5 | replace c5 := Zi c5)
      refine Zf (Zb (Za rfl (Xc rfl rfl) (Za rfl (Zg rfl) (Ze (Zc ?_)))))
      refine Yi rfl ?_ ?_
      ·intro c6
       try (first | replace c6 := dTr c6 | replace c6 := Zk c6)
       have e := instrL_6 c6; rw [e] at hl; simp only [List.length_append] at hl
       refine Zf (Zb (Za rfl (Zd rfl) (Za rfl (Zh (ff rfl) rfl) (Za rfl (Zh (ff rfl) rfl) (Za rfl (Zj (t1 rfl) rfl (Zl 0 rfl rfl)) ?_)))))
       refine Xu fn121 rfl rfl 1 rfl h0.base h0.F (wrName_any U b i.ref.cls) (by (try simp only [List.length_append]); omega) ?_
       intro v9
       refine Ze (Zc (Zf (Zb (Za rfl (Zd rfl) (Za rfl (Zh (ff rfl) rfl) ?_)))))
       refine Za rfl (Zh (ff rfl) rfl) (Za rfl (Zj (t1 rfl) rfl (Zl 0 rfl rfl)) ?_)
       refine Xu fn121 rfl rfl 1 rfl h0.base h0.F (wrName_any U b i.ref.name) (by (try simp only [List.length_append]); omega) ?_
       intro v10
       refine Ze (Zc (Zf (Zb (Za rfl (Zd rfl) (Za rfl (Zh (ff rfl) rfl) ?_)))))
       refine Za rfl (Zh (ff rfl) rfl) (Za rfl (Zj (t1 rfl) rfl (Zl 0 rfl rfl)) ?_)
       refine Xu fn192 rfl rfl 1 rfl h0.base h0.F (wrTypes_any U b pv i.ref.params hp) (by (try simp only [List.length_append]); omega) ?_
       intro v11
       refine Ze (Zc (Zb (Za rfl (Zd rfl) (Za rfl (Zh (ff rfl) rfl) (Za rfl (Zh (ff rfl) rfl) ?_)))))
       refine Za rfl (Yb (tn rfl) rfl 0 rfl rfl) ?_
       refine Xu fn124 rfl rfl 1 rfl h0.base h0.F (wrTyp_any U b i.ref.ty) (by (try simp only [List.length_append]); omega) ?_
       intro v12
       refine Ze (Zx ?_)
       refine wr_end h0 rfl (i := 1) rfl ?_
       first | (rw [e]; done) | (rw [e]; simp only [List.append_assoc])
      ·intro c6
       try (first | replace c6 := dFa c6 | replace c6 := Zi c6)
       have e := instrL_0 c1 c2 c3 c4 c5 c6
       refine Zw (Zx ?_)
       refine wr_end h0 rfl (i := 1) rfl ?_
       first | (rw [e]; done) | (rw [e]; simp only [List.append_assoc])
def hdL (h : Hd) : List UInt8 := dl (lowS h.lo 2) ++ dl (lowS h.hi 2) ++ dl (lowS h.pos 2) ++ dl (nameS h.cls)
theorem wrHandler_any (U : World) (b : Nat) (h : Hd) : WrP Tryz.prog 195 #[.pointer (some ⟨b, 0, none⟩), .agg (hdV h).toArray] U b (hdL h) := by
 intro w v bs h0 hl
 unfold hdL at hl
 simp only [List.length_append] at hl
 refine opensF (h0.sat) (args := [.pointer (some ⟨b, 0, none⟩), .agg (hdV h).toArray]) Tryz.func195 rfl Tryz.ntmps195 ?_
 refine Zf (Zb (WL_box rfl rfl ?_))
 intro b1 hb1
 refine Ze (Zc (Zf (Zb (Za rfl (Zd rfl) (Za rfl (Zh (ff rfl) rfl) ?_)))))
 refine Za rfl (Zj (t1 rfl) rfl (Zl 0 rfl rfl)) ?_
 refine Xu fn193 rfl rfl 1 rfl h0.base h0.F (wrTwo_any U b h.lo) (by (try simp only [List.length_append]); omega) ?_
 intro v1
 refine Ze (Zc (Zf (Zb (Za rfl (Zd rfl) (Za rfl (Zh (ff rfl) rfl) ?_)))))
 refine Za rfl (Zj (t1 rfl) rfl (Zl 0 rfl rfl)) ?_
 refine Xu fn193 rfl rfl 1 rfl h0.base h0.F (wrTwo_any U b h.hi) (by (try simp only [List.length_append]); omega) ?_
 intro v2
 refine Ze (Zc (Zf (Zb (Za rfl (Zd rfl) (Za rfl (Zh (ff rfl) rfl) ?_)))))
 refine Za rfl (Zj (t1 rfl) rfl (Zl 0 rfl rfl)) ?_
 refine Xu fn193 rfl rfl 1 rfl h0.base h0.F (wrTwo_any U b h.pos) (by (try simp only [List.length_append]); omega) ?_
 intro v3
 refine Ze (Zc (Zb (Za rfl (Zd rfl) (Za rfl (Zh (ff rfl) rfl) (Za rfl (Zj (t1 rfl) rfl (Zl 0 rfl rfl)) ?_)))))
 refine Xu fn121 rfl rfl 1 rfl h0.base h0.F (wrName_any U b h.cls) (by (try simp only [List.length_append]); omega) ?_
 intro v4
 refine Ze ?_
 refine wr_end h0 rfl (i := 1) rfl ?_
 unfold hdL; simp only [List.append_assoc]
def frL (f : Fr) : List UInt8 := dl (lowS f.pos 2) ++ dl (typesS f.locals) ++ dl (typesS f.stack)
theorem wrFrame_any (U : World) (b : Nat) (f : Fr) (lv sv : Value) (hlv : TysAt U lv f.locals) (hsv : TysAt U sv f.stack) : WrP Tryz.prog 196 #[.pointer (some ⟨b, 0, none⟩), .agg (frV f lv sv).toArray] U b (frL f) := by
 intro w v bs h0 hl
 unfold frL at hl
 simp only [List.length_append] at hl
 refine opensF (h0.sat) (args := [.pointer (some ⟨b, 0, none⟩), .agg (frV f lv sv).toArray]) Tryz.func196 rfl Tryz.ntmps196 ?_
 refine Zf (Zb (WL_box rfl rfl ?_))
 intro b1 hb1
 refine Ze (Zc (Zf (Zb (Za rfl (Zd rfl) (Za rfl (Zh (ff rfl) rfl) ?_)))))
 refine Za rfl (Zj (t1 rfl) rfl (Zl 0 rfl rfl)) ?_
 refine Xu fn193 rfl rfl 1 rfl h0.base h0.F (wrTwo_any U b f.pos) (by (try simp only [List.length_append]); omega) ?_
 intro v1
 refine Ze (Zc (Zf (Zb (Za rfl (Zd rfl) (Za rfl (Zh (ff rfl) rfl) ?_)))))
 refine Za rfl (Zj (t1 rfl) rfl (Zl 0 rfl rfl)) ?_
 refine Xu fn192 rfl rfl 1 rfl h0.base h0.F (wrTypes_any U b lv f.locals hlv) (by (try simp only [List.length_append]); omega) ?_
 intro v2
 refine Ze (Zc (Zb (Za rfl (Zd rfl) (Za rfl (Zh (ff rfl) rfl) (Za rfl (Zj (t1 rfl) rfl (Zl 0 rfl rfl)) ?_)))))
 refine Xu fn192 rfl rfl 1 rfl h0.base h0.F (wrTypes_any U b sv f.stack hsv) (by (try simp only [List.length_append]); omega) ?_
 intro v3
 refine Ze ?_
 refine wr_end h0 rfl (i := 1) rfl ?_
 unfold frL; simp only [List.append_assoc]
def insL (i : Ins) : List UInt8 := dl (instrS i)
def headL (m : Me) : List UInt8 := dl (nameS m.name) ++ dl (flagS m.stat) ++ dl (typesS m.params) ++ dl (oneTypeS m.result) ++ dl (lowS m.locals 1) ++ dl (lowS m.stack 1) ++ dl (lowS (m.code.length : Nat) 2)
theorem dl_methodS (m : Me) : dl (methodS m) = headL m ++ m.code.flatMap insL ++ dl (lowS (m.handlers.length : Nat) 1) ++ m.handlers.flatMap hdL ++ dl (lowS (m.frames.length : Nat) 1) ++ m.frames.flatMap frL := by
 unfold methodS hdsS codeS
 rw [dl_fold frS frL (fun s f => by unfold frS frL; simp only [dl_append, List.append_assoc]), dl_append, dl_fold hdS hdL (fun s f => by unfold hdS hdL; simp only [dl_append, List.append_assoc]), dl_append,
  dl_fold _ insL (fun s i => dl_append s _)]
 unfold headS headL
 simp only [dl_append, List.append_assoc]
theorem wrMethod_any (U : World) (b : Nat) (m : Me) (pv cv hv fv : Value) (hm : MeParts U m pv cv hv fv) : WrP Tryz.prog 125 #[.pointer (some ⟨b, 0, none⟩), .agg (meV m pv cv hv fv).toArray] U b (dl (methodS m)) := by
 intro w v bs h0 hl
 have hps := hm.ps
 obtain ⟨p1, e1, rfl, -, -⟩ := hm.ps.is
 obtain ⟨p2, e2, rfl, hk2, hr2⟩ := hm.cs.is
 obtain ⟨p3, e3, rfl, hk3, hr3⟩ := hm.hs.is
 obtain ⟨p4, e4, rfl, hk4, hr4⟩ := hm.fs.is
 replace hr2 : Hid _ := hr2
 replace hr3 : Hid _ := hr3
 replace hr4 : Hid _ := hr4
 clear hm
 rw [dl_methodS] at hl ⊢
 have hl' := hl
 unfold headL at hl
 simp only [List.length_append] at hl hl'
 refine opensF (h0.sat) (args := [.pointer (some ⟨b, 0, none⟩), .agg (meV m (.slice p1 m.params.length e1) (.slice p2 m.code.length e2) (.slice p3 m.handlers.length e3) (.slice p4 m.frames.length e4)).toArray]) Tryz.func125 rfl Tryz.ntmps125 ?_
 refine Zf (Zb (WL_box rfl rfl ?_))
 intro b1 hb1
 refine Ze (Zc (Zf (Zb (Za rfl (Zd rfl) (Za rfl (Zh (ff rfl) rfl) ?_)))))
 refine Za rfl (Zj (t1 rfl) rfl (Zl 0 rfl rfl)) ?_
 refine Xu fn121 rfl rfl 1 rfl h0.base h0.F (wrName_any U b m.name) (by (try simp only [List.length_append]); omega) ?_
 intro v1
 refine Ze (Zc (Zf (Zb (Za rfl (Zd rfl) (Za rfl (Zh (ff rfl) rfl) ?_)))))
 refine Za rfl (Zj (t1 rfl) rfl (Zl 0 rfl rfl)) ?_
 refine Xu fn123 rfl rfl 1 rfl h0.base h0.F (wrFlag_any U b m.stat) (by (try simp only [List.length_append]); omega) ?_
 intro v2
 refine Ze (Zc (Zf (Zb (Za rfl (Zd rfl) (Za rfl (Zh (ff rfl) rfl) ?_)))))
 refine Za rfl (Zj (t1 rfl) rfl (Zl 0 rfl rfl)) ?_
 refine Xu fn192 rfl rfl 1 rfl h0.base h0.F (wrTypes_any U b _ m.params hps) (by (try simp only [List.length_append]); omega) ?_
 intro v3
 refine Ze (Zc (Zf (Zb (Za rfl (Zd rfl) (Za rfl (Zh (ff rfl) rfl) ?_)))))
 refine Za rfl (Yb (tn rfl) rfl 0 rfl rfl) ?_
 refine Xu fn124 rfl rfl 1 rfl h0.base h0.F (wrTyp_any U b m.result) (by (try simp only [List.length_append]); omega) ?_
 intro v4
 refine Ze (Zc (Zf (Zb (Za rfl (Zd rfl) (Za rfl (Zh (ff rfl) rfl) ?_)))))
 refine Za rfl (Zj (t1 rfl) rfl (Zl 0 rfl rfl)) ?_
 refine Xu fn122 rfl rfl 1 rfl h0.base h0.F (wrByte_any U b m.locals) (by (try simp only [List.length_append]); omega) ?_
 intro v5
 refine Ze (Zc (Zf (Zb (Za rfl (Zd rfl) (Za rfl (Zh (ff rfl) rfl) ?_)))))
 refine Za rfl (Zj (t1 rfl) rfl (Zl 0 rfl rfl)) ?_
 refine Xu fn122 rfl rfl 1 rfl h0.base h0.F (wrByte_any U b m.stack) (by (try simp only [List.length_append]); omega) ?_
 intro v6
 refine Ze (Zc (Zf (Zb (Za rfl (Zd rfl) (Za rfl (Zh (ff rfl) rfl) ?_)))))
 refine Za rfl (Zj (t1 rfl) rfl (Zl 0 rfl rfl)) (Za rfl (Yg (ts rfl) rfl) ?_)
 refine Xu fn193 rfl rfl 1 rfl h0.base h0.F (wrTwo_any U b (m.code.length : Nat)) (by (try simp only [List.length_append]); omega) ?_
 intro v7
 refine Ze (Zc (Zf (Zf (Zb (Za rfl (Zh (ff rfl) rfl) ?_)))))
 refine Za rfl (Zj (t1 rfl) rfl (Zl 0 rfl rfl)) (Za rfl (Yg (ts rfl) rfl) (Za rfl (Zd rfl) (Ze (Zc (Zs ?_)))))
 refine WC_res (congrArg (wrA _) (show _ = bs ++ headL m ++ (m.code.take 0).flatMap insL from by unfold headL; simp only [List.append_assoc, List.take_zero, List.flatMap_nil, List.append_nil])) ?_
 refine Xh (E' := (fun x : Nat × Value => [(0, .pointer (some ⟨b, 0, none⟩)), (3, .pointer (some ⟨b1, 0, none⟩)), (40, .slice p2 m.code.length e2), (41, .int .i64 (m.code.length : Nat)), (42, .int .i64 (x.1 : Nat))]) ((0, v7))) ⟨rfl, rfl, rfl, rfl, rfl, trivial⟩ (Yy (X := Nat × Value) (fun x : Nat × Value => [(0, .pointer (some ⟨b, 0, none⟩)), (3, .pointer (some ⟨b1, 0, none⟩)), (40, .slice p2 m.code.length e2), (41, .int .i64 (m.code.length : Nat)), (42, .int .i64 (x.1 : Nat))]) _ _ (fun x : Nat × Value => [(b1, meV m (.slice p1 m.params.length e1) (.slice p2 m.code.length e2) (.slice p3 m.handlers.length e3) (.slice p4 m.frames.length e4)), (b, [x.2])]) (fun x : Nat × Value => wrA x.2 (bs ++ headL m ++ (m.code.take x.1).flatMap insL)) (fun x : Nat × Value => x.1 ≤ m.code.length) (fun x : Nat × Value => m.code.length - x.1) ((0, v7)) (Nat.zero_le _) ?_)
 intro x hI
 refine Zf (Zb (Za rfl (Xb rfl rfl) (Ze (Zc (Zf ?_)))))
 refine Yi rfl ?_ ?_
 ·intro c1
  try (first | replace c1 := dTr c1 | replace c1 := Zk c1)
  have hx : x.1 < m.code.length := by omega
  obtain ⟨b', o', r, hp, hb, ⟨qv, hr, hq, -⟩, hc⟩ := hr2.out x.1 m.code[x.1] (List.getElem?_eq_getElem hx)
  subst hp; subst hr
  obtain ⟨q1, g1, rfl, -, -⟩ := hq.is
  refine Zw (Zc (Zf (Zs (Zf (Zb ?_)))))
  refine Za rfl (Xk (ts rfl) rfl rfl ?_) ?_
  ·omega
  refine Za rfl (Ym (tn rfl) rfl (row_oldU h0.base h0.F hb hc) rfl) (Xg rfl (tz rfl) ?_)
  intro b2 hb2
  refine Yd (tn rfl) rfl rfl 0 rfl rfl rfl rfl (Ze (Zc (Zb (Za rfl (Zd rfl) (Za rfl (Yb (tn rfl) rfl 0 rfl rfl) ?_)))))
  refine Xu fn194 rfl rfl 2 rfl h0.base h0.F (wrInstr_any U b m.code[x.1] _ hq) (by have hr := flat_room insL m.code x.1 hx; unfold insL at *; simp only [List.length_append]; omega) ?_
  intro v8
  refine Ze (Zx (Zc (Zb ?_)))
  (first | (refine Za rfl (Xa rfl rfl ?_) ?_; omega) | (refine Za rfl (Yp rfl rfl ?_) ?_; omega) | refine Za rfl (Yz rfl rfl) ?_)
  refine Za rfl (Zd rfl) (Ze ?_)
  refine Yn ((x.1 + 1, v8)) ?_ (hx) 1 rfl (congrArg (wrA v8) (by rw [flat_next insL m.code x.1 hx, ← List.append_assoc]; rfl)) ⟨rfl, rfl, rfl, rfl, rfl, trivial⟩
  omega
 ·intro c1
  try (first | replace c1 := dFa c1 | replace c1 := Zi c1)
  refine Yx (Yw (Yo (Yv (Zc (Zf ?_)))))
  refine WC_res (congrArg (wrA _) (show _ = bs ++ headL m ++ m.code.flatMap insL from by rw [flat_all insL m.code x.1 (by omega)])) ?_
  refine Zb (Za rfl (Zd rfl) (Za rfl (Zh (ff rfl) rfl) (Za rfl (Zj (t1 rfl) rfl (Zl 0 rfl rfl)) (Za rfl (Yg (ts rfl) rfl) ?_))))
  refine Xu fn122 rfl rfl 1 rfl h0.base h0.F (wrByte_any U b (m.handlers.length : Nat)) (by (try simp only [List.length_append]); omega) ?_
  intro v9
  refine Ze (Zc (Zf (Zf (Zb (Za rfl (Zh (ff rfl) rfl) ?_)))))
  refine Za rfl (Zj (t1 rfl) rfl (Zl 0 rfl rfl)) (Za rfl (Yg (ts rfl) rfl) (Za rfl (Zd rfl) (Ze (Zc (Zs ?_)))))
  refine WC_res (congrArg (wrA _) (show _ = bs ++ headL m ++ m.code.flatMap insL ++ dl (lowS (m.handlers.length : Nat) 1) ++ (m.handlers.take 0).flatMap hdL from by simp only [List.take_zero, List.flatMap_nil, List.append_nil])) ?_
  refine Xh (E' := (fun y : Nat × Value => [(0, .pointer (some ⟨b, 0, none⟩)), (3, .pointer (some ⟨b1, 0, none⟩)), (56, .slice p3 m.handlers.length e3), (57, .int .i64 (m.handlers.length : Nat)), (58, .int .i64 (y.1 : Nat))]) ((0, v9))) ⟨rfl, rfl, rfl, rfl, rfl, trivial⟩ (Yy (X := Nat × Value) (fun y : Nat × Value => [(0, .pointer (some ⟨b, 0, none⟩)), (3, .pointer (some ⟨b1, 0, none⟩)), (56, .slice p3 m.handlers.length e3), (57, .int .i64 (m.handlers.length : Nat)), (58, .int .i64 (y.1 : Nat))]) _ _ (fun y : Nat × Value => [(b1, meV m (.slice p1 m.params.length e1) (.slice p2 m.code.length e2) (.slice p3 m.handlers.length e3) (.slice p4 m.frames.length e4)), (b, [y.2])]) (fun y : Nat × Value => wrA y.2 (bs ++ headL m ++ m.code.flatMap insL ++ dl (lowS (m.handlers.length : Nat) 1) ++ (m.handlers.take y.1).flatMap hdL)) (fun y : Nat × Value => y.1 ≤ m.handlers.length) (fun y : Nat × Value => m.handlers.length - y.1) ((0, v9)) (Nat.zero_le _) ?_)
  intro y hI
  refine Zf (Zb (Za rfl (Xb rfl rfl) (Ze (Zc (Zf ?_)))))
  refine Yi rfl ?_ ?_
  ·intro c2
   try (first | replace c2 := dTr c2 | replace c2 := Zk c2)
   have hy : y.1 < m.handlers.length := by omega
   obtain ⟨b', o', r, hp, hb, ⟨hr, -⟩, hc⟩ := hr3.out y.1 m.handlers[y.1] (List.getElem?_eq_getElem hy)
   subst hp; subst hr
   refine Zw (Zc (Zf (Zs (Zf (Zb ?_)))))
   refine Za rfl (Xk (ts rfl) rfl rfl ?_) ?_
   ·omega
   refine Za rfl (Ym (tn rfl) rfl (row_oldU h0.base h0.F hb hc) rfl) (Xg rfl (tz rfl) ?_)
   intro b2 hb2
   refine Yd (tn rfl) rfl rfl 0 rfl rfl rfl rfl (Ze (Zc (Zb (Za rfl (Zd rfl) (Za rfl (Yb (tn rfl) rfl 0 rfl rfl) ?_)))))
   refine Xu fn195 rfl rfl 2 rfl h0.base h0.F (wrHandler_any U b m.handlers[y.1]) (by have hr := flat_room hdL m.handlers y.1 hy; simp only [List.length_append]; omega) ?_
   intro v10
   refine Ze (Zx (Zc (Zb ?_)))
   (first | (refine Za rfl (Xa rfl rfl ?_) ?_; omega) | (refine Za rfl (Yp rfl rfl ?_) ?_; omega) | refine Za rfl (Yz rfl rfl) ?_)
   refine Za rfl (Zd rfl) (Ze ?_)
   refine Yn ((y.1 + 1, v10)) ?_ (hy) 1 rfl (congrArg (wrA v10) (by rw [flat_next hdL m.handlers y.1 hy, ← List.append_assoc])) ⟨rfl, rfl, rfl, rfl, rfl, trivial⟩
   omega
  ·intro c2
   try (first | replace c2 := dFa c2 | replace c2 := Zi c2)
   refine Yx (Yw (Yo (Yv (Zc (Zf ?_)))))
   refine WC_res (congrArg (wrA _) (show _ = bs ++ headL m ++ m.code.flatMap insL ++ dl (lowS (m.handlers.length : Nat) 1) ++ m.handlers.flatMap hdL from by rw [flat_all hdL m.handlers y.1 (by omega)])) ?_
   refine Zb (Za rfl (Zd rfl) (Za rfl (Zh (ff rfl) rfl) (Za rfl (Zj (t1 rfl) rfl (Zl 0 rfl rfl)) (Za rfl (Yg (ts rfl) rfl) ?_))))
   refine Xu fn122 rfl rfl 1 rfl h0.base h0.F (wrByte_any U b (m.frames.length : Nat)) (by (try simp only [List.length_append]); omega) ?_
   intro v11
   refine Ze (Zc (Zf (Zb (Za rfl (Zh (ff rfl) rfl) (Za rfl (Zj (t1 rfl) rfl (Zl 0 rfl rfl)) ?_)))))
   refine Za rfl (Yg (ts rfl) rfl) (Za rfl (Zd rfl) (Ze (Zc (Zs (WC_res (congrArg (wrA _) (show _ = bs ++ headL m ++ m.code.flatMap insL ++ dl (lowS (m.handlers.length : Nat) 1) ++ m.handlers.flatMap hdL ++ dl (lowS (m.frames.length : Nat) 1) ++ (m.frames.take 0).flatMap frL from by simp only [List.take_zero, List.flatMap_nil, List.append_nil])) ?_)))))
   refine Xh (E' := (fun z : Nat × Value => [(0, .pointer (some ⟨b, 0, none⟩)), (3, .pointer (some ⟨b1, 0, none⟩)), (72, .slice p4 m.frames.length e4), (73, .int .i64 (m.frames.length : Nat)), (74, .int .i64 (z.1 : Nat))]) ((0, v11))) ⟨rfl, rfl, rfl, rfl, rfl, trivial⟩ (Yy (X := Nat × Value) (fun z : Nat × Value => [(0, .pointer (some ⟨b, 0, none⟩)), (3, .pointer (some ⟨b1, 0, none⟩)), (72, .slice p4 m.frames.length e4), (73, .int .i64 (m.frames.length : Nat)), (74, .int .i64 (z.1 : Nat))]) _ _ (fun z : Nat × Value => [(b1, meV m (.slice p1 m.params.length e1) (.slice p2 m.code.length e2) (.slice p3 m.handlers.length e3) (.slice p4 m.frames.length e4)), (b, [z.2])]) (fun z : Nat × Value => wrA z.2 (bs ++ headL m ++ m.code.flatMap insL ++ dl (lowS (m.handlers.length : Nat) 1) ++ m.handlers.flatMap hdL ++ dl (lowS (m.frames.length : Nat) 1) ++ (m.frames.take z.1).flatMap frL)) (fun z : Nat × Value => z.1 ≤ m.frames.length) (fun z : Nat × Value => m.frames.length - z.1) ((0, v11)) (Nat.zero_le _) ?_)
   intro z hI
   refine Zf (Zb (Za rfl (Xb rfl rfl) (Ze (Zc (Zf ?_)))))
   refine Yi rfl ?_ ?_
   ·intro c3
    try (first | replace c3 := dTr c3 | replace c3 := Zk c3)
    have hz : z.1 < m.frames.length := by omega
    obtain ⟨b', o', r, hp, hb, ⟨lv, sv, hr, hq1, hq2, -⟩, hc⟩ := hr4.out z.1 m.frames[z.1] (List.getElem?_eq_getElem hz)
    subst hp; subst hr
    obtain ⟨q1, g1, rfl, -, -⟩ := hq1.is
    obtain ⟨q2, g2, rfl, -, -⟩ := hq2.is
    refine Zw (Zc (Zf (Zs (Zf (Zb ?_)))))
    refine Za rfl (Xk (ts rfl) rfl rfl ?_) ?_
    ·omega
    refine Za rfl (Ym (tn rfl) rfl (row_oldU h0.base h0.F hb hc) rfl) (Xg rfl (tz rfl) ?_)
    intro b2 hb2
    refine Yd (tn rfl) rfl rfl 0 rfl rfl rfl rfl (Ze (Zc (Zb (Za rfl (Zd rfl) (Za rfl (Yb (tn rfl) rfl 0 rfl rfl) ?_)))))
    refine Xu fn196 rfl rfl 2 rfl h0.base h0.F (wrFrame_any U b m.frames[z.1] _ _ hq1 hq2) (by have hr := flat_room frL m.frames z.1 hz; simp only [List.length_append]; omega) ?_
    intro v12
    refine Ze (Zx (Zc (Zb ?_)))
    (first | (refine Za rfl (Xa rfl rfl ?_) ?_; omega) | (refine Za rfl (Yp rfl rfl ?_) ?_; omega) | refine Za rfl (Yz rfl rfl) ?_)
    refine Za rfl (Zd rfl) (Ze ?_)
    refine Yn ((z.1 + 1, v12)) ?_ (hz) 1 rfl (congrArg (wrA v12) (by rw [flat_next frL m.frames z.1 hz, ← List.append_assoc])) ⟨rfl, rfl, rfl, rfl, rfl, trivial⟩
    omega
   ·intro c3
    try (first | replace c3 := dFa c3 | replace c3 := Zi c3)
    refine Yx (Yw (Yo (Yv ?_)))
    refine wr_end h0 rfl (i := 1) rfl ?_
    rw [flat_all frL m.frames z.1 (by omega)]; simp only [List.append_assoc]
end Go.Proofs.YtpofmnfkdkmieaaGreat
