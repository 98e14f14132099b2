/- What is proved here: the statement's own comparing finds two types, lists, references, methods, classes the same that are the same, wherever they lie. -/
import Derived.Test.YtpofmnfkdkmieaaGreatQ06
import Derived.Test.YtpofmnfkdkmieaaGreatQ26
set_option linter.unusedVariables false
set_option linter.unusedSimpArgs false
namespace Go.Proofs.YtpofmnfkdkmieaaGreat.E
open Go Go.RowKit
section
variable {P : Program} {n : Nat} {E : Env} {w0 : World} {F : List Nat} {H : Hp} {R : Asr}
theorem Ex_neqI0 {t t' : TypeId} {x y : Operand} {k : IntKind} {i : Int} (hx : ev E x = some (.int k i)) (hy : ev E y = some (.int k i)) : Ex P n E w0 F H R (.binOp .neq t x y t') (.bool false) := by
 have h := Ex_neq (P := P) (n := n) (w0 := w0) (F := F) (H := H) (R := R) (t := t) (t' := t') hx hy
 simpa using h
theorem Ex_eqlI1 {t t' : TypeId} {x y : Operand} {k : IntKind} {i : Int} (hx : ev E x = some (.int k i)) (hy : ev E y = some (.int k i)) : Ex P n E w0 F H R (.binOp .eql t x y t') (.bool true) := by
 have h := Xc (P := P) (n := n) (w0 := w0) (F := F) (H := H) (R := R) (t := t) (t' := t') hx hy
 simpa using h
theorem eqS_self (s : ByteArray) : eqS s s = true := by simp [eqS]
theorem Ex_neqS0 {t t' : TypeId} {x y : Operand} {s : ByteArray} (hx : ev E x = some (.string s)) (hy : ev E y = some (.string s)) : Ex P n E w0 F H R (.binOp .neq t x y t') (.bool false) := by
 have h := Ex_neqS (P := P) (n := n) (w0 := w0) (F := F) (H := H) (R := R) (t := t) (t' := t') hx hy
 rw [eqS_self] at h; exact h
theorem Ex_eqlS1 {t t' : TypeId} {x y : Operand} {s : ByteArray} (hx : ev E x = some (.string s)) (hy : ev E y = some (.string s)) : Ex P n E w0 F H R (.binOp .eql t x y t') (.bool true) := by
 have h := Ex_eqlS (P := P) (n := n) (w0 := w0) (F := F) (H := H) (R := R) (t := t) (t' := t') hx hy
 rw [eqS_self] at h; exact h
end
section
variable {n : Nat} {E : Env} {w0 : World} {F : List Nat} {H : Hp} {R : Asr}
theorem neqB (b : Bool) (w : World) : (do let r ← binOp .neq 4 (.bool b) (.bool b); pure (Next.value r) : Sem Next).run Tryz.prog w = .ok (.value (.bool false)) w := by cases b <;> kernel_rfl
theorem Ex_neqB0 {t' : TypeId} {x y : Operand} {b : Bool} (hx : ev E x = some (.bool b)) (hy : ev E y = some (.bool b)) : Ex Tryz.prog n E w0 F H R (.binOp .neq 4 x y t') (.bool false) := ⟨fun w _ a ha _ _ _ _ _ => by
 simp only [execOp]; rw [ha.eval hx, ha.eval hy]
 have h := neqB b w
 cases b <;> simpa [eqGuard] using h⟩
theorem Ex_neqTy0 {t' : TypeId} {x y : Operand} {a : Int} {s : ByteArray} (hx : ev E x = some (.agg #[.int .i64 a, .string s])) (hy : ev E y = some (.agg #[.int .i64 a, .string s])) : Ex Tryz.prog n E w0 F H R (.binOp .neq 71 x y t') (.bool false) := by
 have h := Ex_neqTy (n := n) (w0 := w0) (F := F) (H := H) (R := R) (t' := t') hx hy
 rw [eqS_self] at h; simpa using h
theorem Ex_eqlTy1 {t' : TypeId} {x y : Operand} {a : Int} {s : ByteArray} (hx : ev E x = some (.agg #[.int .i64 a, .string s])) (hy : ev E y = some (.agg #[.int .i64 a, .string s])) : Ex Tryz.prog n E w0 F H R (.binOp .eql 71 x y t') (.bool true) := by
 have h := Ex_eqlTy (n := n) (w0 := w0) (F := F) (H := H) (R := R) (t' := t') hx hy
 rw [eqS_self] at h; simpa using h
theorem teInt (d : Nat) (a : Int) (w : World) : (Op.equalIn (d + 1) 3 (.int .i64 a) (.int .i64 a)).run Tryz.prog w = .ok true w := by
 rw [run_equalIn_int w d 3 .i64 .i64 a a (tint rfl)]; simp
theorem teStr (d : Nat) (s : ByteArray) (w : World) : (Op.equalIn (d + 1) 9 (.string s) (.string s)).run Tryz.prog w = .ok true w := by
 rw [run_equalIn_string w d 9 s s (tstr rfl)]; simp
theorem teHd (a b c : Int) (s : ByteArray) (w : World) : (Op.equalIn 10000 169 (.agg #[.int .i64 a, .int .i64 b, .int .i64 c, .string s]) (.agg #[.int .i64 a, .int .i64 b, .int .i64 c, .string s])).run Tryz.prog w = .ok true w := by
 have hs : Tryz.prog.stoodInHeld 169 = false := by kernel_rfl
 have h3 : ∀ (w : World) (a : Int), (Op.equalIn 9999 3 (.int .i64 a) (.int .i64 a)).run Tryz.prog w = .ok true w := fun w a => teInt 9998 a w
 have h9 : ∀ w : World, (Op.equalIn 9999 9 (.string s) (.string s)).run Tryz.prog w = .ok true w := fun w => teStr 9998 s w
 have hu := Tryz.underlying169
 rw [show (10000 : Nat) = 9999 + 1 from rfl, Op.equalIn]
 simp only [Sem.run_bind, run_underlying hu, Result.andThen_ok, run_program, hs, Bool.false_eq_true, if_false]
 simp [part, isAgg, run_underlying (tint (t := 3) rfl), run_underlying (tstr (t := 9) rfl), h3, h9]
theorem Ex_neqHd0 {t' : TypeId} {x y : Operand} {a b c : Int} {s : ByteArray} (hx : ev E x = some (.agg #[.int .i64 a, .int .i64 b, .int .i64 c, .string s])) (hy : ev E y = some (.agg #[.int .i64 a, .int .i64 b, .int .i64 c, .string s])) : Ex Tryz.prog n E w0 F H R (.binOp .neq 169 x y t') (.bool false) :=
 Ex_neqN (r := true) (by kernel_rfl) hx hy (fun w => teHd a b c s w)
end
end Go.Proofs.YtpofmnfkdkmieaaGreat.E
namespace Go.Proofs.YtpofmnfkdkmieaaGreat
open Go Go.RowKit At E
theorem sameTypes_any (v v' : Value) (l : List Ty) (w : World) (hv : TysAt w v l) (hv' : TysAt w v' l) : Pure Tryz.prog 79 #[v, v'] w (.bool true) := by
 obtain ⟨p, e, rfl, hl, hr1⟩ := hv.is
 obtain ⟨p', e', rfl, hl', hr2⟩ := hv'.is
 replace hr1 : Hid _ := hr1
 replace hr2 : Hid _ := hr2
 refine opens (args := [.slice p l.length e, .slice p' l.length e']) Tryz.func79 rfl Tryz.ntmps79 ?_
 refine Zf (Zb (Za rfl (Zg rfl) (Ze (Zc (Zf ?_)))))
 refine Zf (Zb (Za rfl (Zd rfl) (Za rfl (Yg (ts rfl) rfl) (Za rfl (Zd rfl) (Za rfl (Yg (ts rfl) rfl) ?_)))))
 refine Za rfl (Ex_neqI0 rfl rfl) (Ze (Zc (WC_false rfl (Zw (Zc ?_)))))
 refine Zf (Zf (Zb (Za rfl (Zg rfl) (Ze (Zc ?_)))))
 refine Zs (Xh (E' := (fun i : Nat => [(0, .slice p l.length e), (1, .slice p' l.length e'), (5, .int .i64 (i : Nat))]) (0)) ⟨rfl, rfl, rfl, trivial⟩ (Yy (X := Nat) (fun i : Nat => [(0, .slice p l.length e), (1, .slice p' l.length e'), (5, .int .i64 (i : Nat))]) _ _ (fun i : Nat => []) (fun i : Nat => Asr.none) (fun i : Nat => i ≤ l.length) (fun i : Nat => l.length - i) (0) (Nat.zero_le _) ?_))
 intro i hI
 refine Zf (Zf (Zb (Za rfl (Zd rfl) (Za rfl (Zd rfl) (Za rfl (Yg (ts rfl) rfl) ?_)))))
 refine Za rfl (Xb rfl rfl) (Ze (Zc (Yi rfl ?_ ?_)))
 ·intro c2
  try (first | replace c2 := dTr c2 | replace c2 := Zk c2)
  have hi : i < l.length := by omega
  obtain ⟨b, o, r, hp, hb, ⟨hr, -⟩, hc⟩ := hr1.out i l[i] (List.getElem?_eq_getElem hi)
  obtain ⟨b', o', r', hp', hb', ⟨hr', -⟩, hc'⟩ := hr2.out i l[i] (List.getElem?_eq_getElem hi)
  subst hp; subst hr; subst hp'; subst hr'
  refine Zw (Zc (Zf (Zs (Zf (WC_draw mixed (by kernel_rfl) ?_)))))
  refine Zm rfl (Zd rfl) (Zm rfl (Zd rfl) (Zm rfl (Xk (ts rfl) rfl rfl ?_) ?_))
  ·omega
  (first | refine Zm rfl (Ym (tn rfl) rfl (Yt hc hb) rfl) ?_ | refine Zm rfl (Ym (tn rfl) rfl (Yt hc' hb') rfl) ?_)
  refine Zm rfl (Zd rfl) (Zm rfl (Zd rfl) (Zm rfl (Xk (ts rfl) rfl rfl ?_) ?_))
  ·omega
  (first | refine Zm rfl (Ym (tn rfl) rfl (Yt hc hb) rfl) ?_ | refine Zm rfl (Ym (tn rfl) rfl (Yt hc' hb') rfl) ?_)
  refine Zm rfl (Ex_neqTy0 rfl rfl) (WO_nil (Zc (WC_false rfl (Zw (Zx ?_)))))
  refine Zc (Zb (Za rfl (Zd rfl) ?_))
  (first | (refine Za rfl (Xa rfl rfl ?_) ?_; omega) | (refine Za rfl (Yp rfl rfl ?_) ?_; omega) | refine Za rfl (Yz rfl rfl) ?_)
  refine Za rfl (Zg rfl) (Ze ?_)
  refine Yn (i + 1) ?_ (by omega) 0 rfl (rfl) ⟨rfl, rfl, rfl, trivial⟩
  omega
 ·intro c2
  try (first | replace c2 := dFa c2 | replace c2 := Zi c2)
  refine Yx (Yw (Yo (Yv (Zc (Zf ?_)))))
  refine Zb (Za rfl (Zg rfl) (Ze (Zc (Zv (Yh rfl rfl ?_)))))
  rfl
def rfV (r : Rf) (pv : Value) : List Value := [.string r.cls, .string r.name, pv, .int .i64 r.ty.kind, .string r.ty.cls]
theorem sameRef_any (r : Rf) (pv pv' : Value) (w : World) (hv : TysAt w pv r.params) (hv' : TysAt w pv' r.params) : Pure Tryz.prog 92 #[.agg (rfV r pv).toArray, .agg (rfV r pv').toArray] w (.bool true) := by
 refine opens (args := [.agg (rfV r pv).toArray, .agg (rfV r pv').toArray]) Tryz.func92 rfl Tryz.ntmps92 ?_
 refine Zf (Zb (WL_box rfl rfl ?_))
 intro b0 hb0
 refine WL_box rfl rfl ?_
 intro b1 hb1
 refine Za rfl (Zg rfl) (Ze (Zc (Zf (Zb (Za rfl (Zh (ff rfl) rfl) ?_)))))
 refine Za rfl (Zj (t1 rfl) rfl (Zl 1 rfl rfl)) (Za rfl (Zh (ff rfl) rfl) (Za rfl (Zj (t1 rfl) rfl (Zl 0 rfl rfl)) (Xi fn79 rfl rfl (fun w hs => sameTypes_any _ _ r.params w (hv.mono (lowOf hs)) (hv'.mono (lowOf hs))) ?_)))
 refine Za rfl (Zg rfl) (Ze (Zc (Zf (Zb (Za rfl (Zd rfl) ?_)))))
 refine Za rfl (Zd rfl) (Zo rfl rfl rfl (Zh (ff rfl) rfl) (Zo rfl rfl rfl (Zj (t1 rfl) rfl (Zl 1 rfl rfl)) (Zo rfl rfl rfl (Zh (ff rfl) rfl) (Zo rfl rfl rfl (Zj (t1 rfl) rfl (Zl 0 rfl rfl)) (Zo rfl rfl rfl (Ex_eqlS1 rfl rfl) ?_)))))
 refine Za rfl (Zt rfl rfl) (Za rfl (Zd rfl) (Zo rfl rfl rfl (Zh (ff rfl) rfl) (Zo rfl rfl rfl (Zj (t1 rfl) rfl (Zl 1 rfl rfl)) (Zo rfl rfl rfl (Zh (ff rfl) rfl) (Zo rfl rfl rfl (Zj (t1 rfl) rfl (Zl 0 rfl rfl)) ?_)))))
 refine Zo rfl rfl rfl (Ex_eqlS1 rfl rfl) (Za rfl (Zt rfl rfl) (Za rfl (Zd rfl) (Zo rfl rfl rfl (Zh (ff rfl) rfl) (Zo rfl rfl rfl (Yb (tn rfl) rfl 1 rfl rfl) (Zo rfl rfl rfl (Zh (ff rfl) rfl) ?_)))))
 refine Zo rfl rfl rfl (Yb (tn rfl) rfl 0 rfl rfl) (Zo rfl rfl rfl (Ex_eqlTy1 rfl rfl) (Za rfl (Zt rfl rfl) (Za rfl (Zg rfl) (Ze (Zc ?_)))))
 refine Zv (Yh rfl rfl ?_)
 rfl
theorem sameInstrs_any (v v' : Value) (l : List Ins) (w : World) (hv : InssAt w v l) (hv' : InssAt w v' l) : Pure Tryz.prog 80 #[v, v'] w (.bool true) := by
 obtain ⟨p, e, rfl, hl, hr1⟩ := hv.is
 obtain ⟨p', e', rfl, hl', hr2⟩ := hv'.is
 replace hr1 : Hid _ := hr1
 replace hr2 : Hid _ := hr2
 refine opens (args := [.slice p l.length e, .slice p' l.length e']) Tryz.func80 rfl Tryz.ntmps80 ?_
 refine Zf (Zb (Za rfl (Zg rfl) (Ze (Zc (Zf ?_)))))
 refine Zf (Zb (Za rfl (Zd rfl) (Za rfl (Yg (ts rfl) rfl) (Za rfl (Zd rfl) (Za rfl (Yg (ts rfl) rfl) ?_)))))
 refine Za rfl (Ex_neqI0 rfl rfl) (Ze (Zc (WC_false rfl (Zw (Zc ?_)))))
 refine Zf (Zf (Zb (Za rfl (Zg rfl) (Ze (Zc ?_)))))
 refine Zs (Xh (E' := (fun i : Nat => [(0, .slice p l.length e), (1, .slice p' l.length e'), (5, .int .i64 (i : Nat))]) (0)) ⟨rfl, rfl, rfl, trivial⟩ (Yy (X := Nat) (fun i : Nat => [(0, .slice p l.length e), (1, .slice p' l.length e'), (5, .int .i64 (i : Nat))]) _ _ (fun i : Nat => []) (fun i : Nat => Asr.none) (fun i : Nat => i ≤ l.length) (fun i : Nat => l.length - i) (0) (Nat.zero_le _) ?_))
 intro i hI
 refine Zf (Zf (Zb (Za rfl (Zd rfl) (Za rfl (Zd rfl) (Za rfl (Yg (ts rfl) rfl) ?_)))))
 refine Za rfl (Xb rfl rfl) (Ze (Zc (Yi rfl ?_ ?_)))
 ·intro c2
  try (first | replace c2 := dTr c2 | replace c2 := Zk c2)
  have hi : i < l.length := by omega
  obtain ⟨b, o, r, hp, hb, ⟨pv, hr, hpv, -⟩, hc⟩ := hr1.out i l[i] (List.getElem?_eq_getElem hi)
  obtain ⟨b', o', r', hp', hb', ⟨pv', hr', hpv', -⟩, hc'⟩ := hr2.out i l[i] (List.getElem?_eq_getElem hi)
  subst hp; subst hr; subst hp'; subst hr'
  refine Zw (Zc (Zf (Zs (Zf (WC_draw mixed (by kernel_rfl) ?_)))))
  refine Zm rfl (Zd rfl) (Zm rfl (Zd rfl) (Zm rfl (Xk (ts rfl) rfl rfl ?_) ?_))
  ·omega
  refine Zm rfl (Zh (ff rfl) rfl) ?_
  (first | refine Zm rfl (Ym (tn rfl) rfl (Yt (sub_row hc 2 5) hb) rfl) ?_ | refine Zm rfl (Ym (tn rfl) rfl (Yt (sub_row hc' 2 5) hb') rfl) ?_)
  refine Zm rfl (Zd rfl) (Zm rfl (Zd rfl) (Zm rfl (Xk (ts rfl) rfl rfl ?_) ?_))
  ·omega
  refine Zm rfl (Zh (ff rfl) rfl) ?_
  (first | refine Zm rfl (Ym (tn rfl) rfl (Yt (sub_row hc 2 5) hb) rfl) ?_ | refine Zm rfl (Ym (tn rfl) rfl (Yt (sub_row hc' 2 5) hb') rfl) ?_)
  refine WO_call fn92 rfl rfl (fun w hs => sameRef_any l[i].ref pv pv' w (hpv.mono (lowOf hs)) (hpv'.mono (lowOf hs))) ?_
  refine Zm rfl (Zg rfl) (WO_nil (Zc (Zf (WC_draw mixed (by kernel_rfl) ?_))))
  refine Zm rfl (Zd rfl) (Zm rfl (Ex_not rfl) (Zm rfl (Zd rfl) (Yf rfl rfl rfl (Zd rfl) (Yf rfl rfl rfl (Zd rfl) (Yf rfl rfl rfl (Xk (ts rfl) rfl rfl ?_) ?_)))))
  ·omega
  refine Yf rfl rfl rfl (Zh (ff rfl) rfl) ?_
  (first | refine Yf rfl rfl rfl (Zj (t1 rfl) rfl (Zn (hc 0 _ rfl) hb)) ?_ | refine Yf rfl rfl rfl (Zj (t1 rfl) rfl (Zn (hc' 0 _ rfl) hb')) ?_ | refine Yf rfl rfl rfl (Zj (t1 rfl) rfl (Zn (hc 1 _ rfl) hb)) ?_ | refine Yf rfl rfl rfl (Zj (t1 rfl) rfl (Zn (hc' 1 _ rfl) hb')) ?_)
  refine Yf rfl rfl rfl (Zd rfl) (Yf rfl rfl rfl (Zd rfl) (Yf rfl rfl rfl (Xk (ts rfl) rfl rfl ?_) ?_))
  ·omega
  refine Yf rfl rfl rfl (Zh (ff rfl) rfl) ?_
  (first | refine Yf rfl rfl rfl (Zj (t1 rfl) rfl (Zn (hc 0 _ rfl) hb)) ?_ | refine Yf rfl rfl rfl (Zj (t1 rfl) rfl (Zn (hc' 0 _ rfl) hb')) ?_ | refine Yf rfl rfl rfl (Zj (t1 rfl) rfl (Zn (hc 1 _ rfl) hb)) ?_ | refine Yf rfl rfl rfl (Zj (t1 rfl) rfl (Zn (hc' 1 _ rfl) hb')) ?_)
  refine Yf rfl rfl rfl (Ex_neqI0 rfl rfl) (Zm rfl (Zz rfl rfl) (Zm rfl (Zd rfl) (Yf rfl rfl rfl (Zd rfl) (Yf rfl rfl rfl (Zd rfl) (Yf rfl rfl rfl (Xk (ts rfl) rfl rfl ?_) ?_)))))
  ·omega
  refine Yf rfl rfl rfl (Zh (ff rfl) rfl) ?_
  (first | refine Yf rfl rfl rfl (Zj (t1 rfl) rfl (Zn (hc 0 _ rfl) hb)) ?_ | refine Yf rfl rfl rfl (Zj (t1 rfl) rfl (Zn (hc' 0 _ rfl) hb')) ?_ | refine Yf rfl rfl rfl (Zj (t1 rfl) rfl (Zn (hc 1 _ rfl) hb)) ?_ | refine Yf rfl rfl rfl (Zj (t1 rfl) rfl (Zn (hc' 1 _ rfl) hb')) ?_)
  refine Yf rfl rfl rfl (Zd rfl) (Yf rfl rfl rfl (Zd rfl) (Yf rfl rfl rfl (Xk (ts rfl) rfl rfl ?_) ?_))
  ·omega
  refine Yf rfl rfl rfl (Zh (ff rfl) rfl) ?_
  (first | refine Yf rfl rfl rfl (Zj (t1 rfl) rfl (Zn (hc 0 _ rfl) hb)) ?_ | refine Yf rfl rfl rfl (Zj (t1 rfl) rfl (Zn (hc' 0 _ rfl) hb')) ?_ | refine Yf rfl rfl rfl (Zj (t1 rfl) rfl (Zn (hc 1 _ rfl) hb)) ?_ | refine Yf rfl rfl rfl (Zj (t1 rfl) rfl (Zn (hc' 1 _ rfl) hb')) ?_)
  refine Yf rfl rfl rfl (Ex_neqI0 rfl rfl) (Zm rfl (Zz rfl rfl) (WO_nil (Zc (WC_false rfl (Zw ?_)))))
  refine Zx (Zc (Zb (Za rfl (Zd rfl) ?_)))
  (first | (refine Za rfl (Xa rfl rfl ?_) ?_; omega) | (refine Za rfl (Yp rfl rfl ?_) ?_; omega) | refine Za rfl (Yz rfl rfl) ?_)
  refine Za rfl (Zg rfl) (Ze ?_)
  refine Yn (i + 1) ?_ (by omega) 0 rfl (rfl) ⟨rfl, rfl, rfl, trivial⟩
  omega
 ·intro c2
  try (first | replace c2 := dFa c2 | replace c2 := Zi c2)
  refine Yx (Yw (Yo (Yv (Zc (Zf ?_)))))
  refine Zb (Za rfl (Zg rfl) (Ze (Zc (Zv (Yh rfl rfl ?_)))))
  rfl
set_option maxHeartbeats 2000000 in
theorem sameMethod_any (m : Me) (pv cv hv fv pv' cv' hv' fv' : Value) (w : World) (hm : MeParts w m pv cv hv fv) (hm' : MeParts w m pv' cv' hv' fv') :
  Pure Tryz.prog 53 #[.agg (meV m pv cv hv fv).toArray, .agg (meV m pv' cv' hv' fv').toArray] w (.bool true) := by
 obtain ⟨p3, e3, rfl, hl3, hr3⟩ := hm.hs.is
 obtain ⟨p4, e4, rfl, hl4, hr4⟩ := hm.fs.is
 obtain ⟨q3, d3, rfl, -, hs3⟩ := hm'.hs.is
 obtain ⟨q4, d4, rfl, -, hs4⟩ := hm'.fs.is
 replace hr3 : Hid _ := hr3
 replace hr4 : Hid _ := hr4
 replace hs3 : Hid _ := hs3
 replace hs4 : Hid _ := hs4
 refine opens (args := [.agg (meV m pv cv (.slice p3 m.handlers.length e3) (.slice p4 m.frames.length e4)).toArray, .agg (meV m pv' cv' (.slice q3 m.handlers.length d3) (.slice q4 m.frames.length d4)).toArray]) Tryz.func53 rfl Tryz.ntmps53 ?_
 refine Zf (Zb (WL_box rfl rfl ?_))
 intro b0 hb0
 refine WL_box rfl rfl ?_
 intro b1 hb1
 refine Za rfl (Zg rfl) (Ze (Zc (Zf (Zb (Za rfl (Zh (ff rfl) rfl) ?_)))))
 refine Za rfl (Zj (t1 rfl) rfl (Zl 1 rfl rfl)) (Za rfl (Zh (ff rfl) rfl) (Za rfl (Zj (t1 rfl) rfl (Zl 0 rfl rfl)) (Xi fn79 rfl rfl (fun w hs => sameTypes_any _ _ m.params w (hm.ps.mono (lowOf hs)) (hm'.ps.mono (lowOf hs))) ?_)))
 refine Za rfl (Zg rfl) (Ze (Zc (Zf (Zb (Za rfl (Zh (ff rfl) rfl) ?_)))))
 refine Za rfl (Zj (t1 rfl) rfl (Zl 1 rfl rfl)) (Za rfl (Zh (ff rfl) rfl) (Za rfl (Zj (t1 rfl) rfl (Zl 0 rfl rfl)) (Xi fn80 rfl rfl (fun w hs => sameInstrs_any _ _ m.code w (hm.cs.mono (lowOf hs)) (hm'.cs.mono (lowOf hs))) ?_)))
 refine Za rfl (Zg rfl) (Ze (Zc (Zf (Zf (Zb ?_)))))
 refine Za rfl (Zd rfl) (Za rfl (Ex_not rfl) (Za rfl (Zd rfl) (Zo rfl rfl rfl (Zd rfl) (Zo rfl rfl rfl (Ex_not rfl) (Za rfl (Zz rfl rfl) ?_)))))
 refine Za rfl (Zd rfl) (Zo rfl rfl rfl (Zh (ff rfl) rfl) (Zo rfl rfl rfl (Zj (t1 rfl) rfl (Zl 1 rfl rfl)) (Zo rfl rfl rfl (Zh (ff rfl) rfl) (Zo rfl rfl rfl (Zj (t1 rfl) rfl (Zl 0 rfl rfl)) (Zo rfl rfl rfl (Ex_neqS0 rfl rfl) ?_)))))
 refine Za rfl (Zz rfl rfl) (Za rfl (Zd rfl) (Zo rfl rfl rfl (Zh (ff rfl) rfl) (Zo rfl rfl rfl (Zj (t1 rfl) rfl (Zl 1 rfl rfl)) (Zo rfl rfl rfl (Zh (ff rfl) rfl) (Zo rfl rfl rfl (Zj (t1 rfl) rfl (Zl 0 rfl rfl)) ?_)))))
 refine Zo rfl rfl rfl (Ex_neqB0 rfl rfl) (Za rfl (Zz rfl rfl) (Za rfl (Zd rfl) (Zo rfl rfl rfl (Zh (ff rfl) rfl) (Zo rfl rfl rfl (Yb (tn rfl) rfl 1 rfl rfl) (Zo rfl rfl rfl (Zh (ff rfl) rfl) ?_)))))
 refine Zo rfl rfl rfl (Yb (tn rfl) rfl 0 rfl rfl) (Zo rfl rfl rfl (Ex_neqTy0 rfl rfl) (Za rfl (Zz rfl rfl) (Za rfl (Zd rfl) (Zo rfl rfl rfl (Zh (ff rfl) rfl) (Zo rfl rfl rfl (Zj (t1 rfl) rfl (Zl 1 rfl rfl)) ?_)))))
 refine Zo rfl rfl rfl (Zh (ff rfl) rfl) (Zo rfl rfl rfl (Zj (t1 rfl) rfl (Zl 0 rfl rfl)) (Zo rfl rfl rfl (Ex_neqI0 rfl rfl) (Za rfl (Zz rfl rfl) (Za rfl (Zd rfl) (Zo rfl rfl rfl (Zh (ff rfl) rfl) ?_)))))
 refine Zo rfl rfl rfl (Zj (t1 rfl) rfl (Zl 1 rfl rfl)) (Zo rfl rfl rfl (Zh (ff rfl) rfl) (Zo rfl rfl rfl (Zj (t1 rfl) rfl (Zl 0 rfl rfl)) (Zo rfl rfl rfl (Ex_neqI0 rfl rfl) (Za rfl (Zz rfl rfl) (Za rfl (Zd rfl) ?_)))))
 refine Zo rfl rfl rfl (Zh (ff rfl) rfl) (Zo rfl rfl rfl (Zj (t1 rfl) rfl (Zl 1 rfl rfl)) (Zo rfl rfl rfl (Yg (ts rfl) rfl) (Zo rfl rfl rfl (Zh (ff rfl) rfl) (Zo rfl rfl rfl (Zj (t1 rfl) rfl (Zl 0 rfl rfl)) (Zo rfl rfl rfl (Yg (ts rfl) rfl) ?_)))))
 refine Zo rfl rfl rfl (Ex_neqI0 rfl rfl) (Za rfl (Zz rfl rfl) (Za rfl (Zd rfl) (Zo rfl rfl rfl (Zh (ff rfl) rfl) (Zo rfl rfl rfl (Zj (t1 rfl) rfl (Zl 1 rfl rfl)) (Zo rfl rfl rfl (Yg (ts rfl) rfl) ?_)))))
 refine Zo rfl rfl rfl (Zh (ff rfl) rfl) (Zo rfl rfl rfl (Zj (t1 rfl) rfl (Zl 0 rfl rfl)) (Zo rfl rfl rfl (Yg (ts rfl) rfl) (Zo rfl rfl rfl (Ex_neqI0 rfl rfl) (Za rfl (Zz rfl rfl) (Ze ?_)))))
 refine Zc (WC_false rfl (Zw (Zc (Zf (Zf ?_)))))
 refine Zb (Za rfl (Zg rfl) (Ze (Zc (Zs (Xh (E' := (fun i : Nat => [(2, .pointer (some ⟨b0, 0, none⟩)), (3, .pointer (some ⟨b1, 0, none⟩)), (7, .int .i64 (i : Nat))]) (0)) ⟨rfl, rfl, rfl, trivial⟩ (Yy (X := Nat) (fun i : Nat => [(2, .pointer (some ⟨b0, 0, none⟩)), (3, .pointer (some ⟨b1, 0, none⟩)), (7, .int .i64 (i : Nat))]) _ _ (fun i : Nat => [(b1, meV m pv' cv' (.slice q3 m.handlers.length d3) (.slice q4 m.frames.length d4)), (b0, meV m pv cv (.slice p3 m.handlers.length e3) (.slice p4 m.frames.length e4))]) (fun i : Nat => Asr.none) (fun i : Nat => i ≤ m.handlers.length) (fun i : Nat => m.handlers.length - i) (0) (Nat.zero_le _) ?_))))))
 intro i hI
 refine Zf (Zf (Zb (Za rfl (Zd rfl) (Za rfl (Zh (ff rfl) rfl) (Za rfl (Zj (t1 rfl) rfl (Zl 1 rfl rfl)) ?_)))))
 refine Za rfl (Yg (ts rfl) rfl) (Za rfl (Xb rfl rfl) (Ze (Zc (Yi rfl ?_ ?_))))
 ·intro c2
  try (first | replace c2 := dTr c2 | replace c2 := Zk c2)
  have hi : i < m.handlers.length := by omega
  obtain ⟨b, o, r, hp, hb, ⟨hr, -⟩, hc⟩ := hr3.out i m.handlers[i] (List.getElem?_eq_getElem hi)
  obtain ⟨b', o', r', hp', hb', ⟨hr', -⟩, hc'⟩ := hs3.out i m.handlers[i] (List.getElem?_eq_getElem hi)
  subst hp; subst hr; subst hp'; subst hr'
  refine Zw (Zc (Zf (Zs (Zf (WC_draw mixed (by kernel_rfl) ?_)))))
  refine Zm rfl (Zh (ff rfl) rfl) (Zm rfl (Zj (t1 rfl) rfl (Zl 1 rfl rfl)) (Zm rfl (Zd rfl) (Zm rfl (Xk (ts rfl) rfl rfl ?_) ?_)))
  ·omega
  (first | refine Zm rfl (Ym (tn rfl) rfl (Yt hc hb) rfl) ?_ | refine Zm rfl (Ym (tn rfl) rfl (Yt hc' hb') rfl) ?_)
  refine Zm rfl (Zh (ff rfl) rfl) (Zm rfl (Zj (t1 rfl) rfl (Zl 0 rfl rfl)) (Zm rfl (Zd rfl) (Zm rfl (Xk (ts rfl) rfl rfl ?_) ?_)))
  ·omega
  (first | refine Zm rfl (Ym (tn rfl) rfl (Yt hc hb) rfl) ?_ | refine Zm rfl (Ym (tn rfl) rfl (Yt hc' hb') rfl) ?_)
  refine Zm rfl (Ex_neqHd0 rfl rfl) (WO_nil (Zc (WC_false rfl (Zw (Zx ?_)))))
  refine Zc (Zb (Za rfl (Zd rfl) ?_))
  (first | (refine Za rfl (Xa rfl rfl ?_) ?_; omega) | (refine Za rfl (Yp rfl rfl ?_) ?_; omega) | refine Za rfl (Yz rfl rfl) ?_)
  refine Za rfl (Zg rfl) (Ze ?_)
  refine Yn (i + 1) ?_ (by omega) 0 rfl (rfl) ⟨rfl, rfl, rfl, trivial⟩
  omega
 ·intro c2
  try (first | replace c2 := dFa c2 | replace c2 := Zi c2)
  refine Yx (Yw (Yo (Yv (Zc (Zf ?_)))))
  refine Zf (Zb (Za rfl (Zg rfl) (Ze (Zc (Zs ?_)))))
  refine Xh (E' := (fun k : Nat => [(2, .pointer (some ⟨b0, 0, none⟩)), (3, .pointer (some ⟨b1, 0, none⟩)), (8, .int .i64 (k : Nat))]) (0)) ⟨rfl, rfl, rfl, trivial⟩ (Yy (X := Nat) (fun k : Nat => [(2, .pointer (some ⟨b0, 0, none⟩)), (3, .pointer (some ⟨b1, 0, none⟩)), (8, .int .i64 (k : Nat))]) _ _ (fun k : Nat => [(b1, meV m pv' cv' (.slice q3 m.handlers.length d3) (.slice q4 m.frames.length d4)), (b0, meV m pv cv (.slice p3 m.handlers.length e3) (.slice p4 m.frames.length e4))]) (fun k : Nat => Asr.none) (fun k : Nat => k ≤ m.frames.length) (fun k : Nat => m.frames.length - k) (0) (Nat.zero_le _) ?_)
  intro k hI
  refine Zf (Zf (Zb (Za rfl (Zd rfl) (Za rfl (Zh (ff rfl) rfl) (Za rfl (Zj (t1 rfl) rfl (Zl 1 rfl rfl)) ?_)))))
  refine Za rfl (Yg (ts rfl) rfl) (Za rfl (Xb rfl rfl) (Ze (Zc (Yi rfl ?_ ?_))))
  ·intro c4
   try (first | replace c4 := dTr c4 | replace c4 := Zk c4)
   have hk : k < m.frames.length := by omega
   obtain ⟨b, o, r, hp, hb, ⟨lv, sv, hr, hlv, hsv, -⟩, hc⟩ := hr4.out k m.frames[k] (List.getElem?_eq_getElem hk)
   obtain ⟨b', o', r', hp', hb', ⟨lv', sv', hr', hlv', hsv', -⟩, hc'⟩ := hs4.out k m.frames[k] (List.getElem?_eq_getElem hk)
   subst hp; subst hr; subst hp'; subst hr'
   refine Zw (Zc (Zf (Zs (Zf (WC_draw mixed (by kernel_rfl) ?_)))))
   refine Zm rfl (Zh (ff rfl) rfl) (Zm rfl (Zj (t1 rfl) rfl (Zl 1 rfl rfl)) (Zm rfl (Zd rfl) (Zm rfl (Xk (ts rfl) rfl rfl ?_) ?_)))
   ·omega
   refine Zm rfl (Zh (ff rfl) rfl) ?_
   (first | refine Zm rfl (Zj (t1 rfl) rfl (Zn (hc 1 _ rfl) hb)) ?_ | refine Zm rfl (Zj (t1 rfl) rfl (Zn (hc' 1 _ rfl) hb')) ?_)
   refine Zm rfl (Zh (ff rfl) rfl) (Zm rfl (Zj (t1 rfl) rfl (Zl 0 rfl rfl)) (Zm rfl (Zd rfl) (Zm rfl (Xk (ts rfl) rfl rfl ?_) ?_)))
   ·omega
   refine Zm rfl (Zh (ff rfl) rfl) ?_
   (first | refine Zm rfl (Zj (t1 rfl) rfl (Zn (hc 1 _ rfl) hb)) ?_ | refine Zm rfl (Zj (t1 rfl) rfl (Zn (hc' 1 _ rfl) hb')) ?_)
   refine WO_call fn79 rfl rfl (fun w hs => sameTypes_any _ _ m.frames[k].locals w (hlv.mono (lowOf hs)) (hlv'.mono (lowOf hs))) ?_
   refine Zm rfl (Zg rfl) (WO_nil (Zc (Zf (WC_draw mixed (by kernel_rfl) ?_))))
   refine Zm rfl (Zh (ff rfl) rfl) (Zm rfl (Zj (t1 rfl) rfl (Zl 1 rfl rfl)) (Zm rfl (Zd rfl) (Zm rfl (Xk (ts rfl) rfl rfl ?_) ?_)))
   ·omega
   refine Zm rfl (Zh (ff rfl) rfl) ?_
   (first | refine Zm rfl (Zj (t1 rfl) rfl (Zn (hc 2 _ rfl) hb)) ?_ | refine Zm rfl (Zj (t1 rfl) rfl (Zn (hc' 2 _ rfl) hb')) ?_)
   refine Zm rfl (Zh (ff rfl) rfl) (Zm rfl (Zj (t1 rfl) rfl (Zl 0 rfl rfl)) (Zm rfl (Zd rfl) (Zm rfl (Xk (ts rfl) rfl rfl ?_) ?_)))
   ·omega
   refine Zm rfl (Zh (ff rfl) rfl) ?_
   (first | refine Zm rfl (Zj (t1 rfl) rfl (Zn (hc 2 _ rfl) hb)) ?_ | refine Zm rfl (Zj (t1 rfl) rfl (Zn (hc' 2 _ rfl) hb')) ?_)
   refine WO_call fn79 rfl rfl (fun w hs => sameTypes_any _ _ m.frames[k].stack w (hsv.mono (lowOf hs)) (hsv'.mono (lowOf hs))) ?_
   refine Zm rfl (Zg rfl) (WO_nil (Zc (Zf (WC_draw mixed (by kernel_rfl) ?_))))
   refine Zm rfl (Zd rfl) (Zm rfl (Ex_not rfl) (Zm rfl (Zd rfl) (Yf rfl rfl rfl (Zd rfl) (Yf rfl rfl rfl (Ex_not rfl) (Zm rfl (Zz rfl rfl) ?_)))))
   refine Zm rfl (Zd rfl) (Yf rfl rfl rfl (Zh (ff rfl) rfl) (Yf rfl rfl rfl (Zj (t1 rfl) rfl (Zl 1 rfl rfl)) (Yf rfl rfl rfl (Zd rfl) (Yf rfl rfl rfl (Xk (ts rfl) rfl rfl ?_) ?_))))
   ·omega
   refine Yf rfl rfl rfl (Zh (ff rfl) rfl) ?_
   (first | refine Yf rfl rfl rfl (Zj (t1 rfl) rfl (Zn (hc 0 _ rfl) hb)) ?_ | refine Yf rfl rfl rfl (Zj (t1 rfl) rfl (Zn (hc' 0 _ rfl) hb')) ?_)
   refine Yf rfl rfl rfl (Zh (ff rfl) rfl) (Yf rfl rfl rfl (Zj (t1 rfl) rfl (Zl 0 rfl rfl)) (Yf rfl rfl rfl (Zd rfl) (Yf rfl rfl rfl (Xk (ts rfl) rfl rfl ?_) ?_)))
   ·omega
   refine Yf rfl rfl rfl (Zh (ff rfl) rfl) ?_
   (first | refine Yf rfl rfl rfl (Zj (t1 rfl) rfl (Zn (hc 0 _ rfl) hb)) ?_ | refine Yf rfl rfl rfl (Zj (t1 rfl) rfl (Zn (hc' 0 _ rfl) hb')) ?_)
   refine Yf rfl rfl rfl (Ex_neqI0 rfl rfl) (Zm rfl (Zz rfl rfl) (WO_nil (Zc (WC_false rfl (Zw ?_)))))
   refine Zx (Zc (Zb (Za rfl (Zd rfl) ?_)))
   (first | (refine Za rfl (Xa rfl rfl ?_) ?_; omega) | (refine Za rfl (Yp rfl rfl ?_) ?_; omega) | refine Za rfl (Yz rfl rfl) ?_)
   refine Za rfl (Zg rfl) (Ze ?_)
   refine Yn (k + 1) ?_ (by omega) 0 rfl (rfl) ⟨rfl, rfl, rfl, trivial⟩
   omega
  ·intro c4
   try (first | replace c4 := dFa c4 | replace c4 := Zi c4)
   refine Yx (Yw (Yo (Yv (Zc (Zf ?_)))))
   refine Zb (Za rfl (Zg rfl) (Ze (Zc (Zv (Yh rfl rfl ?_)))))
   rfl
end Go.Proofs.YtpofmnfkdkmieaaGreat
