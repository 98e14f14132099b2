/- What is proved here: the document's own answers name, flag, oneType, types, instr, method and Bytes write what the plain functions write. -/
import Derived.Test.YtpofmnfkdkmieaaGreatQ07
import Derived.Test.YtpofmnfkdkmieaaGreatQ08
set_option linter.unusedVariables false
set_option linter.unusedSimpArgs false
namespace Go.Proofs.YtpofmnfkdkmieaaGreat
open Go.RowKit At E
def nameS (s : ByteArray) : ByteArray := lowS (s.size : Nat) 1 ++ s
def flagS (b : Bool) : ByteArray := if b then lowS 1 1 else lowS 0 1
def oneTypeS (t : Ty) : ByteArray := if t.kind = 3 then lowS 3 1 ++ nameS t.cls else lowS t.kind 1
def typesS (l : List Ty) : ByteArray := l.foldl (fun s t => s ++ oneTypeS t) (lowS (l.length : Nat) 1)
def instrS (i : Ins) : ByteArray :=
 if sortB i.op = 1 then lowS i.op 1 ++ lowS i.n 8
 else if sortB i.op = 2 then lowS i.op 1 ++ lowS i.n 1
 else if sortB i.op = 3 then lowS i.op 1 ++ lowS i.n 2
 else if sortB i.op = 4 then lowS i.op 1 ++ nameS i.ref.cls
 else if sortB i.op = 5 then lowS i.op 1 ++ nameS i.ref.cls ++ nameS i.ref.name ++ oneTypeS i.ref.ty
 else if sortB i.op = 6 then lowS i.op 1 ++ nameS i.ref.cls ++ nameS i.ref.name ++ typesS i.ref.params ++ oneTypeS i.ref.ty
 else lowS i.op 1
theorem Ya (x : Int) (k : Nat) : (lowS x k).size = k := by
 show (lowL (u64 x) k).toArray.size = k
 rw [List.size_toArray, lowL_length]
theorem Yq (s : ByteArray) : (nameS s).size = 1 + s.size := by unfold nameS; rw [ByteArray.size_append, Ya]
theorem Xw (b : Bool) : (flagS b).size = 1 := by unfold flagS; split <;> rw [Ya]
theorem oneTypeS_le (t : Ty) : (oneTypeS t).size ≤ 2 + t.cls.size := by
 unfold oneTypeS
 split
 ·rw [ByteArray.size_append, Ya, Yq]; omega
 ·rw [Ya]; omega
theorem foldl_size {α : Type} (f : α → ByteArray) (c : Nat) : ∀ (l : List α) (s : ByteArray), (∀ x ∈ l, (f x).size ≤ c) → (l.foldl (fun s x => s ++ f x) s).size ≤ s.size + l.length * c
 | [], s, _ => by simp
 | x :: r, s, h => by
  have ih := foldl_size f c r (s ++ f x) (fun y hy => h y (List.mem_cons_of_mem _ hy))
  have hx := h x List.mem_cons_self
  rw [ByteArray.size_append] at ih
  simp only [List.foldl_cons, List.length_cons, Nat.add_mul, Nat.one_mul]
  omega
theorem Xx (l : List Ty) (h : ∀ t ∈ l, t.cls.size ≤ 12) : (typesS l).size ≤ 1 + l.length * 14 := by
 have := foldl_size oneTypeS 14 l (lowS (l.length : Nat) 1) (fun t ht => by have := oneTypeS_le t; have := h t ht; omega)
 rw [Ya] at this; exact this
theorem name_any (s : ByteArray) (w : World) (hs : strOk s) : Pure Tryz.prog 97 #[.string s] w (.string (nameS s)) := by
 unfold strOk at hs
 refine opens (args := [.string s]) Tryz.func97 rfl Tryz.ntmps97 ?_
 refine Zf (Zb (Za rfl (Zg rfl) (Ze (Zc (Zf ?_)))))
 refine Zb (Za rfl (Zd rfl) (Za rfl (Ex_lenS (tstr rfl) rfl) (Xi fn98 rfl rfl (fun w _ => low_any _ 1 (by omega) w) ?_)))
 refine Za rfl (Zd rfl) (Za rfl (Ex_addS rfl rfl ?_) ?_)
 ·rw [Ya]; omega
 refine Za rfl (Zg rfl) (Ze (Zc (Zv (Yh rfl rfl ?_))))
 rfl
theorem flag_any (b : Bool) (w : World) : Pure Tryz.prog 99 #[.bool b] w (.string (flagS b)) := by
 refine opens (args := [.bool b]) Tryz.func99 rfl Tryz.ntmps99 ?_
 refine Zf (Zb (Za rfl (Zg rfl) (Ze (Zc (Zf ?_)))))
 refine Zf (Zb (Za rfl (Zd rfl) (Ze (Zc (Yi rfl ?_ ?_)))))
 ·intro c1
  try (first | replace c1 := dTr c1 | replace c1 := Zk c1)
  refine Zf (Zb (Xi fn98 rfl rfl (fun w _ => low_any 1 1 (by omega) w) ?_))
  refine Za rfl (Zg rfl) (Ze (Zc (Zv (Zq (Yh rfl rfl ?_)))))
  simp_all [flagS]
 ·intro c1
  try (first | replace c1 := dFa c1 | replace c1 := Zi c1)
  refine Zw (Zc (Zf (Zb (Xi fn98 rfl rfl (fun w _ => low_any 0 1 (by omega) w) ?_))))
  refine Za rfl (Zg rfl) (Ze (Zc (Zv (Yh rfl rfl ?_))))
  simp_all [flagS]
theorem oneType_any (t : Ty) (w : World) (ht : tyOk t) : Pure Tryz.prog 100 #[.agg (tyV t).toArray] w (.string (oneTypeS t)) := by
 have hs := ht.2
 unfold strOk at hs
 refine opens (args := [.agg (tyV t).toArray]) Tryz.func100 rfl Tryz.ntmps100 ?_
 refine Zf (Zb (WL_box rfl rfl ?_))
 intro b0 hb0
 refine Za rfl (Zg rfl) (Ze (Zc (Zf (Zf (Zb ?_)))))
 refine Za rfl (Zh (ff rfl) rfl) (Za rfl (Zj (t1 rfl) rfl (Zl 0 rfl rfl)) (Za rfl (Xc rfl rfl) (Ze (Zc (Yi rfl ?_ ?_)))))
 ·intro c1
  try (first | replace c1 := dTr c1 | replace c1 := Zk c1)
  refine Zf (WC_draw mixed (by kernel_rfl) ?_)
  refine WO_call fn98 rfl rfl (fun w _ => low_any 3 1 (by omega) w) ?_
  refine Zm rfl (Zh (ff rfl) rfl) (Zm rfl (Zj (t1 rfl) rfl (Zl 0 rfl rfl)) (WO_call fn97 rfl rfl (fun w _ => name_any _ w ht.2) ?_))
  refine Zm rfl (Ex_addS rfl rfl ?_) ?_
  ·rw [Ya, Yq]; omega
  refine Zm rfl (Zg rfl) (WO_nil (Zc (Zv (Zq (Yh rfl rfl ?_)))))
  simp_all [oneTypeS]
 ·intro c1
  try (first | replace c1 := dFa c1 | replace c1 := Zi c1)
  refine Zw (Zc (Zf (Zb (Za rfl (Zh (ff rfl) rfl) (Za rfl (Zj (t1 rfl) rfl (Zl 0 rfl rfl)) ?_)))))
  refine Xi fn98 rfl rfl (fun w _ => low_any _ 1 (by omega) w) ?_
  refine Za rfl (Zg rfl) (Ze (Zc (Zv (Yh rfl rfl ?_))))
  simp_all [oneTypeS]
theorem types_any (v : Value) (l : List Ty) (w : World) (hv : TysAt w v l) (hl20 : l.length ≤ 20) (h12 : ∀ t ∈ l, t.cls.size ≤ 12) : Pure Tryz.prog 137 #[v] w (.string (typesS l)) := by
 obtain ⟨p, c, rfl, hl, hr⟩ := hv.parts
 replace hr : Hid _ := hr
 refine opens (args := [.slice p l.length c]) Tryz.func137 rfl Tryz.ntmps137 ?_
 refine Zf (Zb (Za rfl (Zg rfl) (Ze (Zc (Zf ?_)))))
 refine Zb (Za rfl (Zd rfl) (Za rfl (Yg (ts rfl) rfl) (Xi fn98 rfl rfl (fun w _ => low_any _ 1 (by omega) w) ?_)))
 refine Za rfl (Zg rfl) (Ze (Zc (Zf (Zf (Zb ?_)))))
 refine Za rfl (Zg rfl) (Ze (Zc (Zs (Xh (E' := (fun k : Nat => [(0, .slice p l.length c), (3, .string ((l.take k).foldl (fun s t => s ++ oneTypeS t) (lowS (l.length : Nat) 1))), (4, .int .i64 (k : Nat))]) (0)) ⟨rfl, rfl, rfl, trivial⟩ (Yy (X := Nat) (fun k : Nat => [(0, .slice p l.length c), (3, .string ((l.take k).foldl (fun s t => s ++ oneTypeS t) (lowS (l.length : Nat) 1))), (4, .int .i64 (k : Nat))]) _ _ (fun k : Nat => []) (fun k : Nat => Asr.none) (fun k : Nat => k ≤ l.length) (fun k : Nat => l.length - k) (0) (Nat.zero_le _) ?_)))))
 intro k hI
 refine Zf (Zf (Zb (Za rfl (Zd rfl) (Za rfl (Zd rfl) (Za rfl (Yg (ts rfl) rfl) ?_)))))
 refine Za rfl (Xb rfl rfl) (Ze (Zc (Yi rfl ?_ ?_)))
 ·intro c1
  try (first | replace c1 := dTr c1 | replace c1 := Zk c1)
  have hk : k < l.length := by omega
  obtain ⟨b, o, hp, hb, hc⟩ := hr.out k l[k] (List.getElem?_eq_getElem hk)
  subst hp
  refine Zw (Zc (Zf (Zs (Zb (Za rfl (Zd rfl) ?_)))))
  refine Za rfl (Zd rfl) (Za rfl (Zd rfl) (Za rfl (Xk (ts rfl) rfl rfl ?_) ?_))
  ·omega
  refine Za rfl (Ym (tn rfl) rfl (Yt hc hb) rfl) (Xi fn100 rfl rfl (fun w _ => oneType_any _ w (hv.ok _ (List.getElem_mem hk))) ?_)
  refine Za rfl (Ex_addS rfl rfl ?_) ?_
  ·have h1 := foldl_size oneTypeS 14 (l.take k) (lowS (l.length : Nat) 1) (fun t ht => by have := oneTypeS_le t; have := h12 t (List.mem_of_mem_take ht); omega); have h2 := oneTypeS_le l[k]; have h3 := h12 l[k] (List.getElem_mem hk); rw [Ya, List.length_take] at h1; omega
  refine Za rfl (Zg rfl) (Ze (Zx (Zc (Zb (Za rfl (Zd rfl) ?_)))))
  (first | (refine Za rfl (Xa rfl rfl ?_) ?_; omega) | (refine Za rfl (Yp rfl rfl ?_) ?_; omega) | refine Za rfl (Yz rfl rfl) ?_)
  refine Za rfl (Zg rfl) (Ze ?_)
  refine WQ_same (s := 3) (v' := .string ((l.take (k + 1)).foldl (fun s t => s ++ oneTypeS t) (lowS (l.length : Nat) 1))) rfl (by rw [List.take_succ_eq_append_getElem hk, List.foldl_append]; rfl) ?_
  refine Yn (k + 1) ?_ (hk) 0 rfl (rfl) ⟨rfl, rfl, rfl, trivial⟩
  omega
 ·intro c1
  try (first | replace c1 := dFa c1 | replace c1 := Zi c1)
  refine Yx (Yw (Yo (Yv (Zc (Zf ?_)))))
  refine Zb (Za rfl (Zd rfl) (Za rfl (Zg rfl) (Ze (Zc (Zv ?_)))))
  refine Yh rfl rfl ?_
  rw [List.take_of_length_le (by omega)]; rfl
theorem instr_any (i : Ins) (pv : Value) (w : World) (hp : TysAt w pv i.ref.params) (hi : insOk i) (hl20 : i.ref.params.length ≤ 20) (h12 : ∀ t ∈ i.ref.params, t.cls.size ≤ 12) :
  Pure Tryz.prog 138 #[.agg (insV i pv).toArray] w (.string (instrS i)) := by
 have hs1 := hi.2.2.1
 have hs2 := hi.2.2.2.1
 have hs3 := hi.2.2.2.2.2
 unfold strOk at hs1 hs2 hs3
 have hT := Xx i.ref.params h12
 have hO := oneTypeS_le i.ref.ty
 refine opens (args := [.agg (insV i pv).toArray]) Tryz.func138 rfl Tryz.ntmps138 ?_
 refine Zf (Zb (WL_box rfl rfl ?_))
 intro b0 hb0
 refine Za rfl (Zg rfl) (Ze (Zc (Zf (Zb (Za rfl (Zh (ff rfl) rfl) ?_)))))
 refine Za rfl (Zj (t1 rfl) rfl (Zl 0 rfl rfl)) (Xi fn98 rfl rfl (fun w _ => low_any _ 1 (by omega) w) ?_)
 refine Za rfl (Zg rfl) (Ze (Zc (Zf (Zf (Zb ?_)))))
 refine Za rfl (Zh (ff rfl) rfl) (Za rfl (Zj (t1 rfl) rfl (Zl 0 rfl rfl)) (Xi fn173 rfl rfl (fun w _ => sort_any _ w) ?_))
 refine Ze (Zc (Zs (Zf (Zb (Za rfl (Xc rfl rfl) ?_)))))
 refine Za rfl (Zg rfl) (Ze (Zc (Yi rfl ?_ ?_)))
 ·intro c1
  try (first | replace c1 := dTr c1 | replace c1 := Zk c1)
  refine Zb (Za rfl (Zd rfl) (Za rfl (Zh (ff rfl) rfl) (Za rfl (Zj (t1 rfl) rfl (Zl 0 rfl rfl)) (Xi fn98 rfl rfl (fun w _ => low_any _ 8 (by omega) w) ?_))))
  refine Za rfl (Ex_addS rfl rfl ?_) ?_
  ·simp only [ByteArray.size_append, Ya, Yq]; omega
  refine Za rfl (Zg rfl) (Ze (Zx (Zc (Zf (Zb ?_)))))
  refine Za rfl (Zd rfl) (Za rfl (Zg rfl) (Ze (Zc (Zv (Yh rfl rfl ?_)))))
  simp_all [instrS]
 ·intro c1
  try (first | replace c1 := dFa c1 | replace c1 := Zi c1)
  refine Zf (Zb (Za rfl (Xc rfl rfl) (Za rfl (Zg rfl) (Ze (Zc ?_)))))
  refine Yi rfl ?_ ?_
  ·intro c2
   try (first | replace c2 := dTr c2 | replace c2 := Zk c2)
   refine Zb (Za rfl (Zd rfl) (Za rfl (Zh (ff rfl) rfl) (Za rfl (Zj (t1 rfl) rfl (Zl 0 rfl rfl)) (Xi fn98 rfl rfl (fun w _ => low_any _ 1 (by omega) w) ?_))))
   refine Za rfl (Ex_addS rfl rfl ?_) ?_
   ·simp only [ByteArray.size_append, Ya, Yq]; omega
   refine Za rfl (Zg rfl) (Ze (Zx (Zc (Zf (Zb ?_)))))
   refine Za rfl (Zd rfl) (Za rfl (Zg rfl) (Ze (Zc (Zv (Yh rfl rfl ?_)))))
   simp_all [instrS]
  ·intro c2
   try (first | replace c2 := dFa c2 | replace c2 := Zi c2)
   refine Zf (Zb (Za rfl (Xc rfl rfl) (Za rfl (Zg rfl) (Ze (Zc ?_)))))
   refine Yi rfl ?_ ?_
   ·intro c3
    try (first | replace c3 := dTr c3 | replace c3 := Zk c3)
    refine Zb (Za rfl (Zd rfl) (Za rfl (Zh (ff rfl) rfl) (Za rfl (Zj (t1 rfl) rfl (Zl 0 rfl rfl)) (Xi fn98 rfl rfl (fun w _ => low_any _ 2 (by omega) w) ?_))))
    refine Za rfl (Ex_addS rfl rfl ?_) ?_
    ·simp only [ByteArray.size_append, Ya, Yq]; omega
    refine Za rfl (Zg rfl) (Ze (Zx (Zc (Zf (Zb ?_)))))
    refine Za rfl (Zd rfl) (Za rfl (Zg rfl) (Ze (Zc (Zv (Yh rfl rfl ?_)))))
    simp_all [instrS]
   ·intro c3
    try (first | replace c3 := dFa c3 | replace c3 := Zi c3)
    refine Zf (Zb (Za rfl (Xc rfl rfl) (Za rfl (Zg rfl) (Ze (Zc ?_)))))
    refine Yi rfl ?_ ?_
    ·intro c4
     try (first | replace c4 := dTr c4 | replace c4 := Zk c4)
     refine Zb (Za rfl (Zd rfl) (Za rfl (Zh (ff rfl) rfl) (Za rfl (Zh (ff rfl) rfl) (Za rfl (Zj (t1 rfl) rfl (Zl 0 rfl rfl)) (Xi fn97 rfl rfl (fun w _ => name_any _ w hi.2.2.1) ?_)))))
     refine Za rfl (Ex_addS rfl rfl ?_) ?_
     ·simp only [ByteArray.size_append, Ya, Yq]; omega
     refine Za rfl (Zg rfl) (Ze (Zx (Zc (Zf (Zb ?_)))))
     refine Za rfl (Zd rfl) (Za rfl (Zg rfl) (Ze (Zc (Zv (Yh rfl rfl ?_)))))
     simp_all [instrS]
    ·intro c4
     try (first | replace c4 := dFa c4 | replace c4 := Zi c4)
     refine Zf (Zb (Za rfl (Xc rfl rfl) (Za rfl (Zg rfl) (Ze (Zc ?_)))))
     refine Yi rfl ?_ ?_
     ·intro c5
      try (first | replace c5 := dTr c5 | replace c5 := Zk c5)
      refine WC_draw mixed (by kernel_rfl) ?_
      refine Zm rfl (Zd rfl) (Zm rfl (Zh (ff rfl) rfl) (Zm rfl (Zh (ff rfl) rfl) (Zm rfl (Zj (t1 rfl) rfl (Zl 0 rfl rfl)) (WO_call fn97 rfl rfl (fun w _ => name_any _ w (by first | exact hi.2.2.1 | exact hi.2.2.2.1)) ?_))))
      refine Zm rfl (Ex_addS rfl rfl ?_) ?_
      ·simp only [ByteArray.size_append, Ya, Yq]; omega
      refine Zm rfl (Zh (ff rfl) rfl) (Zm rfl (Zh (ff rfl) rfl) (Zm rfl (Zj (t1 rfl) rfl (Zl 0 rfl rfl)) (WO_call fn97 rfl rfl (fun w _ => name_any _ w (by first | exact hi.2.2.1 | exact hi.2.2.2.1)) ?_)))
      refine Zm rfl (Ex_addS rfl rfl ?_) ?_
      ·simp only [ByteArray.size_append, Ya, Yq]; omega
      refine Zm rfl (Zh (ff rfl) rfl) (Zm rfl (Zh (ff rfl) rfl) (Zm rfl (Yb (tn rfl) rfl 0 rfl rfl) (WO_call fn100 rfl rfl (fun w _ => oneType_any i.ref.ty w hi.2.2.2.2) ?_)))
      refine Zm rfl (Ex_addS rfl rfl ?_) ?_
      ·simp only [ByteArray.size_append, Ya, Yq]; omega
      refine Zm rfl (Zg rfl) (WO_nil (Zx (Zc (Zf (Zb ?_)))))
      refine Za rfl (Zd rfl) (Za rfl (Zg rfl) (Ze (Zc (Zv (Yh rfl rfl ?_)))))
      simp_all [instrS]
     ·intro c5
      try (first | replace c5 := dFa c5 | replace c5 := Zi c5)
      refine Zf (Zb (Za rfl (Xc rfl rfl) (Za rfl (Zg rfl) (Ze (Zc ?_)))))
      refine Yi rfl ?_ ?_
      ·intro c6
       try (first | replace c6 := dTr c6 | replace c6 := Zk c6)
       refine WC_draw mixed (by kernel_rfl) ?_
       refine Zm rfl (Zd rfl) (Zm rfl (Zh (ff rfl) rfl) (Zm rfl (Zh (ff rfl) rfl) (Zm rfl (Zj (t1 rfl) rfl (Zl 0 rfl rfl)) (WO_call fn97 rfl rfl (fun w _ => name_any _ w (by first | exact hi.2.2.1 | exact hi.2.2.2.1)) ?_))))
       refine Zm rfl (Ex_addS rfl rfl ?_) ?_
       ·simp only [ByteArray.size_append, Ya, Yq]; omega
       refine Zm rfl (Zh (ff rfl) rfl) (Zm rfl (Zh (ff rfl) rfl) (Zm rfl (Zj (t1 rfl) rfl (Zl 0 rfl rfl)) (WO_call fn97 rfl rfl (fun w _ => name_any _ w (by first | exact hi.2.2.1 | exact hi.2.2.2.1)) ?_)))
       refine Zm rfl (Ex_addS rfl rfl ?_) ?_
       ·simp only [ByteArray.size_append, Ya, Yq]; omega
       refine Zm rfl (Zh (ff rfl) rfl) (Zm rfl (Zh (ff rfl) rfl) (Zm rfl (Zj (t1 rfl) rfl (Zl 0 rfl rfl)) (WO_call fn137 rfl rfl (fun w hs => types_any _ i.ref.params w (hp.mono (lowOf hs)) hl20 h12) ?_)))
       refine Zm rfl (Ex_addS rfl rfl ?_) ?_
       ·simp only [ByteArray.size_append, Ya, Yq]; omega
       refine Zm rfl (Zh (ff rfl) rfl) (Zm rfl (Zh (ff rfl) rfl) (Zm rfl (Yb (tn rfl) rfl 0 rfl rfl) (WO_call fn100 rfl rfl (fun w _ => oneType_any i.ref.ty w hi.2.2.2.2) ?_)))
       refine Zm rfl (Ex_addS rfl rfl ?_) ?_
       ·simp only [ByteArray.size_append, Ya, Yq]; omega
       refine Zm rfl (Zg rfl) (WO_nil (Zx (Zc (Zf (Zb ?_)))))
       refine Za rfl (Zd rfl) (Za rfl (Zg rfl) (Ze (Zc (Zv (Yh rfl rfl ?_)))))
       simp_all [instrS]
      ·intro c6
       try (first | replace c6 := dFa c6 | replace c6 := Zi c6)
       refine Zw (Zx (Zc (Zf (Zb (Za rfl (Zd rfl) ?_)))))
       refine Za rfl (Zg rfl) (Ze (Zc (Zv (Yh rfl rfl ?_))))
       simp_all [instrS]
end Go.Proofs.YtpofmnfkdkmieaaGreat
