/- What is proved here: rules for functions that hand back memory of their own, for results that lie in cells, for a function that defers one closure and is caught by it. -/
import Derived.Test.YtpofmnfkdkmieaaGreatQ03
import Derived.Defers
import Derived.Recover
set_option linter.unusedVariables false
set_option linter.unusedSimpArgs false
namespace Go.Proofs.YtpofmnfkdkmieaaGreat.E
open Go Go.RowKit

theorem below_then {u w w' : World} (h : Below u.heap.size u w) (k : Below w.heap.size w w') : Below u.heap.size u w' :=
  ⟨k.os.trans h.os, k.tape.trans h.tape, k.output.trans h.output, Nat.le_trans h.size k.size, fun i hi => (k.block i (Nat.lt_of_lt_of_le hi h.size)).trans (h.block i hi)⟩
def FnZ (w : World) (ok : Value → Asr → Prop) (may : Prop) : Ending → World → Prop := fun e w' =>
  (∃ v R', e = .returned v ∧ ok v R' ∧ Sat w [] [] R' w') ∨ (may ∧ e = .panicked errC ∧ Below w.heap.size w w')
def FnP (P : Program) (f : FuncId) (args : Array Value) (w : World) (ok : Value → Asr → Prop) (may : Prop) : Prop := Calls P f args w (FnZ w ok may)
theorem fn_then {w0 w w' : World} {F : List Nat} {H : Hp} {R R' : Asr} (hs : Sat w0 F H R w) (hw : Sat w [] [] R' w') : Sat w0 F H (R'.and R) w' := by
  have hb := hw.low.below
  have hk := hs.keep hb
  have hnew : ∀ k ∈ R'.S, w.heap.size ≤ k ∧ k < w'.heap.size := fun k hk => ⟨(hw.rhi k hk).1.elim (fun h => by cases h) id, (hw.rhi k hk).2⟩
  refine ⟨hk.low, hk.own, hk.hi, hk.apart, ⟨hw.res, hk.res, ?_⟩, ?_, ?_⟩
  · intro k h1 h2
    have := (hnew k h1).1
    have := (hs.rhi k h2).2
    omega
  · intro k hm
    rcases List.mem_append.1 hm with hm | hm
    · exact ⟨.inr (Nat.le_trans hs.low.size (hnew k hm).1), (hnew k hm).2⟩
    · exact hk.rhi k hm
  · intro p hp hm
    rcases List.mem_append.1 hm with hm | hm
    · have := (hnew _ hm).1
      have := hs.lt hp
      omega
    · exact hk.rapart p hp hm
theorem Sat.bare {w0 w : World} {F : List Nat} {H : Hp} {R : Asr} (hs : Sat w0 F H R w) : Sat w0 F [] R w :=
  ⟨hs.low, (fun p hp => by cases hp), (fun p hp => by cases hp), List.nodup_nil, hs.res, hs.rhi, (fun p hp => by cases hp)⟩
section
variable {P : Program} {n : Nat} {E : Env} {w0 : World} {F : List Nat} {H : Hp} {R : Asr} {fn : Func} {Z : Ending → World → Prop} {κ : List Kf}
theorem WL_callF {all : Array Oper} {l : List Oper} {d f : Nat} {xs : List Operand} {vs : List Value} {ts : Array TypeId} {t : TypeId} {p : String} {e : Array Edge} {ok : Value → Asr → Prop} {may : Prop} (hf : IsFn P f)
    (hd : Nat.blt d n = true) (hx : args E xs = some vs) (hc : ∀ w, Sat w0 F H R w → FnP P f vs.toArray w ok may) (hn : may → WQ P n (.panic errC) E w0 F H R fn Z κ)
    (h : ∀ v R', ok v R' → WL P n all l ((d, v) :: E) w0 F H (R'.and R) fn Z κ) :
    WL P n all (⟨some d, .call ⟨.value (.func f), xs.toArray, ts⟩, t, p, e, none⟩ :: l) E w0 F H R fn Z κ :=
  ⟨fun w hs a ha => wpList_plain rfl fun K hK => by
    unfold Oper.wp; rw [run_call rfl hf, args_map ha xs vs hx]
    refine Calls.mono (hc w hs) ?_
    rintro e w' (⟨v, R', rfl, hok, hw⟩ | ⟨hm, rfl, hb⟩)
    · exact hK _ _ ((h v R' hok).go w' (fn_then hs hw) _ (ha.put hd _))
    · exact (hn hm).go w' (hs.keep hb) _ ha⟩
theorem WL_callQ {all : Array Oper} {l : List Oper} {d f : Nat} {xs : List Operand} {vs : List Value} {ts : Array TypeId} {t : TypeId} {p : String} {e : Array Edge} {o : Option Value} (hf : IsFn P f)
    (hd : Nat.blt d n = true) (hx : args E xs = some vs) (hc : ∀ w, Sat w0 F H R w → PureQ P f vs.toArray w o) (hn : o = none → WQ P n (.panic errC) E w0 F H R fn Z κ)
    (h : ∀ v, o = some v → WL P n all l ((d, v) :: E) w0 F H R fn Z κ) :
    WL P n all (⟨some d, .call ⟨.value (.func f), xs.toArray, ts⟩, t, p, e, none⟩ :: l) E w0 F H R fn Z κ :=
  ⟨fun w hs a ha => wpList_plain rfl fun K hK => by
    unfold Oper.wp; rw [run_call rfl hf, args_map ha xs vs hx]
    refine Calls.mono (hc w hs) ?_
    rintro e w' ⟨⟨v, hv, rfl⟩ | ⟨hv, rfl⟩, hb⟩
    · exact hK _ _ ((h v hv).go w' (hs.keep hb) _ (ha.put hd _))
    · exact (hn hv).go w' (hs.keep hb) _ ha⟩
theorem FnP.of_Q {f : FuncId} {args : Array Value} {w : World} {o : Option Value} (h : PureQ P f args w o) : FnP P f args w (fun v R' => o = some v ∧ R' = Asr.none) (o = none) := by
  refine Calls.mono h ?_
  rintro e w' ⟨⟨v, hv, rfl⟩ | ⟨hv, rfl⟩, hb⟩
  · exact .inl ⟨v, Asr.none, rfl, ⟨hv, rfl⟩, (Sat.first w []).keep hb⟩
  · exact .inr ⟨hv, rfl, hb⟩

theorem Ex_cap {g : Nat} {x : Operand} {v : Value} (hx : ev E x = some v) : Ex P n E w0 F H R (.makeFunc (.func g) #[] #[x]) (.func (.func g) #[] #[v]) := ⟨fun w _ a ha _ _ _ _ _ => by
  simp only [execOp]
  simp [ha.eval hx, Instr.makeFunc]⟩
structure Res (P : Program) (n : Nat) (E : Env) (w0 : World) (F : List Nat) (H : Hp) (R : Asr) (fn : Func) (v : Value) : Prop where
  go : ∀ w, Sat w0 F H R w → ∀ a : Act, Ag n a E → (results fn a.tmps).run P w = .ok v w
def rvIs (P : Program) (a : Act) (w : World) (v : Value) : ResultVar → Prop
  | .tmp t => a.tmps.getD t undef = v
  | .cell x t => ∃ b, a.tmps.getD x undef = .pointer (some b) ∧ (loadVar t b).run P w = .ok v w
structure RV (P : Program) (n : Nat) (E : Env) (w0 : World) (F : List Nat) (H : Hp) (R : Asr) (r : ResultVar) (v : Value) : Prop where
  go : ∀ w, Sat w0 F H R w → ∀ a : Act, Ag n a E → rvIs P a w v r
theorem RV_tmp {t : Nat} {v : Value} (h : look E t = some v) : RV P n E w0 F H R (.tmp t) v := ⟨fun w _ a ha => ha.eval (x := .tmp t) h⟩
theorem RV_cellN {x t k b o : Nat} {vs : List Value} (ht : TN P t k) (h : look E x = some (.pointer (some ⟨b, o, none⟩))) (hc : Row w0 F H R b o vs) (hl : vs.length = k) : RV P n E w0 F H R (.cell x t) (.agg vs.toArray) := ⟨fun w hs a ha => by
  have h1 := (ht w).1
  have h2 := (ht w).2
  have h3 : (loadCells ⟨b, o, none⟩ k).run P w = .ok vs.toArray w := by
    rw [← hl]
    exact run_loadCells_list w ⟨b, o, none⟩ vs fun j v hj => by rw [Addr.add_lit]; exact hc.go w hs j v hj
  exact ⟨_, ha.eval (x := .tmp x) h, by simp [loadVar, h1, h2, h3]⟩⟩
theorem results_1 {a : Act} {w : World} {r : ResultVar} {v : Value} (hr : fn.results = #[r]) (h : rvIs P a w v r) : (results fn a.tmps).run P w = .ok v w := by
  unfold results
  rw [hr]
  simp only [List.mapM_toArray, Sem.run_bind, List.mapM_cons, List.mapM_nil]
  cases r with
  | tmp t => simp only [rvIs] at h; simp only [h]; simp
  | cell x t =>
    obtain ⟨b, h1, h2⟩ := h
    simp only [h1]; simp [asAddr, h2]
theorem results_2 {a : Act} {w : World} {r s : ResultVar} {v x : Value} (hr : fn.results = #[r, s]) (h : rvIs P a w v r) (k : rvIs P a w x s) : (results fn a.tmps).run P w = .ok (.tuple #[v, x]) w := by
  unfold results
  rw [hr]
  simp only [List.mapM_toArray, Sem.run_bind, List.mapM_cons, List.mapM_nil]
  cases r with
  | tmp t =>
    simp only [rvIs] at h
    cases s with
    | tmp t' => simp only [rvIs] at k; simp only [h, k]; simp
    | cell x t' =>
      obtain ⟨b, h1, h2⟩ := k
      simp only [h, h1]; simp [asAddr, h2]
  | cell x t =>
    obtain ⟨b, h1, h2⟩ := h
    cases s with
    | tmp t' => simp only [rvIs] at k; simp only [h1, k]; simp [asAddr, h2]
    | cell x t' =>
      obtain ⟨b', k1, k2⟩ := k
      simp only [h1, k1]; simp [asAddr, h2, k2]
theorem Res_1 {r : ResultVar} {v : Value} (hr : fn.results = #[r]) (h : RV P n E w0 F H R r v) : Res P n E w0 F H R fn v := ⟨fun w hs a ha => results_1 hr (h.go w hs a ha)⟩
theorem Res_2 {r s : ResultVar} {v x : Value} (hr : fn.results = #[r, s]) (h : RV P n E w0 F H R r v) (k : RV P n E w0 F H R s x) : Res P n E w0 F H R fn (.tuple #[v, x]) := ⟨fun w hs a ha => results_2 hr (h.go w hs a ha) (k.go w hs a ha)⟩
theorem WQ_res' {v : Value} (hr : Res P n E w0 F H R fn v) (h : ∀ w, Sat w0 F H R w → Z (.returned v) w) : WQ P n .ret E w0 F H R fn Z [] :=
  ⟨fun w hs a ha => bodyPost_ret (hr.go w hs a ha) ha.no (h w hs)⟩
theorem Fn_end {w : World} {ok : Value → Asr → Prop} {may : Prop} {v : Value} (hr : Res P n E w [] H R fn v) (h : ok v R) : WQ P n .ret E w [] H R fn (FnZ w ok may) [] :=
  WQ_res' hr fun _ hs => .inl ⟨v, R, rfl, h, hs.bare⟩
theorem Fn_dies {w : World} {ok : Value → Asr → Prop} {may : Prop} (h : may) : WQ P n (.panic errC) E w [] H R fn (FnZ w ok may) [] :=
  WQ_dies fun _ hs => .inr ⟨h, rfl, hs.low.below⟩
theorem P_endR {v v' : Value} (hr : Res P n E w0 [] H R fn v) (h : v = v') : WQ P n .ret E w0 [] H R fn (fun e w' => e = .returned v' ∧ Below w0.heap.size w0 w') [] :=
  WQ_res' hr fun _ hs => ⟨by rw [h], hs.low.below⟩
theorem Rc_endR {u w : World} {b : Nat} {cs' : List Value} {ok : Value → List Value → Asr → Prop} {may : Prop} {v : Value} (hr : Res P n E w [b] H R fn v) (i : Nat) (hp : H[i]? = some (b, cs')) (h : ok v cs' R) :
    WQ P n .ret E w [b] H R fn (RcZ u b w ok may) [] :=
  WQ_res' hr fun _ hs => .inl ⟨v, cs', R, rfl, h, hs.only hp⟩

theorem setCell_row {w : World} {b : Nat} {old v : Value} {t : TypeId} (h : w.heap[b]? = some (.cells #[old] t (0, 0))) : w.setCell ⟨b, 0, none⟩ v = w.setRow b #[v] := by
  unfold World.setCell World.setRow
  congr 1
  apply Array.ext_getElem?
  intro i
  rw [Array.getElem?_modify, Array.getElem?_modify]
  split
  · rename_i e; subst e; rw [h]; rfl
  · rfl
theorem Sat.set1 {w : World} (h : Sat w0 F H R w) {i b : Nat} {old v : Value} (hp : H[i]? = some (b, [old])) : Sat w0 F (H.set i (b, [v])) R (w.setCell ⟨b, 0, none⟩ v) := by
  obtain ⟨t, ht⟩ := h.own _ (List.mem_of_getElem? hp)
  rw [setCell_row ht]
  exact h.store (new := [v]) hp
theorem Sat.cell1 {w : World} (h : Sat w0 F H R w) {i b : Nat} {old : Value} (hp : H[i]? = some (b, [old])) : w.cell? ⟨b, 0, none⟩ = some old ∧ w.frozen? ⟨b, 0, none⟩ = false := by
  obtain ⟨t, ht⟩ := h.own _ (List.mem_of_getElem? hp)
  refine ⟨by rw [h.mine (List.mem_of_getElem? hp)]; rfl, ?_⟩
  unfold World.frozen?
  simp only at ht
  simp [ht]
structure AgD (D : List Deferred) (n : Nat) (a : Act) (E : Env) : Prop where
  ag : Ag n { a with defers := [] } E
  no : a.defers = D
structure WLD (P : Program) (n : Nat) (all : Array Oper) (l : List Oper) (E : Env) (w0 : World) (F : List Nat) (H : Hp) (R : Asr) (D : List Deferred) (Q : Exit → Act → World → Prop) : Prop where
  go : ∀ w, Sat w0 F H R w → ∀ a, AgD D n a E → wpList P all Q l a w
variable {D : List Deferred} {Q : Exit → Act → World → Prop}
theorem AgD.put {a : Act} (h : AgD D n a E) {d : Nat} (hd : Nat.blt d n = true) (v : Value) : AgD D n (a.put (some d) v) ((d, v) :: E) := ⟨h.ag.put hd v, h.no⟩
theorem WLD_nil {all : Array Oper} (h : ∀ w, Sat w0 F H R w → ∀ a, AgD D n a E → Q .normal a w) : WLD P n all [] E w0 F H R D Q := ⟨fun w hs a ha => wpList_nil (h w hs a ha)⟩
theorem WLD_op {all : Array Oper} {l : List Oper} {d : Nat} {o : Op} {t : TypeId} {p : String} {x : Array Edge} {v : Value} (hd : Nat.blt d n = true) (he : Ex P n E w0 F H R o v)
    (h : WLD P n all l ((d, v) :: E) w0 F H R D Q) : WLD P n all (⟨some d, o, t, p, x, none⟩ :: l) E w0 F H R D Q :=
  ⟨fun w hs a ha => wpList_plain rfl fun K hK => by
    have hr : (execOp a.eval ⟨some d, o, t, p, x, none⟩).run P w = .ok (.value v) w := he.go w hs _ ha.ag (some d) t p x none
    unfold Oper.wp; rw [hr]
    exact hK _ _ (h.go w hs _ (ha.put hd v))⟩
theorem WLD_alloc {all : Array Oper} {l : List Oper} {d : Nat} {s : TypeId} {t : TypeId} {p : String} {e : Array Edge} {cs : List Value} (hd : Nat.blt d n = true) (hz : TZ P s cs)
    (h : ∀ b, w0.heap.size ≤ b → WLD P n all l ((d, .pointer (some ⟨b, 0, none⟩)) :: E) w0 F ((b, cs) :: H) R D Q) : WLD P n all (⟨some d, .alloc s, t, p, e, none⟩ :: l) E w0 F H R D Q :=
  ⟨fun w hs a ha => wpList_plain rfl fun K hK => by
    have hz' : ∃ v, (zeroValue s).run P w = .ok v w ∧ v.cells = cs.toArray := by
      have h1 := hz w
      cases hq : (zeroValue s).run P w with
      | ok v w' => simp [hq] at h1; exact ⟨v, by rw [h1.2], h1.1⟩
      | halt x w' => simp [hq] at h1
    obtain ⟨v, hv, hc⟩ := hz'
    have hr : (execOp a.eval ⟨some d, .alloc s, t, p, e, none⟩).run P w = .ok (.value (.pointer (some ⟨w.heap.size, 0, none⟩))) (w.alloc (.cells cs.toArray s)) := by
      simp only [execOp]
      simp [Instr.alloc, hv, newVar, newRow, hc]
    unfold Oper.wp; rw [hr]
    exact hK _ _ ((h w.heap.size hs.low.size).go (w.alloc _) (hs.alloc cs s) _ (ha.put hd _))⟩
theorem WLD_store {all : Array Oper} {l : List Oper} {t ty k : TypeId} {x y : Operand} {p : String} {e : Array Edge} {b o : Nat} {cs vs : List Value} {v : Value} (ht : ∀ w : World, (sizeOf t).run P w = .ok k w) (hx : ev E x = some (.pointer (some ⟨b, o, none⟩))) (hy : ev E y = some v)
    (hv : v.cells = vs.toArray) (hl : vs.length = k) (h1 : vs.all (·.oneCell') = true)
    (i : Nat) (hp : H[i]? = some (b, cs)) (hf : Nat.ble (o + vs.length) cs.length = true) (h : WLD P n all l E w0 F (H.set i (b, put cs o vs)) R D Q) : WLD P n all (⟨none, .store t x y, ty, p, e, none⟩ :: l) E w0 F H R D Q :=
  ⟨fun w hs a ha => wpList_plain rfl fun K hK => by
    have hr := run_store_own (P := P) (d := none) (ty := ty) (p := p) (e := e) (g := none) ht (ha.ag.eval hx) (ha.ag.eval hy) hv hl h1 hs hp hf
    unfold Oper.wp
    rw [show (execOp a.eval ⟨none, .store t x y, ty, p, e, none⟩).run P w = .ok .skip (w.setRow b (put cs o vs).toArray) from hr]
    exact hK _ _ (h.go _ (hs.store hp) _ ha)⟩
theorem WLD_defer {all : Array Oper} {l : List Oper} {t ty : TypeId} {ts : Array TypeId} {p : String} {e : Array Edge} {fv : Fn} {cap : Array Value} (hx : look E t = some (.func fv #[] cap))
    (h : WLD P n all l E w0 F H R (⟨.fn fv cap, #[]⟩ :: D) Q) : WLD P n all (⟨none, .defer ⟨.value (.tmp t), #[], ts⟩, ty, p, e, none⟩ :: l) E w0 F H R D Q :=
  ⟨fun w hs a ha => wpList_plain rfl fun K hK => by
    have he : a.eval (.tmp t) = .func fv #[] cap := ha.ag.eval (x := .tmp t) hx
    have hr : (execOp a.eval ⟨none, .defer ⟨.value (.tmp t), #[], ts⟩, ty, p, e, none⟩).run P w = .ok (.defer ⟨.fn fv cap, #[]⟩) w := by
      simp [execOp, resolve, he, Deferred.ofValue]
    unfold Oper.wp; rw [hr]
    exact hK _ _ (h.go w hs _ ⟨ha.ag, by show _ :: a.defers = _; rw [ha.no]⟩)⟩
theorem WLD_call {all : Array Oper} {l : List Oper} {d t g : Nat} {ts : Array TypeId} {ty : TypeId} {p : String} {e : Array Edge} {cap : Value} {ok : Value → Asr → Prop} {may : Prop} (hf : IsFn P g)
    (hd : Nat.blt d n = true) (hx : look E t = some (.func (.func g) #[] #[cap])) (hc : ∀ w, Sat w0 F H R w → FnP P g #[cap] w ok may) (hn : may → ∀ w, Sat w0 F H R w → ∀ a, AgD D n a E → Q (.panic errC) a w)
    (h : ∀ v R', ok v R' → WLD P n all l ((d, v) :: E) w0 F H (R'.and R) D Q) :
    WLD P n all (⟨some d, .call ⟨.value (.tmp t), #[], ts⟩, ty, p, e, none⟩ :: l) E w0 F H R D Q :=
  ⟨fun w hs a ha => wpList_plain rfl fun K hK => by
    unfold Oper.wp; rw [run_callV rfl (show a.eval (.tmp t) = _ from ha.ag.eval (x := .tmp t) hx) hf]
    refine Calls.mono (P := P) (f := g) (by have := hc w hs; simpa [FnP] using this) ?_
    rintro e w' (⟨v, R', rfl, hok, hw⟩ | ⟨hm, rfl, hb⟩)
    · exact hK _ _ ((h v R' hok).go w' (fn_then hs hw) _ (ha.put hd _))
    · exact hn hm w' (hs.keep hb) _ ha⟩
end
end Go.Proofs.YtpofmnfkdkmieaaGreat.E
