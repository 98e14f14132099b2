/- What is proved here: rules for functions that hand back memory of their own, for results that lie in cells, for a function that defers one closure and is caught by it. rules for lists that are written full with a mark, for lists that share a row, and for methods that own more than their receiver's block. rules for methods that own their receiver's block and more, and for a list of one's own that is written into. -/
import Derived.Test.YtpofmnfkdkmieaaGreatQ03
import Derived.Defers
import Derived.Recover
set_option linter.unusedVariables false
set_option linter.unusedSimpArgs false
namespace Go.Proofs.YtpofmnfkdkmieaaGreat.E
open Go Go.RowKit
theorem below_then {u w w' : World} (h : Below u.heap.size u w) (k : Below w.heap.size w w') : Below u.heap.size u w' :=
 ⟨k.os.trans h.os, k.tape.trans h.tape, k.output.trans h.output, Nat.le_trans h.size k.size, fun i hi => (k.block i (Nat.lt_of_lt_of_le hi h.size)).trans (h.block i hi)⟩
/-! ### Functions that hand back memory -/
def FnZ (w : World) (ok : Value → Asr → Prop) (may : Prop) : Ending → World → Prop := fun e w' =>
 (∃ v R', e = .returned v ∧ ok v R' ∧ Sat w [] [] R' w') ∨ (may ∧ e = .panicked errC ∧ Below w.heap.size w w')
def FnP (P : Program) (f : FuncId) (args : Array Value) (w : World) (ok : Value → Asr → Prop) (may : Prop) : Prop := Calls P f args w (FnZ w ok may)
theorem fn_then {w0 w w' : World} {F : List Nat} {H : Hp} {R R' : Asr} (hs : Sat w0 F H R w) (hw : Sat w [] [] R' w') : Sat w0 F H (R'.and R) w' := by
 have hb := hw.low.below
 have hk := hs.keep hb
 have hnew : ∀ k ∈ R'.S, w.heap.size ≤ k ∧ k < w'.heap.size := fun k hk => ⟨(hw.rhi k hk).1.elim (fun h => by cases h) id, (hw.rhi k hk).2⟩
 refine ⟨hk.low, hk.own, hk.hi, hk.apart, ⟨hw.res, hk.res, ?_⟩, ?_, ?_⟩
 ·intro k h1 h2
  have := (hnew k h1).1
  have := (hs.rhi k h2).2
  omega
 ·intro k hm
  rcases List.mem_append.1 hm with hm | hm
  ·exact ⟨.inr (Nat.le_trans hs.low.size (hnew k hm).1), (hnew k hm).2⟩
  ·exact hk.rhi k hm
 ·intro p hp hm
  rcases List.mem_append.1 hm with hm | hm
  ·have := (hnew _ hm).1
   have := hs.lt hp
   omega
  ·exact hk.rapart p hp hm
theorem Sat.bare {w0 w : World} {F : List Nat} {H : Hp} {R : Asr} (hs : Sat w0 F H R w) : Sat w0 F [] R w :=
 ⟨hs.low, (fun p hp => by cases hp), (fun p hp => by cases hp), List.nodup_nil, hs.res, hs.rhi, (fun p hp => by cases hp)⟩
section
variable {P : Program} {n : Nat} {E : Env} {w0 : World} {F : List Nat} {H : Hp} {R : Asr} {fn : Func} {Z : Ending → World → Prop} {κ : List Kf}
theorem WL_callF {all : Array Oper} {l : List Oper} {d f : Nat} {xs : List Operand} {vs : List Value} {ts : Array TypeId} {t : TypeId} {p : String} {e : Array Edge} {ok : Value → Asr → Prop} {may : Prop} (hf : IsFn P f)
  (hd : Nat.blt d n = true) (hx : args E xs = some vs) (hc : ∀ w, Sat w0 F H R w → FnP P f vs.toArray w ok may) (hn : may → WQ P n (.panic errC) E w0 F H R fn Z κ)
  (h : ∀ v R', ok v R' → WL P n all l ((d, v) :: E) w0 F H (R'.and R) fn Z κ) :
  WL P n all (⟨some d, .call ⟨.value (.func f), xs.toArray, ts⟩, t, p, e, none⟩ :: l) E w0 F H R fn Z κ :=
 ⟨fun w hs a ha => wpList_plain rfl fun K hK => by
  unfold Oper.wp; rw [run_call rfl hf, args_map ha xs vs hx]
  refine Calls.mono (hc w hs) ?_
  rintro e w' (⟨v, R', rfl, hok, hw⟩ | ⟨hm, rfl, hb⟩)
  ·exact hK _ _ ((h v R' hok).go w' (fn_then hs hw) _ (ha.put hd _))
  ·exact (hn hm).go w' (hs.keep hb) _ ha⟩
/-- A call that hands back o, or panics. -/
theorem WL_callQ {all : Array Oper} {l : List Oper} {d f : Nat} {xs : List Operand} {vs : List Value} {ts : Array TypeId} {t : TypeId} {p : String} {e : Array Edge} {o : Option Value} (hf : IsFn P f)
  (hd : Nat.blt d n = true) (hx : args E xs = some vs) (hc : ∀ w, Sat w0 F H R w → PureQ P f vs.toArray w o) (hn : o = none → WQ P n (.panic errC) E w0 F H R fn Z κ)
  (h : ∀ v, o = some v → WL P n all l ((d, v) :: E) w0 F H R fn Z κ) :
  WL P n all (⟨some d, .call ⟨.value (.func f), xs.toArray, ts⟩, t, p, e, none⟩ :: l) E w0 F H R fn Z κ :=
 ⟨fun w hs a ha => wpList_plain rfl fun K hK => by
  unfold Oper.wp; rw [run_call rfl hf, args_map ha xs vs hx]
  refine Calls.mono (hc w hs) ?_
  rintro e w' ⟨⟨v, hv, rfl⟩ | ⟨hv, rfl⟩, hb⟩
  ·exact hK _ _ ((h v hv).go w' (hs.keep hb) _ (ha.put hd _))
  ·exact (hn hv).go w' (hs.keep hb) _ ha⟩
theorem FnP.of_Q {f : FuncId} {args : Array Value} {w : World} {o : Option Value} (h : PureQ P f args w o) : FnP P f args w (fun v R' => o = some v ∧ R' = Asr.none) (o = none) := by
 refine Calls.mono h ?_
 rintro e w' ⟨⟨v, hv, rfl⟩ | ⟨hv, rfl⟩, hb⟩
 ·exact .inl ⟨v, Asr.none, rfl, ⟨hv, rfl⟩, (Sat.first w []).keep hb⟩
 ·exact .inr ⟨hv, rfl, hb⟩
/-- A closure that has one variable. -/
theorem Ex_cap {g : Nat} {x : Operand} {v : Value} (hx : ev E x = some v) : Ex P n E w0 F H R (.makeFunc (.func g) #[] #[x]) (.func (.func g) #[] #[v]) := ⟨fun w _ a ha _ _ _ _ _ => by
 simp only [execOp]
 simp [ha.eval hx, Instr.makeFunc]⟩
/-! ### Results -/
structure Res (P : Program) (n : Nat) (E : Env) (w0 : World) (F : List Nat) (H : Hp) (R : Asr) (fn : Func) (v : Value) : Prop where
 go : ∀ w, Sat w0 F H R w → ∀ a : Act, Ag n a E → (results fn a.tmps).run P w = .ok v w
/-- A variable's value, as a result. -/
def rvIs (P : Program) (a : Act) (w : World) (v : Value) : ResultVar → Prop
 | .tmp t => a.tmps.getD t undef = v
 | .cell x t => ∃ b, a.tmps.getD x undef = .pointer (some b) ∧ (loadVar t b).run P w = .ok v w
structure RV (P : Program) (n : Nat) (E : Env) (w0 : World) (F : List Nat) (H : Hp) (R : Asr) (r : ResultVar) (v : Value) : Prop where
 go : ∀ w, Sat w0 F H R w → ∀ a : Act, Ag n a E → rvIs P a w v r
theorem RV_tmp {t : Nat} {v : Value} (h : look E t = some v) : RV P n E w0 F H R (.tmp t) v := ⟨fun w _ a ha => ha.eval (x := .tmp t) h⟩
theorem RV_cell1 {x t : Nat} {b : Addr} {v : Value} (ht : T1 P t) (h : look E x = some (.pointer (some b))) (hc : Cell w0 F H R b v) : RV P n E w0 F H R (.cell x t) v := ⟨fun w hs a ha => by
 have h1 := (ht w).1
 have h2 := hc.go w hs
 exact ⟨b, ha.eval (x := .tmp x) h, by simp [loadVar, h1, h2]⟩⟩
theorem Xo {x t k b o : Nat} {vs : List Value} (ht : TN P t k) (h : look E x = some (.pointer (some ⟨b, o, none⟩))) (hc : Row w0 F H R b o vs) (hl : vs.length = k) : RV P n E w0 F H R (.cell x t) (.agg vs.toArray) := ⟨fun w hs a ha => by
 have h1 := (ht w).1
 have h2 := (ht w).2
 have h3 : (loadCells ⟨b, o, none⟩ k).run P w = .ok vs.toArray w := by
  rw [← hl]
  exact run_loadCells_list w ⟨b, o, none⟩ vs fun j v hj => by rw [Addr.add_lit]; exact hc.go w hs j v hj
 exact ⟨_, ha.eval (x := .tmp x) h, by simp [loadVar, h1, h2, h3]⟩⟩
theorem results_1 {a : Act} {w : World} {r : ResultVar} {v : Value} (hr : fn.results = #[r]) (h : rvIs P a w v r) : (results fn a.tmps).run P w = .ok v w := by
 unfold results
 rw [hr]
 simp only [List.mapM_toArray, Sem.run_bind, List.mapM_cons, List.mapM_nil]
 cases r with
 | tmp t => simp only [rvIs] at h; simp only [h]; simp
 | cell x t =>
  obtain ⟨b, h1, h2⟩ := h
  simp only [h1]; simp [asAddr, h2]
theorem results_2 {a : Act} {w : World} {r s : ResultVar} {v x : Value} (hr : fn.results = #[r, s]) (h : rvIs P a w v r) (k : rvIs P a w x s) : (results fn a.tmps).run P w = .ok (.tuple #[v, x]) w := by
 unfold results
 rw [hr]
 simp only [List.mapM_toArray, Sem.run_bind, List.mapM_cons, List.mapM_nil]
 cases r with
 | tmp t =>
  simp only [rvIs] at h
  cases s with
  | tmp t' => simp only [rvIs] at k; simp only [h, k]; simp
  | cell x t' =>
   obtain ⟨b, h1, h2⟩ := k
   simp only [h, h1]; simp [asAddr, h2]
 | cell x t =>
  obtain ⟨b, h1, h2⟩ := h
  cases s with
  | tmp t' => simp only [rvIs] at k; simp only [h1, k]; simp [asAddr, h2]
  | cell x t' =>
   obtain ⟨b', k1, k2⟩ := k
   simp only [h1, k1]; simp [asAddr, h2, k2]
theorem Res_1 {r : ResultVar} {v : Value} (hr : fn.results = #[r]) (h : RV P n E w0 F H R r v) : Res P n E w0 F H R fn v := ⟨fun w hs a ha => results_1 hr (h.go w hs a ha)⟩
theorem Res_2 {r s : ResultVar} {v x : Value} (hr : fn.results = #[r, s]) (h : RV P n E w0 F H R r v) (k : RV P n E w0 F H R s x) : Res P n E w0 F H R fn (.tuple #[v, x]) := ⟨fun w hs a ha => results_2 hr (h.go w hs a ha) (k.go w hs a ha)⟩
theorem WQ_res' {v : Value} (hr : Res P n E w0 F H R fn v) (h : ∀ w, Sat w0 F H R w → Z (.returned v) w) : WQ P n .ret E w0 F H R fn Z [] :=
 ⟨fun w hs a ha => bodyPost_ret (hr.go w hs a ha) ha.no (h w hs)⟩
theorem Fn_end {w : World} {ok : Value → Asr → Prop} {may : Prop} {v : Value} (hr : Res P n E w [] H R fn v) (h : ok v R) : WQ P n .ret E w [] H R fn (FnZ w ok may) [] :=
 WQ_res' hr fun _ hs => .inl ⟨v, R, rfl, h, hs.bare⟩
theorem Fn_dies {w : World} {ok : Value → Asr → Prop} {may : Prop} (h : may) : WQ P n (.panic errC) E w [] H R fn (FnZ w ok may) [] :=
 WQ_dies fun _ hs => .inr ⟨h, rfl, hs.low.below⟩
theorem P_endR {v v' : Value} (hr : Res P n E w0 [] H R fn v) (h : v = v') : WQ P n .ret E w0 [] H R fn (fun e w' => e = .returned v' ∧ Below w0.heap.size w0 w') [] :=
 WQ_res' hr fun _ hs => ⟨by rw [h], hs.low.below⟩
theorem Rc_endR {u w : World} {b : Nat} {cs' : List Value} {ok : Value → List Value → Asr → Prop} {may : Prop} {v : Value} (hr : Res P n E w [b] H R fn v) (i : Nat) (hp : H[i]? = some (b, cs')) (h : ok v cs' R) :
  WQ P n .ret E w [b] H R fn (RcZ u b w ok may) [] :=
 WQ_res' hr fun _ hs => .inl ⟨v, cs', R, rfl, h, hs.only hp⟩
theorem setCell_row {w : World} {b : Nat} {old v : Value} {t : TypeId} (h : w.heap[b]? = some (.cells #[old] t (0, 0))) : w.setCell ⟨b, 0, none⟩ v = w.setRow b #[v] := by
 unfold World.setCell World.setRow
 congr 1
 apply Array.ext_getElem?
 intro i
 rw [Array.getElem?_modify, Array.getElem?_modify]
 split
 ·rename_i e; subst e; rw [h]; rfl
 ·rfl
theorem Sat.set1 {w : World} (h : Sat w0 F H R w) {i b : Nat} {old v : Value} (hp : H[i]? = some (b, [old])) : Sat w0 F (H.set i (b, [v])) R (w.setCell ⟨b, 0, none⟩ v) := by
 obtain ⟨t, ht⟩ := h.own _ (List.mem_of_getElem? hp)
 rw [setCell_row ht]
 exact h.store (new := [v]) hp
theorem Sat.cell1 {w : World} (h : Sat w0 F H R w) {i b : Nat} {old : Value} (hp : H[i]? = some (b, [old])) : w.cell? ⟨b, 0, none⟩ = some old ∧ w.frozen? ⟨b, 0, none⟩ = false := by
 obtain ⟨t, ht⟩ := h.own _ (List.mem_of_getElem? hp)
 refine ⟨by rw [h.mine (List.mem_of_getElem? hp)]; rfl, ?_⟩
 unfold World.frozen?
 simp only at ht
 simp [ht]
/-! ### One closure is deferred -/
structure AgD (D : List Deferred) (n : Nat) (a : Act) (E : Env) : Prop where
 ag : Ag n { a with defers := [] } E
 no : a.defers = D
theorem Ag.toD {a : Act} (h : Ag n a E) : AgD [] n a E := ⟨⟨h.room, rfl, h.has⟩, h.no⟩
structure WLD (P : Program) (n : Nat) (all : Array Oper) (l : List Oper) (E : Env) (w0 : World) (F : List Nat) (H : Hp) (R : Asr) (D : List Deferred) (Q : Exit → Act → World → Prop) : Prop where
 go : ∀ w, Sat w0 F H R w → ∀ a, AgD D n a E → wpList P all Q l a w
variable {D : List Deferred} {Q : Exit → Act → World → Prop}
theorem AgD.put {a : Act} (h : AgD D n a E) {d : Nat} (hd : Nat.blt d n = true) (v : Value) : AgD D n (a.put (some d) v) ((d, v) :: E) := ⟨h.ag.put hd v, h.no⟩
theorem WLD_nil {all : Array Oper} (h : ∀ w, Sat w0 F H R w → ∀ a, AgD D n a E → Q .normal a w) : WLD P n all [] E w0 F H R D Q := ⟨fun w hs a ha => wpList_nil (h w hs a ha)⟩
theorem WLD_op {all : Array Oper} {l : List Oper} {d : Nat} {o : Op} {t : TypeId} {p : String} {x : Array Edge} {v : Value} (hd : Nat.blt d n = true) (he : Ex P n E w0 F H R o v)
  (h : WLD P n all l ((d, v) :: E) w0 F H R D Q) : WLD P n all (⟨some d, o, t, p, x, none⟩ :: l) E w0 F H R D Q :=
 ⟨fun w hs a ha => wpList_plain rfl fun K hK => by
  have hr : (execOp a.eval ⟨some d, o, t, p, x, none⟩).run P w = .ok (.value v) w := he.go w hs _ ha.ag (some d) t p x none
  unfold Oper.wp; rw [hr]
  exact hK _ _ (h.go w hs _ (ha.put hd v))⟩
theorem WLD_alloc {all : Array Oper} {l : List Oper} {d : Nat} {s : TypeId} {t : TypeId} {p : String} {e : Array Edge} {cs : List Value} (hd : Nat.blt d n = true) (hz : TZ P s cs)
  (h : ∀ b, w0.heap.size ≤ b → WLD P n all l ((d, .pointer (some ⟨b, 0, none⟩)) :: E) w0 F ((b, cs) :: H) R D Q) : WLD P n all (⟨some d, .alloc s, t, p, e, none⟩ :: l) E w0 F H R D Q :=
 ⟨fun w hs a ha => wpList_plain rfl fun K hK => by
  have hz' : ∃ v, (zeroValue s).run P w = .ok v w ∧ v.cells = cs.toArray := by
   have h1 := hz w
   cases hq : (zeroValue s).run P w with
   | ok v w' => simp [hq] at h1; exact ⟨v, by rw [h1.2], h1.1⟩
   | halt x w' => simp [hq] at h1
  obtain ⟨v, hv, hc⟩ := hz'
  have hr : (execOp a.eval ⟨some d, .alloc s, t, p, e, none⟩).run P w = .ok (.value (.pointer (some ⟨w.heap.size, 0, none⟩))) (w.alloc (.cells cs.toArray s)) := by
   simp only [execOp]
   simp [Instr.alloc, hv, newVar, newRow, hc]
  unfold Oper.wp; rw [hr]
  exact hK _ _ ((h w.heap.size hs.low.size).go (w.alloc _) (hs.alloc cs s) _ (ha.put hd _))⟩
theorem WLD_store {all : Array Oper} {l : List Oper} {t ty k : TypeId} {x y : Operand} {p : String} {e : Array Edge} {b o : Nat} {cs vs : List Value} {v : Value} (ht : ∀ w : World, (sizeOf t).run P w = .ok k w) (hx : ev E x = some (.pointer (some ⟨b, o, none⟩))) (hy : ev E y = some v)
  (hv : v.cells = vs.toArray) (hl : vs.length = k) (h1 : vs.all (·.oneCell') = true)
  (i : Nat) (hp : H[i]? = some (b, cs)) (hf : Nat.ble (o + vs.length) cs.length = true) (h : WLD P n all l E w0 F (H.set i (b, put cs o vs)) R D Q) : WLD P n all (⟨none, .store t x y, ty, p, e, none⟩ :: l) E w0 F H R D Q :=
 ⟨fun w hs a ha => wpList_plain rfl fun K hK => by
  have hr := run_store_own (P := P) (d := none) (ty := ty) (p := p) (e := e) (g := none) ht (ha.ag.eval hx) (ha.ag.eval hy) hv hl h1 hs hp hf
  unfold Oper.wp
  rw [show (execOp a.eval ⟨none, .store t x y, ty, p, e, none⟩).run P w = .ok .skip (w.setRow b (put cs o vs).toArray) from hr]
  exact hK _ _ (h.go _ (hs.store hp) _ ha)⟩
theorem WLD_defer {all : Array Oper} {l : List Oper} {t ty : TypeId} {ts : Array TypeId} {p : String} {e : Array Edge} {fv : Fn} {cap : Array Value} (hx : look E t = some (.func fv #[] cap))
  (h : WLD P n all l E w0 F H R (⟨.fn fv cap, #[]⟩ :: D) Q) : WLD P n all (⟨none, .defer ⟨.value (.tmp t), #[], ts⟩, ty, p, e, none⟩ :: l) E w0 F H R D Q :=
 ⟨fun w hs a ha => wpList_plain rfl fun K hK => by
  have he : a.eval (.tmp t) = .func fv #[] cap := ha.ag.eval (x := .tmp t) hx
  have hr : (execOp a.eval ⟨none, .defer ⟨.value (.tmp t), #[], ts⟩, ty, p, e, none⟩).run P w = .ok (.defer ⟨.fn fv cap, #[]⟩) w := by
   simp [execOp, resolve, he, Deferred.ofValue]
  unfold Oper.wp; rw [hr]
  exact hK _ _ (h.go w hs _ ⟨ha.ag, by show _ :: a.defers = _; rw [ha.no]⟩)⟩
theorem WLD_call {all : Array Oper} {l : List Oper} {d t g : Nat} {ts : Array TypeId} {ty : TypeId} {p : String} {e : Array Edge} {cap : Value} {ok : Value → Asr → Prop} {may : Prop} (hf : IsFn P g)
  (hd : Nat.blt d n = true) (hx : look E t = some (.func (.func g) #[] #[cap])) (hc : ∀ w, Sat w0 F H R w → FnP P g #[cap] w ok may) (hn : may → ∀ w, Sat w0 F H R w → ∀ a, AgD D n a E → Q (.panic errC) a w)
  (h : ∀ v R', ok v R' → WLD P n all l ((d, v) :: E) w0 F H (R'.and R) D Q) :
  WLD P n all (⟨some d, .call ⟨.value (.tmp t), #[], ts⟩, ty, p, e, none⟩ :: l) E w0 F H R D Q :=
 ⟨fun w hs a ha => wpList_plain rfl fun K hK => by
  unfold Oper.wp; rw [run_callV rfl (show a.eval (.tmp t) = _ from ha.ag.eval (x := .tmp t) hx) hf]
  refine Calls.mono (P := P) (f := g) (by have := hc w hs; simpa [FnP] using this) ?_
  rintro e w' (⟨v, R', rfl, hok, hw⟩ | ⟨hm, rfl, hb⟩)
  ·exact hK _ _ ((h v R' hok).go w' (fn_then hs hw) _ (ha.put hd _))
  ·exact hn hm w' (hs.keep hb) _ ha⟩
end
end Go.Proofs.YtpofmnfkdkmieaaGreat.E
namespace Go.Proofs.YtpofmnfkdkmieaaGreat.E
open Go Go.RowKit
/-! ### A piece of memory is turned into another -/
theorem Sat.turn {w0 w w' : World} {F : List Nat} {H : Hp} {G G' R : Asr} (hs : Sat w0 F H (G.and R) w) (ho : w'.os = w.os ∧ w'.tape = w.tape ∧ w'.output = w.output) (hsz : w.heap.size ≤ w'.heap.size)
  (hne : ∀ k, k < w.heap.size → k ∉ G.S → w'.heap[k]? = w.heap[k]?) (hA : G'.A w') (hS : ∀ k ∈ G'.S, k < w'.heap.size ∧ (k ∈ G.S ∨ w.heap.size ≤ k)) : Sat w0 F H (G'.and R) w' := by
 have hG : ∀ k ∈ G.S, (k ∈ F ∨ w0.heap.size ≤ k) ∧ k < w.heap.size := fun k hk => hs.rhi k (List.mem_append_left _ hk)
 have hR : ∀ k ∈ R.S, k ∉ G.S := fun k hk hg => hs.res.2.2 k hg hk
 have hRr : ∀ k ∈ R.S, (k ∈ F ∨ w0.heap.size ≤ k) ∧ k < w.heap.size := fun k hk => hs.rhi k (List.mem_append_right _ hk)
 refine ⟨⟨ho.1.trans hs.low.os, ho.2.1.trans hs.low.tape, ho.2.2.trans hs.low.output, Nat.le_trans hs.low.size hsz, fun k hk hF => ?_⟩, fun q hq => ?_, hs.hi, hs.apart, ⟨hA, R.st w w' hs.res.2.1 (fun k hk => hne k (hRr k hk).2 (hR k hk)), fun k h1 h2 => ?_⟩, fun k hk => ?_, fun q hq hk => ?_⟩
 ·rw [hne k (Nat.lt_of_lt_of_le hk hs.low.size) (fun hg => (hG k hg).1.elim hF (fun h => by omega))]; exact hs.low.block k hk hF
 ·rw [hne q.1 (hs.lt hq) (fun hg => hs.rapart q hq (List.mem_append_left _ hg))]; exact hs.own q hq
 ·rcases (hS k h1).2 with h | h
  ·exact hR k h2 h
  ·have := (hRr k h2).2; omega
 ·rcases List.mem_append.1 hk with hk | hk
  ·refine ⟨?_, (hS k hk).1⟩
   rcases (hS k hk).2 with h | h
   ·exact (hG k h).1
   ·exact .inr (Nat.le_trans hs.low.size h)
  ·exact ⟨(hRr k hk).1, Nat.lt_of_lt_of_le (hRr k hk).2 hsz⟩
 ·rcases List.mem_append.1 hk with hk | hk
  ·rcases (hS _ hk).2 with h | h
   ·exact hs.rapart q hq (List.mem_append_left _ h)
   ·have := hs.lt hq; omega
  ·exact hs.rapart q hq (List.mem_append_right _ hk)
/-! ### Rows of marks -/
def rep (m : List Value) : Nat → List Value
 | 0 => []
 | k + 1 => rep m k ++ m
theorem rep_length (m : List Value) : ∀ k, (rep m k).length = k * m.length
 | 0 => by simp [rep]
 | k + 1 => by rw [rep, List.length_append, rep_length m k, Nat.add_mul]; omega
theorem rep_get (m : List Value) : ∀ (k j t : Nat) (x : Value), j < k → m[t]? = some x → (rep m k)[j * m.length + t]? = some x
 | 0, _, _, _, h, _ => by omega
 | k + 1, j, t, x, h, hx => by
  have ht : t < m.length := by
   rcases Nat.lt_or_ge t m.length with h' | h'
   ·exact h'
   ·rw [List.getElem?_eq_none h'] at hx; cases hx
  rw [rep]
  by_cases hj : j < k
  ·have h1 : (j + 1) * m.length ≤ k * m.length := Nat.mul_le_mul_right _ hj
   rw [Nat.add_mul] at h1
   rw [List.getElem?_append_left (by rw [rep_length]; omega)]
   exact rep_get m k j t x hj hx
  ·have : j = k := by omega
   subst this
   rw [List.getElem?_append_right (by rw [rep_length]; omega), rep_length]
   rw [show j * m.length + t - j * m.length = t by omega]; exact hx
/-- A slice all of whose elements are m. -/
def marked (w : World) (u : Value) (m : List Value) : Prop :=
 ∃ p n c, u = .slice p n c ∧ n ≤ maxLen ∧ (0 < n → ∃ g, p = some ⟨g, 0, none⟩ ∧ ∀ j t x, j < n → m[t]? = some x → w.cell? ⟨g, j * m.length + t, none⟩ = some x)
theorem marked_kept {w w' : World} {u : Value} {m : List Value} (h : marked w u m) (hk : ∀ k ∈ u.ownBlock.toList, w'.heap[k]? = w.heap[k]?) : marked w' u m := by
 obtain ⟨p, n, c, rfl, hb, hn⟩ := h
 refine ⟨p, n, c, rfl, hb, fun h0 => ?_⟩
 obtain ⟨g, rfl, hc⟩ := hn h0
 refine ⟨g, rfl, fun j t x hj hx => ?_⟩
 rw [World.cell?_of_block (w := w) (hk g (by simp [Value.ownBlock]))]
 exact hc j t x hj hx
theorem marked_own {w : World} {e sz n : Nat} {v : Value} {m : List Value} (h : w.ownsRow 0 e sz v n (rep m n)) : marked w v m := by
 rcases h.2 with ⟨rfl, rfl⟩ | ⟨g, cap, cur, rfl, _, _, hnc, hcm, _⟩
 ·exact ⟨none, 0, 0, rfl, Nat.zero_le _, fun h => by omega⟩
 ·refine ⟨some ⟨g, 0, none⟩, n, cap, rfl, Nat.le_trans hnc hcm, fun _ => ⟨g, rfl, fun j t x hj hx => ?_⟩⟩
  have := h.cells (g := g) rfl (j * m.length + t) x (rep_get m n j t x hj hx)
  rw [Addr.add_lit, Nat.zero_add] at this; exact this
def blks (us : List Value) : List Nat := us.flatMap (·.ownBlock.toList)
theorem blks_mem {us : List Value} {k : Nat} : k ∈ blks us ↔ ∃ u ∈ us, u.ownBlock = some k := by
 unfold blks
 rw [List.mem_flatMap]
 constructor
 ·rintro ⟨u, hu, hk⟩
  refine ⟨u, hu, ?_⟩
  cases hb : u.ownBlock with
  | none => rw [hb] at hk; simp at hk
  | some g => rw [hb] at hk; simp at hk; rw [hk]
 ·rintro ⟨u, hu, hk⟩
  exact ⟨u, hu, by rw [hk]; simp⟩
/-- Lists that were kept: the i-th one bears the mark i/4. -/
def keptA (mk : Nat → List Value) (vs : List Value) : Asr := ⟨blks vs, fun w => ∀ i u, vs[i]? = some u → marked w u (mk (i / 4)), fun w w' h hk i u hu =>
 marked_kept (h i u hu) (fun k hm => hk k (blks_mem.2 ⟨u, List.mem_of_getElem? hu, by cases hb : u.ownBlock with | none => rw [hb] at hm; simp at hm | some g => rw [hb] at hm; simp at hm; rw [hm]⟩))⟩
def short (u : Value) (n : Nat) : Prop := ∃ p k c, u = .slice p k c ∧ k ≤ n
/-- A list of marks that grows, and those that it was ahead. -/
def grpA (e sz : Nat) (m : List Value) (v : Value) (n : Nat) (us : List Value) : Asr := ⟨v.ownBlock.toList ++ blks us, fun w => w.ownsRow 0 e sz v n (rep m n) ∧ ∀ u ∈ us, marked w u m ∧ short u n, fun w w' h hk =>
 ⟨owns_kept h.1 (fun k hm => hk k (List.mem_append_left _ hm)), fun u hu => ⟨marked_kept (h.2 u hu).1 (fun k hm => hk k (List.mem_append_right _ (blks_mem.2 ⟨u, hu, by cases hb : u.ownBlock with | none => rw [hb] at hm; simp at hm | some g => rw [hb] at hm; simp at hm; rw [hm]⟩))), (h.2 u hu).2⟩⟩⟩
theorem grp_first {e sz n : Nat} {m : List Value} {v : Value} : (ownA e sz v n (rep m n)).Imp (grpA e sz m v n []) := ⟨fun k hk => by simpa [grpA, blks, ownA] using hk, fun w h => ⟨h, fun u hu => by cases hu⟩⟩
/-- What is kept goes to the others. -/
theorem grp_last {e sz n : Nat} {mk : Nat → List Value} {v : Value} {vs us : List Value} (h4 : vs.length % 4 = 0) (hu : us.length ≤ 4) : ((grpA e sz (mk (vs.length / 4)) v n us).and (keptA mk vs)).Imp (keptA mk (vs ++ us)) := by
 refine ⟨fun k hk => ?_, fun w h i u hi => ?_⟩
 ·obtain ⟨u, hu, hb⟩ := blks_mem.1 hk
  rcases List.mem_append.1 hu with hu | hu
  ·exact List.mem_append_right _ (blks_mem.2 ⟨u, hu, hb⟩)
  ·exact List.mem_append_left _ (List.mem_append_right _ (blks_mem.2 ⟨u, hu, hb⟩))
 ·by_cases hiv : i < vs.length
  ·rw [List.getElem?_append_left hiv] at hi
   exact h.2.1 i u hi
  ·rw [List.getElem?_append_right (by omega)] at hi
   have hlt : i - vs.length < us.length := by
    rcases Nat.lt_or_ge (i - vs.length) us.length with h' | h'
    ·exact h'
    ·rw [List.getElem?_eq_none h'] at hi; cases hi
   have e : i / 4 = vs.length / 4 := by omega
   rw [e]
   exact (h.1.2 u (List.mem_of_getElem? hi)).1
section
variable {P : Program}
theorem append_kind {w w' : World} {t ty e size bytes : Nat} {z v v' : Value} {k m c : Nat} {xs news : List Value} {a : Addr} (ht : TA P t e size bytes z) (hown : w.ownsRow 0 e size v k xs)
  (hl : news.length = m * size) (hnews : ∀ j u, news[j]? = some u → w.cell? (a.add j) = some u) (h1 : ∀ u ∈ news, u.oneCell' = true)
  (h63 : k + m ≤ maxLen) (hbytes : (k + m) * bytes ≤ 140737488355328) (hr : (Builtin.append_ #[t, t] ty #[v, .slice (some a) m c]).run P w = .ok v' w') :
  v'.ownBlock = v.ownBlock ∨ ∀ k, k < w.heap.size → w'.heap[k]? = w.heap[k]? := by
 obtain ⟨i, hi, hz, hs, hb⟩ := info_parts ht.inf
 subst hs; subst hb
 have hsmall : k + m ≤ 9223372036854775807 := by simp only [maxLen] at h63; omega
 rcases hown.2 with ⟨rfl, rfl⟩ | ⟨g0, cap, cur, rfl, _, hg0, hnc, hcm, hcs, htake⟩
 ·by_cases hm : m = 0
  ·subst hm
   have hr' : (Builtin.append_ #[t, t] ty #[.slice none 0 0, .slice (some a) 0 c]).run P w = .ok (.slice none 0 0) w := by
    simp [Builtin.append_, run_underlying ht.sl, sizeOf, typeInfo, hi, Builtin.lenOf, Builtin.firstCells, loadCells, loadCellsFrom]
   rw [hr'] at hr; cases hr
   exact .inl rfl
  ·have hr' := run_append_nil (P := P) w t ty e i z ht.sl hi hz a m c news hl hnews (by omega) (by omega) (by have hb := hbytes; simp only [Nat.zero_add] at hb; omega)
   rw [hr] at hr'; cases hr'
   exact .inr fun k hk => heap_alloc_old w.drew _ hk
 ·by_cases hroom : k + m ≤ cap
  ·have hfit : k * i.size + news.length ≤ cur.size := by rw [hl, hcs, ← Nat.add_mul]; exact Nat.mul_le_mul_right _ hroom
   have hr' := run_append_room (P := P) w t ty e i ht.sl hi g0 k cap cur hg0 a m c news hl hnews h1 hroom hfit
   rw [hr] at hr'; cases hr'
   exact .inl rfl
  ·have holds : ∀ j u, xs[j]? = some u → w.cell? ((⟨g0, 0, none⟩ : Addr).add j) = some u := hown.cells (g := g0) rfl
   have hr' := run_append_grow (P := P) w t ty e i z ht.sl hi hz ⟨g0, 0, none⟩ k cap xs hown.1 holds a m c news hl hnews (by omega) (by omega) (growslice_fits (by omega) hbytes)
   rw [hr] at hr'; cases hr'
   exact .inr fun k hk => heap_alloc_old w.drew _ hk
variable {n : Nat} {E : Env} {w0 : World} {F : List Nat} {H : Hp} {R : Asr} {fn : Func} {Z : Ending → World → Prop} {κ : List Kf}
/-- One more mark is appended, and the list as it was is kept. -/
theorem WL_appG {all : Array Oper} {l : List Oper} {d : Nat} {t ty e sz bytes : Nat} {z v : Value} {x y : Operand} {p : String} {g : Array Edge} {k c b : Nat} {m us : List Value} (hd : Nat.blt d n = true) (ht : TA P t e sz bytes z) (hx : ev E x = some v)
  (hy : ev E y = some (.slice (some ⟨b, 0, none⟩) 1 c)) (hc : Row w0 F H ((grpA e sz m v k us).and R) b 0 m) (hl : m.length = sz) (h1 : m.all (·.oneCell') = true) (h63 : k + 1 ≤ maxLen) (hbytes : (k + 1) * bytes ≤ 140737488355328)
  (h : ∀ v', WL P n all l ((d, v') :: E) w0 F H ((grpA e sz m v' (k + 1) (us ++ [v])).and R) fn Z κ) :
  WL P n all (⟨some d, .call ⟨.builtin .append, #[x, y], #[t, t]⟩, ty, p, g, none⟩ :: l) E w0 F H ((grpA e sz m v k us).and R) fn Z κ :=
 ⟨fun w hs a ha => wpList_plain rfl fun K hK => by
  obtain ⟨i, hi, hz, hsz, hb⟩ := info_parts ht.inf
  have hnews : ∀ j u, m[j]? = some u → w.cell? ((⟨b, 0, none⟩ : Addr).add j) = some u := fun j u hj => by rw [Addr.add_lit]; exact hc.go w hs j u hj
  have hown : w.ownsRow 0 e sz v k (rep m k) := hs.res.1.1
  have hl' : m.length = 1 * sz := by omega
  obtain ⟨v', w', hr, ho, hg, _⟩ := run_append_own w 0 t ty e i z sz bytes ht.sl hi hz hsz hb ht.zs ht.pos v k (rep m k) hown ⟨b, 0, none⟩ 1 c m hl' hnews (one_all h1) h63 hbytes (Nat.zero_le _)
  have hw := append_where ht hown hl' hnews (one_all h1) h63 hbytes hr
  have hkind := append_kind ht hown hl' hnews (one_all h1) h63 hbytes hr
  have he : (execOp a.eval ⟨some d, .call ⟨.builtin .append, #[x, y], #[t, t]⟩, ty, p, g, none⟩).run P w = .ok (.value v') w' := by
   simp only [execOp, resolve, invoke, builtin]
   simp [ha.eval hx, ha.eval hy, hr]
  unfold Oper.wp; rw [he]
  have hin : ∀ u ∈ us ++ [v], ∀ g, u.ownBlock = some g → g ∈ (grpA e sz m v k us).S := by
   intro u hu g hgb
   rcases List.mem_append.1 hu with hu | hu
   ·exact List.mem_append_right _ (blks_mem.2 ⟨u, hu, hgb⟩)
   ·simp only [List.mem_singleton] at hu
    rw [hu] at hgb
    exact List.mem_append_left _ (by rw [hgb]; simp)
  have hold : ∀ u ∈ us ++ [v], marked w u m ∧ short u k := by
   intro u hu
   rcases List.mem_append.1 hu with hu | hu
   ·exact hs.res.1.2 u hu
   ·simp only [List.mem_singleton] at hu
    subst hu
    refine ⟨marked_own hown, ?_⟩
    rcases hown.2 with ⟨rfl, rfl⟩ | ⟨g, cap, cur, rfl, _⟩
    ·exact ⟨_, _, _, rfl, Nat.le_refl _⟩
    ·exact ⟨_, _, _, rfl, Nat.le_refl _⟩
  have hGlt : ∀ g ∈ (grpA e sz m v k us).S, g < w.heap.size := fun g hg => (hs.rhi g (List.mem_append_left _ hg)).2
  have hA : (grpA e sz m v' (k + 1) (us ++ [v])).A w' := by
   refine ⟨ho, fun u hu => ⟨?_, ?_⟩⟩
   ·obtain ⟨hm, pu, ku, cu, rfl, hku⟩ := hold u hu
    by_cases hsame : (Value.slice pu ku cu).ownBlock = v.ownBlock ∧ v'.ownBlock = v.ownBlock
    ·obtain ⟨p', n', c', he', hbb, hmm⟩ := hm
     cases he'
     refine ⟨pu, ku, cu, rfl, hbb, fun h0 => ?_⟩
     obtain ⟨gg, rfl, _⟩ := hmm h0
     refine ⟨gg, rfl, fun j tt x hj hx => ?_⟩
     have hvb : v'.ownBlock = some gg := by rw [hsame.2, ← hsame.1]; rfl
     have hcell := ho.cells (g := gg) (by
      rcases ho.2 with ⟨_, h0'⟩ | ⟨g', cap, cur, hv', _⟩
      ·omega
      ·rw [hv'] at hvb ⊢; simp only [Value.ownBlock, Option.some.injEq] at hvb ⊢; exact hvb) (j * m.length + tt) x (rep_get m (k + 1) j tt x (by omega) hx)
     rw [Addr.add_lit, Nat.zero_add] at hcell; exact hcell
    ·refine marked_kept hm (fun q hq => ?_)
     have hqb : (Value.slice pu ku cu).ownBlock = some q := by
      cases hb' : (Value.slice pu ku cu).ownBlock with
      | none => rw [hb'] at hq; simp at hq
      | some g' => rw [hb'] at hq; simp at hq; rw [hq]
     have hqlt := hGlt q (hin _ hu q hqb)
     rcases hkind with h2 | h2
     ·exact hg.block q hqlt (fun e' => hsame ⟨by rw [hqb, e'], h2⟩)
     ·exact h2 q hqlt
   ·obtain ⟨_, pu, ku, cu, rfl, hku⟩ := hold u hu
    exact ⟨pu, ku, cu, rfl, by omega⟩
  refine hK _ _ ((h v').go w' (hs.turn ⟨hg.os, hg.tape, hg.output⟩ hg.size (fun q hq hn => hg.block q hq (fun e' => hn (List.mem_append_left _ (by rw [← e']; simp)))) hA (fun q hq => ?_)) _ (ha.put hd v'))
  rcases List.mem_append.1 hq with hq | hq
  ·have hqb : v'.ownBlock = some q := by
    cases hb' : v'.ownBlock with
    | none => rw [hb'] at hq; simp at hq
    | some g' => rw [hb'] at hq; simp at hq; rw [hq]
   refine ⟨owns_lt ho q hqb, ?_⟩
   rcases hw q hqb with h2 | h2
   ·exact .inl (List.mem_append_left _ (by rw [h2]; simp))
   ·exact .inr h2
  ·obtain ⟨u, hu, hb'⟩ := blks_mem.1 hq
   have := hin u hu q hb'
   exact ⟨Nat.lt_of_lt_of_le (hGlt q this) hg.size, .inl this⟩⟩
end
end Go.Proofs.YtpofmnfkdkmieaaGreat.E
namespace Go.Proofs.YtpofmnfkdkmieaaGreat.E
open Go Go.RowKit
def RkZ (b : Nat) (w : World) (Rin : Asr) (ok : Value → List Value → Asr → Prop) : Ending → World → Prop := fun e w' => ∃ v cs' R', e = .returned v ∧ ok v cs' R' ∧ Sat w (b :: Rin.S) [(b, cs')] R' w'
/-- A method that owns its receiver's block and Rin. -/
def RkP (P : Program) (f : FuncId) (args : Array Value) (b : Nat) (cs : List Value) (Rin : Asr) (ok : Value → List Value → Asr → Prop) : Prop := ∀ w, Sat w (b :: Rin.S) [(b, cs)] Rin w → Calls P f args w (RkZ b w Rin ok)
theorem rk_now {w0 w : World} {F : List Nat} {H : Hp} {R Rin : Asr} {b i : Nat} {cs : List Value} (hs : Sat w0 F H (Rin.and R) w) (hp : H[i]? = some (b, cs)) : Sat w (b :: Rin.S) [(b, cs)] Rin w := by
 have hm := List.mem_of_getElem? hp
 refine ⟨Fr.refl _ _, ?_, ?_, by simp, hs.res.1, fun k hk => ⟨.inl (List.mem_cons_of_mem _ hk), (hs.rhi k (List.mem_append_left _ hk)).2⟩, ?_⟩
 ·intro p hq
  simp only [List.mem_singleton] at hq
  subst hq; exact hs.own _ hm
 ·intro p hq
  simp only [List.mem_singleton] at hq
  subst hq; exact .inl List.mem_cons_self
 ·intro p hq hk
  simp only [List.mem_singleton] at hq
  subst hq; exact hs.rapart _ hm (List.mem_append_left _ hk)
theorem rk_then {w0 w w' : World} {F : List Nat} {H : Hp} {R R' Rin : Asr} {b i : Nat} {cs cs' : List Value} (hs : Sat w0 F H (Rin.and R) w) (hp : H[i]? = some (b, cs)) (hw : Sat w (b :: Rin.S) [(b, cs')] R' w') : Sat w0 F (H.set i (b, cs')) (R'.and R) w' := by
 have hm := List.mem_of_getElem? hp
 have hmap : (H.set i (b, cs')).map (·.1) = H.map (·.1) := by
  rw [List.map_set]
  exact set_same (by rw [List.getElem?_map, hp]; rfl)
 have hkeep : ∀ p ∈ H.set i (b, cs'), p = (b, cs') ∨ (p ∈ H ∧ p.1 ≠ b) := by
  intro p hpm
  obtain ⟨j, hj⟩ := List.mem_iff_getElem?.1 hpm
  rw [List.getElem?_set] at hj
  split at hj
  ·split at hj
   ·cases hj; exact .inl rfl
   ·cases hj
  ·rename_i hij
   refine .inr ⟨List.mem_of_getElem? hj, fun e => ?_⟩
   have h1 : (H.map (·.1))[i]? = some b := by rw [List.getElem?_map, hp]; rfl
   have h2 : (H.map (·.1))[j]? = some b := by rw [List.getElem?_map, hj, ← e]; rfl
   exact hij (nodup_idx hs.apart h1 h2)
 have hin : ∀ k ∈ Rin.S, (k ∈ F ∨ w0.heap.size ≤ k) ∧ k < w.heap.size := fun k hk => hs.rhi k (List.mem_append_left _ hk)
 have hnew : ∀ k ∈ R'.S, (k ∈ Rin.S ∨ w.heap.size ≤ k) ∧ k < w'.heap.size := by
  intro k hk
  refine ⟨(hw.rhi k hk).1.elim (fun h => ?_) .inr, (hw.rhi k hk).2⟩
  rcases List.mem_cons.1 h with h | h
  ·subst h
   exact absurd hk (hw.rapart (k, cs') List.mem_cons_self)
  ·exact .inl h
 have hold : ∀ k, k < w.heap.size → k ≠ b → k ∉ Rin.S → w'.heap[k]? = w.heap[k]? := fun k hk hne hni => hw.low.block k hk (fun h => (List.mem_cons.1 h).elim hne hni)
 have hRb : ∀ k ∈ R.S, k ≠ b ∧ k ∉ Rin.S := fun k hk => ⟨fun e => hs.rapart _ hm (List.mem_append_right _ (by rw [← e]; exact hk)), fun h => hs.res.2.2 k h hk⟩
 have hRr : ∀ k ∈ R.S, (k ∈ F ∨ w0.heap.size ≤ k) ∧ k < w.heap.size := fun k hk => hs.rhi k (List.mem_append_right _ hk)
 refine ⟨hs.low.trans hw.low ?_, ?_, ?_, by rw [hmap]; exact hs.apart, ⟨hw.res, ?_, ?_⟩, ?_, ?_⟩
 ·intro x hx
  rcases List.mem_cons.1 hx with rfl | hx
  ·exact hs.hi _ hm
  ·exact (hin x hx).1
 ·intro p hpm
  rcases hkeep p hpm with rfl | ⟨hq, hne⟩
  ·exact hw.own _ List.mem_cons_self
  ·rw [hold p.1 (hs.lt hq) hne (fun h => hs.rapart p hq (List.mem_append_left _ h))]; exact hs.own p hq
 ·intro p hpm
  rcases hkeep p hpm with rfl | ⟨hq, _⟩
  ·exact hs.hi (b, cs) hm
  ·exact hs.hi p hq
 ·exact R.st w w' hs.res.2.1 (fun k hk => hold k (hRr k hk).2 (hRb k hk).1 (hRb k hk).2)
 ·intro k hk hk2
  rcases (hnew k hk).1 with h | h
  ·exact (hRb k hk2).2 h
  ·have := (hRr k hk2).2; omega
 ·intro k hk
  rcases List.mem_append.1 hk with hk | hk
  ·refine ⟨?_, (hnew k hk).2⟩
   rcases (hnew k hk).1 with h | h
   ·exact (hin k h).1
   ·exact .inr (Nat.le_trans hs.low.size h)
  ·exact ⟨(hRr k hk).1, Nat.lt_of_lt_of_le (hRr k hk).2 hw.low.size⟩
 ·intro p hpm hk
  rcases List.mem_append.1 hk with hk | hk
  ·rcases hkeep p hpm with rfl | ⟨hq, _⟩
   ·exact hw.rapart (b, cs') List.mem_cons_self hk
   ·rcases (hnew _ hk).1 with h | h
    ·exact hs.rapart p hq (List.mem_append_left _ h)
    ·have := hs.lt hq; omega
  ·rcases hkeep p hpm with rfl | ⟨hq, _⟩
   ·exact hs.rapart (b, cs) hm (List.mem_append_right _ hk)
   ·exact hs.rapart p hq (List.mem_append_right _ hk)
section
variable {P : Program} {n : Nat} {E : Env} {w0 : World} {F : List Nat} {H : Hp} {R : Asr} {fn : Func} {Z : Ending → World → Prop} {κ : List Kf}
theorem WL_callK {all : Array Oper} {l : List Oper} {d f b : Nat} {xs : List Operand} {vs : List Value} {ts : Array TypeId} {t : TypeId} {p : String} {e : Array Edge} {cs : List Value} {Rin : Asr} {ok : Value → List Value → Asr → Prop} (hf : IsFn P f)
  (hd : Nat.blt d n = true) (hx : args E xs = some vs) (i : Nat) (hp : H[i]? = some (b, cs)) (hc : RkP P f vs.toArray b cs Rin ok)
  (h : ∀ v cs' R', ok v cs' R' → WL P n all l ((d, v) :: E) w0 F (H.set i (b, cs')) (R'.and R) fn Z κ) :
  WL P n all (⟨some d, .call ⟨.value (.func f), xs.toArray, ts⟩, t, p, e, none⟩ :: l) E w0 F H (Rin.and R) fn Z κ :=
 ⟨fun w hs a ha => wpList_plain rfl fun K hK => by
  unfold Oper.wp; rw [run_call rfl hf, args_map ha xs vs hx]
  refine Calls.mono (hc w (rk_now hs hp)) ?_
  rintro e w' ⟨v, cs', R', rfl, hok, hw⟩
  exact hK _ _ ((h v cs' R' hok).go w' (rk_then hs hp hw) _ (ha.put hd _))⟩
theorem Rk_end0 {w : World} {b : Nat} {cs' : List Value} {Rin : Asr} {ok : Value → List Value → Asr → Prop} (hr : fn.results = #[]) (i : Nat) (hp : H[i]? = some (b, cs')) (h : ok (.tuple #[]) cs' R) :
  WQ P n .normal E w (b :: Rin.S) H R fn (RkZ b w Rin ok) [] :=
 WQ_end0 hr fun _ hs => ⟨_, cs', R, rfl, h, hs.only hp⟩
theorem Rk_endR {w : World} {b : Nat} {cs' : List Value} {Rin : Asr} {ok : Value → List Value → Asr → Prop} {v : Value} (hr : Res P n E w (b :: Rin.S) H R fn v) (i : Nat) (hp : H[i]? = some (b, cs')) (h : ok v cs' R) :
  WQ P n .ret E w (b :: Rin.S) H R fn (RkZ b w Rin ok) [] :=
 WQ_res' hr fun _ hs => ⟨v, cs', R, rfl, h, hs.only hp⟩
theorem put_take {cs vs : List Value} {o N : Nat} (h1 : o + vs.length ≤ N) (h2 : N ≤ cs.length) : (put cs o vs).take N = put (cs.take N) o vs := by
 unfold put
 rw [List.take_take, Nat.min_eq_left (by omega), List.take_append, List.take_of_length_le (by simp only [List.length_append, List.length_take]; omega)]
 congr 1
 rw [List.drop_take]
 congr 1
 simp only [List.length_append, List.length_take]
 omega
theorem put_length {cs vs : List Value} {o : Nat} (h : o + vs.length ≤ cs.length) : (put cs o vs).length = cs.length := by
 unfold put
 simp only [List.length_append, List.length_take, List.length_drop]
 omega
/-- A struct is laid into a list of one's own. -/
theorem WL_storeRow {all : Array Oper} {l : List Oper} {t ty k e sz : TypeId} {x y : Operand} {p : String} {ed : Array Edge} {g o cnt cap : Nat} {xs vs : List Value} (ht : TN P t k) (hx : ev E x = some (.pointer (some ⟨g, o, none⟩))) (hy : ev E y = some (.agg vs.toArray))
  (hl : vs.length = k) (h1 : vs.all (·.oneCell') = true) (hf : o + vs.length ≤ cnt * sz) (h : WL P n all l E w0 F H ((ownA e sz (.slice (some ⟨g, 0, none⟩) cnt cap) cnt (put xs o vs)).and R) fn Z κ) :
  WL P n all (⟨none, .store t x y, ty, p, ed, none⟩ :: l) E w0 F H ((ownA e sz (.slice (some ⟨g, 0, none⟩) cnt cap) cnt xs).and R) fn Z κ :=
 ⟨fun w hs a ha => wpList_plain rfl fun K hK => by
  have hown : w.ownsRow 0 e sz (.slice (some ⟨g, 0, none⟩) cnt cap) cnt xs := hs.res.1
  have hxl := hown.1
  rcases hown.2 with ⟨hc, _⟩ | ⟨g', cap', cur, hc, h0, hg, hnc, hcm, hcs, htake⟩
  ·cases hc
  ·cases hc
   have hcl : cnt * sz ≤ cur.size := by rw [hcs]; exact Nat.mul_le_mul_right _ hnc
   have hst := run_storeCells_at P g o e vs 0 cur w hg (by simpa using (by omega : o + vs.length ≤ cur.size)) (one_all h1)
   have hz := (ht w).2
   have hr : (execOp a.eval ⟨none, .store t x y, ty, p, ed, none⟩).run P w = .ok .skip (w.setRow g (put cur.toList o vs).toArray) := by
    simp only [execOp]
    rw [ha.eval hx, ha.eval hy]
    simp only [Instr.storeAt, Instr.sureAddr, storeVar, Value.cells]
    simp [hz, hl, hst, put]
   unfold Oper.wp; rw [hr]
   refine hK _ _ (h.go _ (hs.turn (w' := w.setRow g (put cur.toList o vs).toArray) ⟨rfl, rfl, rfl⟩ (by simp) (fun q _ hn => setRow_other w g q _ (fun e' => hn (by rw [e']; simp [ownA, Value.ownBlock]))) ?_ (fun q hq => ?_)) _ ha)
   ·refine ⟨by rw [put_length (by rw [hxl]; omega)]; exact hxl, .inr ⟨g, cap, (put cur.toList o vs).toArray, rfl, h0, setRow_heap w g cur _ e _ hg, hnc, hcm, ?_, ?_⟩⟩
    ·rw [List.size_toArray, put_length (by have h9 := Array.length_toList (xs := cur); omega), Array.length_toList]; exact hcs
    ·show (put cur.toList o vs).take (cnt * sz) = put xs o vs
     rw [put_take hf (by have h9 := Array.length_toList (xs := cur); omega), htake]
   ·refine ⟨?_, .inl hq⟩
    have : (w.setRow g (put cur.toList o vs).toArray).heap.size = w.heap.size := by simp
    rw [this]; exact (hs.rhi q (List.mem_append_left _ hq)).2⟩
/-- One more is made a mark. -/
theorem put_rep {m xs : List Value} {i : Nat} (hm : (i + 1) * m.length ≤ xs.length) : put (rep m i ++ xs.drop (i * m.length)) (i * m.length) m = rep m (i + 1) ++ xs.drop ((i + 1) * m.length) := by
 unfold put
 have h1 : (rep m i).length = i * m.length := rep_length m i
 rw [List.take_append, List.take_of_length_le (by omega), h1, Nat.sub_self, List.take_zero, List.append_nil, rep, List.drop_append, List.drop_of_length_le (by omega), List.nil_append, List.drop_drop, h1]
 congr 2
 rw [Nat.add_mul]; omega
end
end Go.Proofs.YtpofmnfkdkmieaaGreat.E
