/- What is proved here: what each operation gives that computes or reads, over any program whose types are as told. -/
import Derived.Test.YtpofmnfkdkmieaaGreatQ01
import Derived.Lib.AppendStr
set_option linter.unusedVariables false
set_option linter.unusedSimpArgs false
namespace Go.Proofs.YtpofmnfkdkmieaaGreat.E
open Go Go.RowKit

def FF (P : Program) (s f k : Nat) : Prop := ∀ (b off : Nat) (w : World), (Instr.fieldAt s (.pointer (some ⟨b, off, none⟩)) f).run P w = .ok (.pointer (some ⟨b, off + k, none⟩)) w
def T1 (P : Program) (t : Nat) : Prop := ∀ w : World, (isAgg t).run P w = .ok false w ∧ (sizeOf t).run P w = .ok 1 w
def TZ (P : Program) (t : Nat) (zs : List Value) : Prop := ∀ w : World, (do pure (← zeroValue t).cells : Sem (Array Value)).run P w = .ok zs.toArray w
def TN (P : Program) (t n : Nat) : Prop := ∀ w : World, (isAgg t).run P w = .ok true w ∧ (sizeOf t).run P w = .ok n w
def TS (P : Program) (t e n : Nat) : Prop := P.underlying t = some (.slice e) ∧ ∀ w : World, (sizeOf e).run P w = .ok n w
def TStr (P : Program) (t : Nat) : Prop := P.underlying t = some .string
def TI (P : Program) (t : Nat) (k : IntKind) : Prop := P.underlying t = some (.int k)

def eqS (x y : ByteArray) : Bool := decide (x = y)
theorem eqS_beq (x y : ByteArray) : (x.toList == y.toList) = eqS x y := by
  unfold eqS
  rw [ByteArray.toList_eq, ByteArray.toList_eq]
  by_cases h : x = y
  · subst h; simp
  · rw [decide_eq_false h]
    refine beq_eq_false_iff_ne.2 fun e => h ?_
    cases x; cases y
    simp only at e
    rw [Array.toList_inj] at e
    rw [e]

section
variable {P : Program} {n : Nat} {E : Env} {w0 : World} {F : List Nat} {H : Hp} {R : Asr}

theorem Ex_move {x : Operand} {v : Value} (hx : ev E x = some v) : Ex P n E w0 F H R (.move x) v := ⟨fun w _ a ha _ _ _ _ _ => by
  simp only [execOp]; rw [ha.eval hx]; rfl⟩
theorem Ex_assign {x : Operand} {v : Value} (hx : ev E x = some v) : Ex P n E w0 F H R (.assign x) v := ⟨fun w _ a ha _ _ _ _ _ => by
  simp only [execOp]; rw [ha.eval hx]; rfl⟩
theorem Ex_pickT {c x y : Operand} {v : Value} (hc : ev E c = some (.bool true)) (hx : ev E x = some v) : Ex P n E w0 F H R (.pick c x y) v := ⟨fun w _ a ha _ _ _ _ _ => by
  simp only [execOp]; rw [ha.eval hx, ha.eval hc]; rfl⟩
theorem Ex_pickF {c x y : Operand} {v : Value} (hc : ev E c = some (.bool false)) (hy : ev E y = some v) : Ex P n E w0 F H R (.pick c x y) v := ⟨fun w _ a ha _ _ _ _ _ => by
  simp only [execOp]; rw [ha.eval hy, ha.eval hc]; rfl⟩

theorem Ex_bin {op : BinOp} {t t' : TypeId} {x y : Operand} {k : IntKind} {i j : Int} {v : Value} (hx : ev E x = some (.int k i)) (hy : ev E y = some (.int k j))
    (h : ∀ w : World, (binOp op t (.int k i) (.int k j)).run P w = .ok v w) : Ex P n E w0 F H R (.binOp op t x y t') v := ⟨fun w _ a ha _ _ _ _ _ => by
  simp only [execOp]; rw [ha.eval hx, ha.eval hy, eqGuard_at_int]
  have := h w
  simp [this]⟩
theorem Ex_add {t t' : TypeId} {x y : Operand} {k : IntKind} {i j : Int} (hx : ev E x = some (.int k i)) (hy : ev E y = some (.int k j)) : Ex P n E w0 F H R (.binOp .add t x y t') (.int k (k.wrap (i + j))) :=
  Ex_bin hx hy fun w => by simp [binOp, Op.intArith]
theorem Ex_sub {t t' : TypeId} {x y : Operand} {k : IntKind} {i j : Int} (hx : ev E x = some (.int k i)) (hy : ev E y = some (.int k j)) : Ex P n E w0 F H R (.binOp .sub t x y t') (.int k (k.wrap (i - j))) :=
  Ex_bin hx hy fun w => by simp [binOp, Op.intArith]
theorem Ex_mul {t t' : TypeId} {x y : Operand} {k : IntKind} {i j : Int} (hx : ev E x = some (.int k i)) (hy : ev E y = some (.int k j)) : Ex P n E w0 F H R (.binOp .mul t x y t') (.int k (k.wrap (i * j))) :=
  Ex_bin hx hy fun w => by simp [binOp, Op.intArith]
theorem wrap_in (k : Int) (h : -9223372036854775808 ≤ k ∧ k ≤ 9223372036854775807) : IntKind.i64.wrap k = k := by
  rw [IntWalk.i64_left]; exact IntWalk.wrap64_in k h
theorem Ex_inc {t t' : TypeId} {x y : Operand} {k : Nat} (hx : ev E x = some (.int .i64 (k : Nat))) (hy : ev E y = some (.int .i64 1)) (hk : k < 9223372036854775807) : Ex P n E w0 F H R (.binOp .add t x y t') (.int .i64 ((k + 1 : Nat) : Int)) := by
  have := Ex_add (P := P) (n := n) (w0 := w0) (F := F) (H := H) (R := R) (t := t) (t' := t') hx hy
  rw [wrap_in _ (by omega)] at this
  exact this
theorem Ex_subB {t t' : TypeId} {x y : Operand} {i j : Int} (hx : ev E x = some (.int .i64 i)) (hy : ev E y = some (.int .i64 j)) (hk : -9223372036854775808 ≤ i - j ∧ i - j ≤ 9223372036854775807) : Ex P n E w0 F H R (.binOp .sub t x y t') (.int .i64 (i - j)) := by
  have := Ex_sub (P := P) (n := n) (w0 := w0) (F := F) (H := H) (R := R) (t := t) (t' := t') hx hy
  rw [wrap_in _ hk] at this
  exact this
theorem Ex_mulB {t t' : TypeId} {x y : Operand} {i j : Int} (hx : ev E x = some (.int .i64 i)) (hy : ev E y = some (.int .i64 j)) (hk : -9223372036854775808 ≤ i * j ∧ i * j ≤ 9223372036854775807) : Ex P n E w0 F H R (.binOp .mul t x y t') (.int .i64 (i * j)) := by
  have := Ex_mul (P := P) (n := n) (w0 := w0) (F := F) (H := H) (R := R) (t := t) (t' := t') hx hy
  rw [wrap_in _ hk] at this
  exact this
theorem Ex_lss {t t' : TypeId} {x y : Operand} {k : IntKind} {i j : Int} (hx : ev E x = some (.int k i)) (hy : ev E y = some (.int k j)) : Ex P n E w0 F H R (.binOp .lss t x y t') (.bool (decide (i < j))) :=
  Ex_bin hx hy fun w => by simp [binOp, Op.intCmp]
theorem Ex_leq {t t' : TypeId} {x y : Operand} {k : IntKind} {i j : Int} (hx : ev E x = some (.int k i)) (hy : ev E y = some (.int k j)) : Ex P n E w0 F H R (.binOp .leq t x y t') (.bool (decide (i ≤ j))) :=
  Ex_bin hx hy fun w => by simp [binOp, Op.intCmp]
theorem Ex_eql {t t' : TypeId} {x y : Operand} {k : IntKind} {i j : Int} (hx : ev E x = some (.int k i)) (hy : ev E y = some (.int k j)) : Ex P n E w0 F H R (.binOp .eql t x y t') (.bool (decide (i = j))) :=
  Ex_bin hx hy fun w => by
    have e : (i == j) = decide (i = j) := by by_cases h : i = j <;> simp [h]
    simp [binOp, Op.intCmp, e]
theorem Ex_neq {t t' : TypeId} {x y : Operand} {k : IntKind} {i j : Int} (hx : ev E x = some (.int k i)) (hy : ev E y = some (.int k j)) : Ex P n E w0 F H R (.binOp .neq t x y t') (.bool (!decide (i = j))) :=
  Ex_bin hx hy fun w => by
    have e : (i != j) = !decide (i = j) := by by_cases h : i = j <;> simp [h]
    simp [binOp, Op.intCmp, e]
theorem Ex_not {t : TypeId} {x : Operand} {b : Bool} (hx : ev E x = some (.bool b)) : Ex P n E w0 F H R (.unOp .not t x) (.bool (!b)) := ⟨fun w _ a ha _ _ _ _ _ => by
  simp only [execOp]; rw [ha.eval hx]; rfl⟩
theorem Ex_conv {s d : TypeId} {x : Operand} {k k' : IntKind} {i : Int} (hs : TI P s k) (hd : TI P d k') (hx : ev E x = some (.int k i)) : Ex P n E w0 F H R (.convert s d x) (.int k' (k'.wrap i)) := ⟨fun w _ a ha _ _ _ _ _ => by
  simp only [execOp]; rw [ha.eval hx]
  simp [convert, run_underlying hs, run_underlying hd, Conv.intToInt]⟩

theorem Ex_lenS {t : TypeId} {x : Operand} {s : ByteArray} (ht : TStr P t) (hx : ev E x = some (.string s)) : Ex P n E w0 F H R (.call ⟨.builtin .len, #[x], #[t]⟩) (.int .i64 (s.size : Int)) := ⟨fun w _ a ha _ _ _ _ _ => by
  simp only [execOp, resolve, invoke, builtin]
  simp [ha.eval hx, Builtin.len_, run_underlying ht, goInt]⟩
theorem Ex_lenL {t e k : TypeId} {x : Operand} {p : Option Addr} {l c : Nat} (ht : TS P t e k) (hx : ev E x = some (.slice p l c)) : Ex P n E w0 F H R (.call ⟨.builtin .len, #[x], #[t]⟩) (.int .i64 (l : Int)) := ⟨fun w _ a ha _ _ _ _ _ => by
  simp only [execOp, resolve, invoke, builtin]
  simp [ha.eval hx, Builtin.len_, run_underlying ht.1, goInt]⟩
theorem Ex_binS {op : BinOp} {t t' : TypeId} {x y : Operand} {i j : ByteArray} {v : Value} (hx : ev E x = some (.string i)) (hy : ev E y = some (.string j))
    (h : ∀ w : World, (Op.stringOp op i j).run P w = .ok v w) (hb : binOp op t (.string i) (.string j) = Op.stringOp op i j) : Ex P n E w0 F H R (.binOp op t x y t') v := ⟨fun w _ a ha _ _ _ _ _ => by
  simp only [execOp]; rw [ha.eval hx, ha.eval hy, eqGuard_at_string]
  have := h w
  simp [hb, this]⟩
theorem Ex_eqlS {t t' : TypeId} {x y : Operand} {i j : ByteArray} (hx : ev E x = some (.string i)) (hy : ev E y = some (.string j)) : Ex P n E w0 F H R (.binOp .eql t x y t') (.bool (eqS i j)) :=
  Ex_binS hx hy (fun w => by simp only [Op.stringOp, eqS_beq]; rfl) (by simp [binOp])
theorem Ex_neqS {t t' : TypeId} {x y : Operand} {i j : ByteArray} (hx : ev E x = some (.string i)) (hy : ev E y = some (.string j)) : Ex P n E w0 F H R (.binOp .neq t x y t') (.bool (!eqS i j)) :=
  Ex_binS hx hy (fun w => by simp only [Op.stringOp, eqS_beq]; rfl) (by simp [binOp])
theorem Ex_addS {t t' : TypeId} {x y : Operand} {i j : ByteArray} (hx : ev E x = some (.string i)) (hy : ev E y = some (.string j)) (hk : i.size + j.size < 9223372036854775807) : Ex P n E w0 F H R (.binOp .add t x y t') (.string (i ++ j)) :=
  Ex_binS hx hy (fun w => by
    have : ¬ (((i.size + j.size : Nat) : Int) > IntKind.i64.max) := by rw [IntKind.max_i64]; omega
    simp only [Op.stringOp]
    rw [if_neg this]; rfl) (by simp [binOp])
theorem Ex_indexS {t : TypeId} {x y : Operand} {s : ByteArray} {k : Nat} (ht : TStr P t) (hx : ev E x = some (.string s)) (hy : ev E y = some (.int .i64 (k : Nat))) (hk : k < s.size) :
    Ex P n E w0 F H R (.index t x y) (.int .u8 (s[k].toNat : Int)) := ⟨fun w _ a ha _ _ _ _ _ => by
  simp only [execOp]; rw [ha.eval hx, ha.eval hy]
  have e : s[k]? = some s[k] := ByteArray.getElem?_lt' s k hk
  simp [Instr.index, asIntOf, run_underlying ht, e]⟩

theorem Ex_sliceTo {t : TypeId} {x hi : Operand} {s : ByteArray} {h : Nat} (ht : TStr P t) (hx : ev E x = some (.string s)) (hh : ev E hi = some (.int .i64 (h : Nat))) (h2 : h ≤ s.size) :
    Ex P n E w0 F H R (.slice t x none (some hi) none) (.string (s.extract 0 h)) := ⟨fun w _ a ha _ _ _ _ _ => by
  simp only [execOp, Option.map_some, Option.map_none]; rw [ha.eval hx, ha.eval hh]
  simp [Instr.sliceAt, run_underlying ht, Instr.slice, Instr.sliceBounds, Instr.sliceBound, asIntOf, h2]⟩
theorem Ex_sliceFrom {t : TypeId} {x lo : Operand} {s : ByteArray} {l : Nat} (ht : TStr P t) (hx : ev E x = some (.string s)) (hl : ev E lo = some (.int .i64 (l : Nat))) (h2 : l ≤ s.size) :
    Ex P n E w0 F H R (.slice t x (some lo) none none) (.string (s.extract l s.size)) := ⟨fun w _ a ha _ _ _ _ _ => by
  simp only [execOp, Option.map_some, Option.map_none]; rw [ha.eval hx, ha.eval hl]
  simp [Instr.sliceAt, run_underlying ht, Instr.slice, Instr.sliceBounds, Instr.sliceBound, asIntOf, h2]⟩
theorem Ex_sliceL {t e k : TypeId} {x hi : Operand} {p : Option Addr} {l c h : Nat} (ht : TS P t e k) (hx : ev E x = some (.slice p l c)) (hh : ev E hi = some (.int .i64 (h : Nat))) (h2 : h ≤ c) :
    Ex P n E w0 F H R (.slice t x none (some hi) none) (.slice p h c) := ⟨fun w _ a ha _ _ _ _ _ => by
  simp only [execOp, Option.map_some, Option.map_none]; rw [ha.eval hx, ha.eval hh]
  have hz := ht.2 w
  have hp : ∀ q : Option Addr, (if c = 0 then q else q.map (·.add 0)) = q := by
    intro q
    split
    · rfl
    · cases q <;> simp [Addr.add]
  simp [Instr.sliceAt, run_underlying ht.1, Instr.slice, Instr.sliceBounds, Instr.sliceBound, asIntOf, h2, hz, hp]⟩
theorem Ex_nil {x : Operand} {b : Addr} (hx : ev E x = some (.pointer (some b))) : Ex P n E w0 F H R (.nilCheck x) (.pointer (some b)) := ⟨fun w _ a ha _ _ _ _ _ => by
  simp only [execOp]; rw [ha.eval hx]; rfl⟩
theorem Ex_field {s f k : Nat} {x : Operand} {b o : Nat} (hf : FF P s f k) (hx : ev E x = some (.pointer (some ⟨b, o, none⟩))) : Ex P n E w0 F H R (.fieldAddr s x f) (.pointer (some ⟨b, o + k, none⟩)) := ⟨fun w _ a ha _ _ _ _ _ => by
  simp only [execOp]; rw [ha.eval hx]
  have := hf b o w
  simp [this]⟩
theorem Ex_at {t e k : Nat} {x y : Operand} {b o l c i : Nat} (ht : TS P t e k) (hx : ev E x = some (.slice (some ⟨b, o, none⟩) l c)) (hy : ev E y = some (.int .i64 (i : Nat))) (hi : i < l) :
    Ex P n E w0 F H R (.indexAddr t x y) (.pointer (some ⟨b, o + i * k, none⟩)) := ⟨fun w _ a ha _ _ _ _ _ => by
  simp only [execOp]; rw [ha.eval hx, ha.eval hy]
  have hz : (sizeOf e).run P w = .ok k w := ht.2 w
  simp [Instr.indexAt, run_underlying ht.1, asIntOf, hi, hz, Addr.add_lit]⟩
structure Cell (w0 : World) (F : List Nat) (H : Hp) (R : Asr) (a : Addr) (v : Value) : Prop where
  go : ∀ w, Sat w0 F H R w → w.cell? a = some v
structure Row (w0 : World) (F : List Nat) (H : Hp) (R : Asr) (b o : Nat) (vs : List Value) : Prop where
  go : ∀ w, Sat w0 F H R w → ∀ j v, vs[j]? = some v → w.cell? ⟨b, o + j, none⟩ = some v
theorem cell_old {a : Addr} {v : Value} (h : w0.cell? a = some v) (_ : a.block < w0.heap.size) : Cell w0 [] H R a v := ⟨fun _ hs => hs.old h (by simp)⟩
theorem cell_mine {b j : Nat} {cs : List Value} {v : Value} (i : Nat) (hp : H[i]? = some (b, cs)) (hv : cs[j]? = some v) : Cell w0 F H R ⟨b, j, none⟩ v :=
  ⟨fun _ hs => by rw [hs.mine (List.mem_of_getElem? hp)]; exact hv⟩
def cut (cs : List Value) (o k : Nat) : List Value := (cs.drop o).take k
theorem row_old {b o : Nat} {vs : List Value} (h : ∀ j v, vs[j]? = some v → w0.cell? ⟨b, o + j, none⟩ = some v) (_ : b < w0.heap.size) : Row w0 [] H R b o vs := ⟨fun _ hs j v hv => hs.old (h j v hv) (by simp)⟩
theorem row_oldF {b o : Nat} {vs : List Value} (h : ∀ j v, vs[j]? = some v → w0.cell? ⟨b, o + j, none⟩ = some v) (hF : b ∉ F) : Row w0 F H R b o vs := ⟨fun _ hs j v hv => hs.old (h j v hv) hF⟩
theorem row_mine {b o : Nat} {cs vs : List Value} (i : Nat) (hp : H[i]? = some (b, cs)) (k : Nat) (hv : cut cs o k = vs) : Row w0 F H R b o vs :=
  ⟨fun _ hs j v hj => by
    rw [hs.mine (List.mem_of_getElem? hp)]
    rw [← hv] at hj
    unfold cut at hj
    rw [List.getElem?_take] at hj
    split at hj
    · rwa [List.getElem?_drop] at hj
    · cases hj⟩
theorem Ex_load {t : Nat} {x : Operand} {a : Addr} {v : Value} (ht : T1 P t) (hx : ev E x = some (.pointer (some a))) (hc : Cell w0 F H R a v) : Ex P n E w0 F H R (.load t x) v := ⟨fun w hs f hf _ _ _ _ _ => by
  simp only [execOp]; rw [hf.eval hx]
  have h1 := (ht w).1
  have h2 := hc.go w hs
  simp [Instr.loadAt, Instr.sureAddr, loadVar, h1, h2]⟩
theorem Ex_loadN {t k : Nat} {x : Operand} {b o : Nat} {vs : List Value} (ht : TN P t k) (hx : ev E x = some (.pointer (some ⟨b, o, none⟩))) (hc : Row w0 F H R b o vs) (hl : vs.length = k) :
    Ex P n E w0 F H R (.load t x) (.agg vs.toArray) := ⟨fun w hs f hf _ _ _ _ _ => by
  simp only [execOp]; rw [hf.eval hx]
  have h1 := (ht w).1
  have h2 := (ht w).2
  have h3 : (loadCells ⟨b, o, none⟩ k).run P w = .ok vs.toArray w := by
    rw [← hl]
    exact run_loadCells_list w ⟨b, o, none⟩ vs fun j v hj => by rw [Addr.add_lit]; exact hc.go w hs j v hj
  simp [Instr.loadAt, Instr.sureAddr, loadVar, h1, h2, h3]⟩
theorem Ex_loadM {t k : Nat} {x : Operand} {b o : Nat} {cs : List Value} (ht : TN P t k) (hx : ev E x = some (.pointer (some ⟨b, o, none⟩))) (i : Nat) (hp : H[i]? = some (b, cs)) (hf : Nat.ble (o + k) cs.length = true) :
    Ex P n E w0 F H R (.load t x) (.agg (cut cs o k).toArray) :=
  Ex_loadN ht hx (row_mine i hp k rfl) (by have := Nat.le_of_ble_eq_true hf; simp only [cut, List.length_take, List.length_drop]; omega)
theorem Ex_ext {x : Operand} {i : Nat} {vs : Array Value} {v : Value} (hx : ev E x = some (.tuple vs)) (hv : vs[i]? = some v) : Ex P n E w0 F H R (.extract x i) v := ⟨fun w _ a ha _ _ _ _ _ => by
  simp only [execOp]; rw [ha.eval hx]
  simp [Instr.extract, hv]⟩
theorem Ex_func {f : Nat} {x : Operand} {v : Value} (hx : ev E x = some v) : Ex P n E w0 F H R (.makeFunc (.func f) #[x] #[]) (.func (.func f) #[v] #[]) := ⟨fun w _ a ha _ _ _ _ _ => by
  simp only [execOp]
  simp [ha.eval hx, Instr.makeFunc]⟩

variable {fn : Func} {Z : Ending → World → Prop} {κ : List Kf}
theorem WL_box {all : Array Oper} {l : List Oper} {d : Nat} {s : TypeId} {x : Operand} {t : TypeId} {p : String} {e : Array Edge} {cs : List Value} (hd : Nat.blt d n = true) (hx : ev E x = some (.agg cs.toArray))
    (h : ∀ b, w0.heap.size ≤ b → WL P n all l ((d, .pointer (some ⟨b, 0, none⟩)) :: E) w0 F ((b, cs) :: H) R fn Z κ) : WL P n all (⟨some d, .box s x, t, p, e, none⟩ :: l) E w0 F H R fn Z κ :=
  ⟨fun w hs a ha => wpList_plain rfl fun K hK => by
    have hr : (execOp a.eval ⟨some d, .box s x, t, p, e, none⟩).run P w = .ok (.value (.pointer (some ⟨w.heap.size, 0, none⟩))) (w.alloc (.cells cs.toArray s)) := by
      simp only [execOp]; rw [ha.eval hx]
      simp [Instr.box, newVar, newRow, Value.cells]
    unfold Oper.wp; rw [hr]
    exact hK _ _ ((h w.heap.size hs.low.size).go (w.alloc _) (hs.alloc cs s) _ (ha.put hd _))⟩
theorem WL_alloc {all : Array Oper} {l : List Oper} {d : Nat} {s : TypeId} {t : TypeId} {p : String} {e : Array Edge} {cs : List Value} (hd : Nat.blt d n = true) (hz : TZ P s cs)
    (h : ∀ b, w0.heap.size ≤ b → WL P n all l ((d, .pointer (some ⟨b, 0, none⟩)) :: E) w0 F ((b, cs) :: H) R fn Z κ) : WL P n all (⟨some d, .alloc s, t, p, e, none⟩ :: l) E w0 F H R fn Z κ :=
  ⟨fun w hs a ha => wpList_plain rfl fun K hK => by
    have hz' : ∃ v, (zeroValue s).run P w = .ok v w ∧ v.cells = cs.toArray := by
      have h1 := hz w
      cases hq : (zeroValue s).run P w with
      | ok v w' => simp [hq] at h1; exact ⟨v, by rw [h1.2], h1.1⟩
      | halt x w' => simp [hq] at h1
    obtain ⟨v, hv, hc⟩ := hz'
    have hr : (execOp a.eval ⟨some d, .alloc s, t, p, e, none⟩).run P w = .ok (.value (.pointer (some ⟨w.heap.size, 0, none⟩))) (w.alloc (.cells cs.toArray s)) := by
      simp only [execOp]
      simp [Instr.alloc, hv, newVar, newRow, hc]
    unfold Oper.wp; rw [hr]
    exact hK _ _ ((h w.heap.size hs.low.size).go (w.alloc _) (hs.alloc cs s) _ (ha.put hd _))⟩
def put (cs : List Value) (o : Nat) (vs : List Value) : List Value := cs.take o ++ vs ++ cs.drop (o + vs.length)
theorem nodup_idx : ∀ {l : List Nat} (_ : l.Nodup) {i j x : Nat} (_ : l[i]? = some x) (_ : l[j]? = some x), i = j
  | [], _, _, _, _, hi, _ => by simp at hi
  | a :: r, h, i, j, x, hi, hj => by
    rw [List.nodup_cons] at h
    cases i with
    | zero =>
      cases j with
      | zero => rfl
      | succ j =>
        simp only [List.getElem?_cons_zero, List.getElem?_cons_succ] at hi hj
        cases hi
        exact absurd (List.mem_of_getElem? hj) h.1
    | succ i =>
      cases j with
      | zero =>
        simp only [List.getElem?_cons_zero, List.getElem?_cons_succ] at hi hj
        cases hj
        exact absurd (List.mem_of_getElem? hi) h.1
      | succ j =>
        simp only [List.getElem?_cons_succ] at hi hj
        rw [nodup_idx h.2 hi hj]
theorem set_same {α : Type} {l : List α} {i : Nat} {x : α} (h : l[i]? = some x) : l.set i x = l := by
  apply List.ext_getElem?
  intro j
  rw [List.getElem?_set]
  split
  · rename_i e
    subst e
    split
    · exact h.symm
    · rename_i hlt; rw [List.getElem?_eq_none (by omega)] at h; cases h
  · rfl
theorem Sat.store {w : World} (h : Sat w0 F H R w) {i b : Nat} {cs new : List Value} (hp : H[i]? = some (b, cs)) : Sat w0 F (H.set i (b, new)) R (w.setRow b new.toArray) := by
  have hm := List.mem_of_getElem? hp
  have hb := h.hi _ hm
  have hne : ∀ k, k ≠ b → (w.setRow b new.toArray).heap[k]? = w.heap[k]? := fun k hk => setRow_other w b k _ (fun e => hk e)
  have hil : i < H.length := by
    rcases Nat.lt_or_ge i H.length with h' | h'
    · exact h'
    · rw [List.getElem?_eq_none h'] at hp; cases hp
  have hmap : (H.set i (b, new)).map (·.1) = H.map (·.1) := by
    rw [List.map_set]
    exact set_same (by rw [List.getElem?_map, hp]; rfl)
  refine ⟨⟨h.low.os, h.low.tape, h.low.output, Nat.le_trans h.low.size (by simp), fun k hk hF => by rw [hne k (fun e => hb.elim (fun hb => hF (e ▸ hb)) (fun hb => by simp only at hb; omega))]; exact h.low.block k hk hF⟩, ?_, ?_, by rw [hmap]; exact h.apart, ?_, ?_, ?_⟩
  · intro p hpm
    obtain ⟨j, hj⟩ := List.mem_iff_getElem?.1 hpm
    rw [List.getElem?_set] at hj
    split at hj
    · cases hj
      obtain ⟨t, ht⟩ := h.own _ hm
      exact ⟨t, setRow_heap w b _ _ t _ ht⟩
    · rename_i hij
      have e : p.1 ≠ b := by
        intro e
        have h1 : (H.map (·.1))[i]? = some b := by rw [List.getElem?_map, hp]; rfl
        have h2 : (H.map (·.1))[j]? = some b := by rw [List.getElem?_map, hj, ← e]; rfl
        exact hij (nodup_idx h.apart h1 h2)
      rw [hne _ e]; exact h.own p (List.mem_of_getElem? hj)
  · intro p hpm
    rcases List.mem_or_eq_of_mem_set hpm with hq | hq
    · exact h.hi p hq
    · subst hq; exact hb
  · exact R.st w _ h.res (fun k hk => hne k (fun e => h.rapart _ hm (e ▸ hk)))
  · intro k hk
    have := h.rhi k hk
    exact ⟨this.1, by simpa using this.2⟩
  · intro p hpm
    rcases List.mem_or_eq_of_mem_set hpm with hq | hq
    · exact h.rapart p hq
    · subst hq; exact h.rapart (b, cs) hm
theorem one_all {vs : List Value} (h : vs.all (·.oneCell') = true) : ∀ v ∈ vs, v.oneCell' = true := by
  intro v hv; exact (List.all_eq_true.1 h) v hv
theorem run_store_own {a : Act} {w : World} {d : Option Tmp} {t ty k : TypeId} {x y : Operand} {p : String} {e : Array Edge} {g : Option (Nat × Bool)} {b o i : Nat} {cs vs : List Value} {v : Value} (ht : ∀ w : World, (sizeOf t).run P w = .ok k w) (hx : a.eval x = .pointer (some ⟨b, o, none⟩)) (hy : a.eval y = v)
    (hv : v.cells = vs.toArray) (hl : vs.length = k) (h1 : vs.all (·.oneCell') = true) (hs : Sat w0 F H R w) (hp : H[i]? = some (b, cs)) (hf : Nat.ble (o + vs.length) cs.length = true) :
    (execOp a.eval ⟨d, .store t x y, ty, p, e, g⟩).run P w = .ok .skip (w.setRow b (put cs o vs).toArray) := by
  obtain ⟨u, hu⟩ := hs.own _ (List.mem_of_getElem? hp)
  simp only at hu
  have hz := ht w
  have hst := run_storeCells_at P b o u vs 0 cs.toArray w hu (by simpa using Nat.le_of_ble_eq_true hf) (one_all h1)
  simp only [execOp]
  rw [hx, hy]
  simp only [Instr.storeAt, Instr.sureAddr, storeVar, hv]
  simp [hz, hl, hst, put]
theorem WL_store {all : Array Oper} {l : List Oper} {t ty : TypeId} {x y : Operand} {p : String} {e : Array Edge} {b o : Nat} {cs : List Value} {v : Value} (ht : T1 P t) (hx : ev E x = some (.pointer (some ⟨b, o, none⟩))) (hy : ev E y = some v)
    (i : Nat) (hp : H[i]? = some (b, cs)) (hv : v.cells = #[v]) (h1 : v.oneCell' = true) (hf : Nat.ble (o + 1) cs.length = true) (h : WL P n all l E w0 F (H.set i (b, put cs o [v])) R fn Z κ) : WL P n all (⟨none, .store t x y, ty, p, e, none⟩ :: l) E w0 F H R fn Z κ :=
  ⟨fun w hs a ha => wpList_plain rfl fun K hK => by
    unfold Oper.wp
    rw [run_store_own (vs := [v]) (fun w => (ht w).2) (ha.eval hx) (ha.eval hy) hv rfl (by simp [h1]) hs hp hf]
    exact hK _ _ (h.go _ (hs.store hp) _ ha)⟩
theorem WL_storeN {all : Array Oper} {l : List Oper} {t ty k : TypeId} {x y : Operand} {p : String} {e : Array Edge} {b o : Nat} {cs vs : List Value} (ht : TN P t k) (hx : ev E x = some (.pointer (some ⟨b, o, none⟩))) (hy : ev E y = some (.agg vs.toArray))
    (i : Nat) (hp : H[i]? = some (b, cs)) (hl : vs.length = k) (h1 : vs.all (·.oneCell') = true) (hf : Nat.ble (o + vs.length) cs.length = true) (h : WL P n all l E w0 F (H.set i (b, put cs o vs)) R fn Z κ) : WL P n all (⟨none, .store t x y, ty, p, e, none⟩ :: l) E w0 F H R fn Z κ :=
  ⟨fun w hs a ha => wpList_plain rfl fun K hK => by
    unfold Oper.wp
    rw [run_store_own (vs := vs) (fun w => (ht w).2) (ha.eval hx) (ha.eval hy) rfl hl h1 hs hp hf]
    exact hK _ _ (h.go _ (hs.store hp) _ ha)⟩
structure IsFn (P : Program) (f : FuncId) : Prop where
  is : ∃ fn, P.funcs[f]? = some fn ∧ fn.body.isNone = false ∧ (fn.name == "runtime.NumGoroutine") = false
theorem run_call {a : Act} {w : World} {o : Oper} {f : FuncId} {xs : Array Operand} {ts : Array TypeId} (ho : o.op = .call ⟨.value (.func f), xs, ts⟩) (hf : IsFn P f) :
    (execOp a.eval o).run P w = .ok (.enter f (xs.map a.eval)) w := by
  obtain ⟨fn, hf, hb, hnm⟩ := hf.is
  have e1 : a.eval (.func f) = .func (.func f) #[] #[] := rfl
  simp [execOp, ho, resolve, e1, Deferred.ofValue, invoke, callFunc, hf]
  rw [if_neg (by simpa using hnm), if_neg (by intro h; rw [h] at hb; cases hb)]
def args (E : Env) : List Operand → Option (List Value)
  | [] => some []
  | x :: r => match ev E x, args E r with | some v, some vs => some (v :: vs) | _, _ => none
theorem args_map {a : Act} (ha : Ag n a E) : ∀ (xs : List Operand) (vs : List Value), args E xs = some vs → (xs.toArray.map a.eval) = vs.toArray
  | [], vs, h => by simp only [args] at h; cases h; simp
  | x :: r, vs, h => by
    simp only [args] at h
    cases hx : ev E x with
    | none => simp [hx] at h
    | some v =>
      cases hr : args E r with
      | none => simp [hx, hr] at h
      | some us =>
        simp [hx, hr] at h
        subst h
        have ih := args_map ha r us hr
        have e := ha.eval hx
        have ih' : r.map a.eval = us := by simpa using ih
        simp [e, ih']
theorem WL_call {all : Array Oper} {l : List Oper} {d f : Nat} {xs : List Operand} {vs : List Value} {ts : Array TypeId} {t : TypeId} {p : String} {e : Array Edge} {v : Value} (hf : IsFn P f)
    (hd : Nat.blt d n = true) (hx : args E xs = some vs) (hc : ∀ w, Sat w0 F H R w → Pure P f vs.toArray w v) (h : WL P n all l ((d, v) :: E) w0 F H R fn Z κ) :
    WL P n all (⟨some d, .call ⟨.value (.func f), xs.toArray, ts⟩, t, p, e, none⟩ :: l) E w0 F H R fn Z κ :=
  ⟨fun w hs a ha => wpList_plain rfl fun K hK => by
    unfold Oper.wp; rw [run_call rfl hf, args_map ha xs vs hx]
    refine (hc w hs).mono ?_
    rintro e w' ⟨rfl, hb'⟩
    exact hK _ _ (h.go w' (hs.keep hb') _ (ha.put hd v))⟩
theorem WL_callYes {all : Array Oper} {l : List Oper} {d f j dj : Nat} {want : Bool} {xs : List Operand} {vs : List Value} {ts : Array TypeId} {t : TypeId} {p : String} {e : Array Edge} {v : Value} (hf : IsFn P f)
    (hj : (all[j]?).bind (·.dst) = some dj) (hl : look E dj = some (.bool want)) (hd : Nat.blt d n = true) (hx : args E xs = some vs) (hc : ∀ w, Sat w0 F H R w → Pure P f vs.toArray w v) (h : WL P n all l ((d, v) :: E) w0 F H R fn Z κ) :
    WL P n all (⟨some d, .call ⟨.value (.func f), xs.toArray, ts⟩, t, p, e, some (j, want)⟩ :: l) E w0 F H R fn Z κ :=
  ⟨fun w hs a ha => wpList_step fun K hK => by
    rw [if_pos (by rw [wanted_of rfl hj ha hl]; exact beq_self_eq_true want)]
    unfold Oper.wp; rw [run_call rfl hf, args_map ha xs vs hx]
    refine (hc w hs).mono ?_
    rintro e w' ⟨rfl, hb'⟩
    exact hK _ _ (h.go w' (hs.keep hb') _ (ha.put hd v))⟩
end
end Go.Proofs.YtpofmnfkdkmieaaGreat.E
namespace Go.Proofs.YtpofmnfkdkmieaaGreat.E
open Go Go.RowKit

theorem owns_kept {w w' : World} {e size n : Nat} {v : Value} {xs : List Value} (h : w.ownsRow 0 e size v n xs) (hk : ∀ k ∈ v.ownBlock.toList, w'.heap[k]? = w.heap[k]?) : w'.ownsRow 0 e size v n xs := by
  refine ⟨h.1, ?_⟩
  rcases h.2 with h2 | ⟨g, cap, cur, hv, h0, hg, hr⟩
  · exact .inl h2
  · refine .inr ⟨g, cap, cur, hv, h0, ?_, hr⟩
    rw [hk g (by rw [hv]; simp [Value.ownBlock])]; exact hg
def ownA (e size : Nat) (v : Value) (n : Nat) (xs : List Value) : Asr := ⟨v.ownBlock.toList, fun w => w.ownsRow 0 e size v n xs, fun _ _ h hk => owns_kept h hk⟩
def Asr.and (R1 R2 : Asr) : Asr := ⟨R1.S ++ R2.S, fun w => R1.A w ∧ R2.A w ∧ ∀ k ∈ R1.S, k ∉ R2.S,
  fun w w' h hk => ⟨R1.st w w' h.1 (fun k hm => hk k (List.mem_append_left _ hm)), R2.st w w' h.2.1 (fun k hm => hk k (List.mem_append_right _ hm)), h.2.2⟩⟩

structure TA (P : Program) (t e size bytes : Nat) (z : Value) : Prop where
  sl : P.underlying t = some (.slice e)
  inf : (P.info? e).map (fun i => (i.zero, i.size, i.bytes)) = some (some z, size, bytes)
  zs : z.cells.size = size
  pos : 0 < size

section
variable {P : Program} {n : Nat} {E : Env} {w0 : World} {F : List Nat} {H : Hp} {R : Asr} {fn : Func} {Z : Ending → World → Prop} {κ : List Kf}

theorem Sat.grown {w w' : World} {e size n' n'' : Nat} {v v' : Value} {xs ys : List Value} (h : Sat w0 F H (Asr.and (ownA e size v n' xs) R) w) (ho : w'.ownsRow 0 e size v' n'' ys) (hg : w.grownBy w' v.ownBlock)
    (hv : ∀ g, v'.ownBlock = some g → v.ownBlock = some g ∨ w.heap.size ≤ g) (hlt : ∀ g, v'.ownBlock = some g → g < w'.heap.size) : Sat w0 F H (Asr.and (ownA e size v' n'' ys) R) w' := by
  have hS : ∀ k, some k = v.ownBlock → k ∈ (Asr.and (ownA e size v n' xs) R).S := fun k hk => List.mem_append_left _ (by show k ∈ v.ownBlock.toList; rw [← hk]; simp)
  have hres := h.res
  refine ⟨h.low.trans (G := v.ownBlock.toList) ⟨hg.os, hg.tape, hg.output, hg.size, fun k hk hn => hg.block k hk (fun e => hn (by rw [← e]; simp))⟩ (fun x hx => ?_), ?_, h.hi, h.apart, ⟨ho, ?_, ?_⟩, ?_, ?_⟩
  · have : some x = v.ownBlock := by
      cases hb : v.ownBlock with
      | none => rw [hb] at hx; simp at hx
      | some g => rw [hb] at hx; simp at hx; rw [hx]
    exact (h.rhi x (hS x this)).1
  · intro p hp
    rw [hg.block p.1 (h.lt hp) (fun e => h.rapart p hp (hS _ e))]; exact h.own p hp
  · exact R.st w w' hres.2.1 (fun k hk => hg.block k (h.rhi k (List.mem_append_right _ hk)).2 (fun e => hres.2.2 k (by show k ∈ v.ownBlock.toList; rw [← e]; simp) hk))
  · intro k hk hk2
    have hk' : v'.ownBlock = some k := by
      cases hb : v'.ownBlock with
      | none => have : k ∈ v'.ownBlock.toList := hk; rw [hb] at this; simp at this
      | some g => have : k ∈ v'.ownBlock.toList := hk; rw [hb] at this; simp at this; rw [this]
    rcases hv k hk' with h1 | h1
    · exact hres.2.2 k (by show k ∈ v.ownBlock.toList; rw [h1]; simp) hk2
    · have := (h.rhi k (List.mem_append_right _ hk2)).2; omega
  · intro k hk
    rcases List.mem_append.1 hk with hk | hk
    · have hk' : v'.ownBlock = some k := by
        cases hb : v'.ownBlock with
        | none => have : k ∈ v'.ownBlock.toList := hk; rw [hb] at this; simp at this
        | some g => have : k ∈ v'.ownBlock.toList := hk; rw [hb] at this; simp at this; rw [this]
      refine ⟨?_, hlt k hk'⟩
      rcases hv k hk' with h1 | h1
      · exact (h.rhi k (hS k h1.symm)).1
      · exact .inr (Nat.le_trans h.low.size h1)
    · have := h.rhi k (List.mem_append_right _ hk)
      exact ⟨this.1, Nat.lt_of_lt_of_le this.2 hg.size⟩
  · intro p hp hk
    rcases List.mem_append.1 hk with hk | hk
    · have hk' : v'.ownBlock = some p.1 := by
        cases hb : v'.ownBlock with
        | none => have : p.1 ∈ v'.ownBlock.toList := hk; rw [hb] at this; simp at this
        | some g => have : p.1 ∈ v'.ownBlock.toList := hk; rw [hb] at this; simp at this; rw [this]
      rcases hv _ hk' with h1 | h1
      · exact h.rapart p hp (hS _ h1.symm)
      · have := h.lt hp; omega
    · exact h.rapart p hp (List.mem_append_right _ hk)
theorem WC_own {c : Code} (e size : Nat) (h : WC P n c E w0 F H (Asr.and (ownA e size (.slice none 0 0) 0 []) R) fn Z κ) : WC P n c E w0 F H R fn Z κ :=
  ⟨fun w hs a ha => h.go w ⟨hs.low, hs.own, hs.hi, hs.apart, ⟨World.ownsRow_nil w 0 e size, hs.res, by simp [ownA, Value.ownBlock]⟩, hs.rhi, hs.rapart⟩ a ha⟩
theorem row_whole {b : Nat} {cs : List Value} (i : Nat) (hp : H[i]? = some (b, cs)) : Row w0 F H R b 0 cs :=
  ⟨fun _ hs j v hj => by rw [hs.mine (List.mem_of_getElem? hp)]; simpa using hj⟩
theorem append_where {w w' : World} {t ty e size bytes : Nat} {z v v' : Value} {k m c : Nat} {xs news : List Value} {a : Addr} (ht : TA P t e size bytes z) (hown : w.ownsRow 0 e size v k xs)
    (hl : news.length = m * size) (hnews : ∀ j u, news[j]? = some u → w.cell? (a.add j) = some u) (h1 : ∀ u ∈ news, u.oneCell' = true)
    (h63 : k + m ≤ maxLen) (hbytes : (k + m) * bytes ≤ 140737488355328) (hr : (Builtin.append_ #[t, t] ty #[v, .slice (some a) m c]).run P w = .ok v' w') :
    ∀ g, v'.ownBlock = some g → v.ownBlock = some g ∨ w.heap.size ≤ g := by
  intro g hg
  obtain ⟨i, hi, hz, hs, hb⟩ := info_parts ht.inf
  subst hs; subst hb
  have hsmall : k + m ≤ 9223372036854775807 := by simp only [maxLen] at h63; omega
  rcases hown.2 with ⟨rfl, rfl⟩ | ⟨g0, cap, cur, rfl, _, hg0, hnc, hcm, hcs, htake⟩
  · by_cases hm : m = 0
    · subst hm
      have hr' : (Builtin.append_ #[t, t] ty #[.slice none 0 0, .slice (some a) 0 c]).run P w = .ok (.slice none 0 0) w := by
        simp [Builtin.append_, run_underlying ht.sl, sizeOf, typeInfo, hi, Builtin.lenOf, Builtin.firstCells, loadCells, loadCellsFrom]
      rw [hr'] at hr; cases hr
      simp [Value.ownBlock] at hg
    · have hr' := run_append_nil (P := P) w t ty e i z ht.sl hi hz a m c news hl hnews (by omega) (by omega) (by have hb := hbytes; simp only [Nat.zero_add] at hb; omega)
      rw [hr] at hr'; cases hr'
      simp only [Value.ownBlock, Option.some.injEq] at hg
      exact .inr (by omega)
  · by_cases hroom : k + m ≤ cap
    · have hfit : k * i.size + news.length ≤ cur.size := by rw [hl, hcs, ← Nat.add_mul]; exact Nat.mul_le_mul_right _ hroom
      have hr' := run_append_room (P := P) w t ty e i ht.sl hi g0 k cap cur hg0 a m c news hl hnews h1 hroom hfit
      rw [hr] at hr'; cases hr'
      exact .inl hg
    · have holds : ∀ j u, xs[j]? = some u → w.cell? ((⟨g0, 0, none⟩ : Addr).add j) = some u := hown.cells (g := g0) rfl
      have hr' := run_append_grow (P := P) w t ty e i z ht.sl hi hz ⟨g0, 0, none⟩ k cap xs hown.1 holds a m c news hl hnews (by omega) (by omega) (growslice_fits (by omega) hbytes)
      rw [hr] at hr'; cases hr'
      simp only [Value.ownBlock, Option.some.injEq] at hg
      exact .inr (by omega)
theorem owns_lt {w : World} {e size k : Nat} {v : Value} {xs : List Value} (h : w.ownsRow 0 e size v k xs) : ∀ g, v.ownBlock = some g → g < w.heap.size := fun g hg => (h.lt g hg).2

theorem WL_app {all : Array Oper} {l : List Oper} {d : Nat} {t ty e size bytes : Nat} {z v : Value} {x y : Operand} {p : String} {g : Array Edge} {k m c b o : Nat} {xs news : List Value} (hd : Nat.blt d n = true) (ht : TA P t e size bytes z) (hx : ev E x = some v)
    (hy : ev E y = some (.slice (some ⟨b, o, none⟩) m c)) (hc : Row w0 F H (Asr.and (ownA e size v k xs) R) b o news) (hl : news.length = m * size) (h1 : news.all (·.oneCell') = true) (h63 : k + m ≤ maxLen) (hbytes : (k + m) * bytes ≤ 140737488355328)
    (h : ∀ v', WL P n all l ((d, v') :: E) w0 F H (Asr.and (ownA e size v' (k + m) (xs ++ news)) R) fn Z κ) :
    WL P n all (⟨some d, .call ⟨.builtin .append, #[x, y], #[t, t]⟩, ty, p, g, none⟩ :: l) E w0 F H (Asr.and (ownA e size v k xs) R) fn Z κ :=
  ⟨fun w hs a ha => wpList_plain rfl fun K hK => by
    obtain ⟨i, hi, hz, hsz, hb⟩ := info_parts ht.inf
    have hnews : ∀ j u, news[j]? = some u → w.cell? ((⟨b, o, none⟩ : Addr).add j) = some u := fun j u hj => by rw [Addr.add_lit]; exact hc.go w hs j u hj
    have hown : w.ownsRow 0 e size v k xs := hs.res.1
    obtain ⟨v', w', hr, ho, hg, _⟩ := run_append_own w 0 t ty e i z size bytes ht.sl hi hz hsz hb ht.zs ht.pos v k xs hown ⟨b, o, none⟩ m c news hl hnews (one_all h1) h63 hbytes (Nat.zero_le _)
    have hw := append_where ht hown hl hnews (one_all h1) h63 hbytes hr
    have he : (execOp a.eval ⟨some d, .call ⟨.builtin .append, #[x, y], #[t, t]⟩, ty, p, g, none⟩).run P w = .ok (.value v') w' := by
      simp only [execOp, resolve, invoke, builtin]
      simp [ha.eval hx, ha.eval hy, hr]
    unfold Oper.wp; rw [he]
    exact hK _ _ ((h v').go w' (hs.grown ho hg hw (owns_lt ho)) _ (ha.put hd v'))⟩
end
end Go.Proofs.YtpofmnfkdkmieaaGreat.E
