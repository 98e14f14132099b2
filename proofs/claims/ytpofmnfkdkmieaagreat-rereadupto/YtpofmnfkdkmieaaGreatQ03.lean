/- What is proved here: rules for structs and slices that are laid out, for bytes that become a text, for a text that is appended. -/
import Derived.Test.YtpofmnfkdkmieaaGreatQ02
set_option linter.unusedVariables false
set_option linter.unusedSimpArgs false
namespace Go.Proofs.YtpofmnfkdkmieaaGreat.E
open Go Go.RowKit

def fillL (place : Nat → Option (Nat × Nat)) (cells : List Value) : List (Nat × Value) → Option (List Value)
  | [] => some cells
  | (i, v) :: rest =>
    match place i with
    | none => none
    | some (off, size) => bif Nat.beq v.cells.toList.length size && Nat.ble (off + v.cells.toList.length) cells.length then fillL place (put cells off v.cells.toList) rest else none
theorem foldl_put (off : Nat) : ∀ (l : List Value) (j : Nat) (cells : List Value), off + j + l.length ≤ cells.length →
    (l.zipIdx j).foldl (fun (cs : Array Value) (x : Value × Nat) => cs.setIfInBounds (off + x.2) x.1) cells.toArray = (put cells (off + j) l).toArray
  | [], j, cells, _ => by simp [put]
  | v :: r, j, cells, h => by
    simp only [List.length_cons] at h
    rw [List.zipIdx_cons, List.foldl_cons]
    have e : cells.toArray.setIfInBounds (off + j) v = (cells.set (off + j) v).toArray := by simp
    simp only [e]
    rw [foldl_put off r (j + 1) (cells.set (off + j) v) (by rw [List.length_set]; omega)]
    have := list_seg_step cells (off + j) v r (by omega)
    unfold put
    rw [List.length_cons, ← this]
    rw [Nat.add_assoc off j 1]
theorem fill_eq (place : Nat → Option (Nat × Nat)) : ∀ (parts : List (Nat × Value)) (cells cs : List Value), fillL place cells parts = some cs → Instr.fill place cells.toArray parts = some cs.toArray
  | [], cells, cs, h => by simp only [fillL] at h; cases h; rfl
  | (i, v) :: r, cells, cs, h => by
    simp only [fillL] at h
    unfold Instr.fill
    cases hp : place i with
    | none => rw [hp] at h; cases h
    | some q =>
      obtain ⟨off, size⟩ := q
      rw [hp] at h
      simp only at h ⊢
      cases hb : Nat.beq v.cells.toList.length size && Nat.ble (off + v.cells.toList.length) cells.length with
      | false => rw [hb] at h; cases h
      | true =>
        rw [hb] at h
        rw [Bool.and_eq_true] at hb
        have e1 := Nat.eq_of_beq_eq_true hb.1
        have e2 := Nat.le_of_ble_eq_true hb.2
        rw [Array.length_toList] at e1 e2
        have hn : ¬ ((decide (v.cells.size ≠ size) || decide (off + v.cells.size > cells.toArray.size)) = true) := by
          simp only [List.size_toArray, Bool.or_eq_true, decide_eq_true_eq]; omega
        rw [if_neg hn]
        have hz : v.cells.zipIdx.foldl (fun cs (x : Value × Nat) => cs.setIfInBounds (off + x.2) x.1) cells.toArray = (put cells off v.cells.toList).toArray := by
          rw [← Array.foldl_toList, Array.toList_zipIdx]
          exact foldl_put off v.cells.toList 0 cells (by rw [Array.length_toList]; omega)
        rw [show (v.cells.zipIdx.foldl (fun cs x => match x with | (c, j) => cs.setIfInBounds (off + j) c) cells.toArray) = (put cells off v.cells.toList).toArray from hz]
        exact fill_eq place r _ cs h

def parts (E : Env) : List (Nat × Operand) → Option (List (Nat × Value))
  | [] => some []
  | (i, x) :: r => match ev E x, parts E r with | some v, some vs => some ((i, v) :: vs) | _, _ => none
theorem parts_map {n : Nat} {E : Env} {a : Act} (ha : Ag n a E) : ∀ (xs : List (Nat × Operand)) (vs : List (Nat × Value)), parts E xs = some vs → (xs.map fun x => (x.1, a.eval x.2)) = vs
  | [], vs, h => by simp only [parts] at h; cases h; rfl
  | (i, x) :: r, vs, h => by
    simp only [parts] at h
    cases hx : ev E x with
    | none => simp [hx] at h
    | some v =>
      cases hr : parts E r with
      | none => simp [hx, hr] at h
      | some us =>
        simp [hx, hr] at h
        subst h
        simp [ha.eval hx, parts_map ha r us hr]

structure TB (P : Program) (t : Nat) (zs : List Value) (places : List (Nat × Nat)) : Prop where
  z : TZ P t zs
  pl : ∃ fields, P.underlying t = some (.struct fields) ∧ ∀ w : World, (fields.mapM fun f => do pure (f.offset, ← sizeOf f.type) : Sem (Array (Nat × Nat))).run P w = .ok places.toArray w
theorem TZ.run {P : Program} {t : Nat} {zs : List Value} (h : TZ P t zs) (w : World) : ∃ v, (zeroValue t).run P w = .ok v w ∧ v.cells = zs.toArray := by
  have h1 := h w
  cases hq : (zeroValue t).run P w with
  | ok v w' => simp [hq] at h1; exact ⟨v, by rw [h1.2], h1.1⟩
  | halt x w' => simp [hq] at h1

section
variable {P : Program} {n : Nat} {E : Env} {w0 : World} {F : List Nat} {H : Hp} {R : Asr} {fn : Func} {Z : Ending → World → Prop} {κ : List Kf}

theorem Ex_build {t : Nat} {ps : List (Nat × Operand)} {vs : List (Nat × Value)} {zs cs : List Value} {places : List (Nat × Nat)} (ht : TB P t zs places) (hp : parts E ps = some vs) (hf : fillL (places.toArray[·]?) zs vs = some cs) :
    Ex P n E w0 F H R (.build t ps.toArray) (.agg cs.toArray) := ⟨fun w _ a ha _ _ _ _ _ => by
  obtain ⟨v, hv, hc⟩ := ht.z.run w
  obtain ⟨fields, hu, hm⟩ := ht.pl
  have hm' := hm w
  have hfl := fill_eq _ _ _ _ hf
  have he := parts_map ha ps vs hp
  simp only [execOp]
  have e2 : (ps.toArray.map fun (x : Nat × Operand) => (x.1, a.eval x.2)) = vs.toArray := by rw [← he]; simp
  rw [show (ps.toArray.map fun x => match x with | (i, x) => (i, a.eval x)) = vs.toArray from e2]
  simp only [Instr.build, Sem.run_bind, hv, Result.andThen, hc, run_underlying hu, hm', hfl]
  simp⟩
def zrow (zs : List Value) : Nat → List Value
  | 0 => []
  | k + 1 => zs ++ zrow zs k
theorem zrow_length (zs : List Value) : ∀ k, (zrow zs k).length = k * zs.length
  | 0 => by simp [zrow]
  | k + 1 => by rw [zrow, List.length_append, zrow_length zs k, Nat.add_mul]; omega
theorem zrow_get (zs : List Value) (hz : 0 < zs.length) : ∀ (k i : Nat), i < k * zs.length → (zrow zs k)[i]? = zs[i % zs.length]?
  | 0, i, h => by omega
  | k + 1, i, h => by
    rw [zrow]
    by_cases hi : i < zs.length
    · rw [List.getElem?_append_left hi, Nat.mod_eq_of_lt hi]
    · rw [List.getElem?_append_right (by omega), zrow_get zs hz k (i - zs.length) (by rw [Nat.add_mul] at h; omega)]
      rw [← Nat.mod_eq_sub_mod (by omega)]
theorem zrow_eq (zs : List Value) (hz : 0 < zs.length) (k : Nat) : (Array.range (k * zs.length)).map (fun i => zs.toArray[i % zs.toArray.size]!) = (zrow zs k).toArray := by
  apply Array.ext_getElem?
  intro i
  rw [Array.getElem?_map]
  by_cases h : i < k * zs.length
  · rw [Array.getElem?_range]
    rw [if_pos h]
    simp only [Option.map_some, List.getElem?_toArray]
    rw [zrow_get zs hz k i h]
    have hm : i % zs.length < zs.length := Nat.mod_lt _ hz
    simp [hm]
  · rw [Array.getElem?_eq_none (by simp; omega)]
    simp only [Option.map_none]
    rw [List.getElem?_toArray, List.getElem?_eq_none (by rw [zrow_length]; omega)]
theorem WL_bs {all : Array Oper} {l : List Oper} {d : Nat} {t e k len ty : Nat} {p : String} {g : Array Edge} {ps : List (Nat × Operand)} {vs : List (Nat × Value)} {zs cs : List Value} (hd : Nat.blt d n = true) (ht : TS P t e k) (hz : TZ P e zs) (hk : zs.length = k) (hpos : Nat.blt 0 (len * k) = true)
    (hsm : Nat.ble (len * k) 16777216 = true) (hp : parts E ps = some vs) (hf : fillL (fun i => some (i * k, k)) (zrow zs len) vs = some cs)
    (h : ∀ b, w0.heap.size ≤ b → WL P n all l ((d, .slice (some ⟨b, 0, none⟩) len len) :: E) w0 F ((b, cs) :: H) R fn Z κ) : WL P n all (⟨some d, .buildSlice t len ps.toArray, ty, p, g, none⟩ :: l) E w0 F H R fn Z κ :=
  ⟨fun w hs a ha => wpList_plain rfl fun K hK => by
    have hpos' : 0 < len * k := by simpa using hpos
    have hsm' : ¬ len * k > 2 ^ 24 := by have := Nat.le_of_ble_eq_true hsm; omega
    obtain ⟨v, hv, hc⟩ := hz.run w
    have hsz := ht.2 w
    have he := parts_map ha ps vs hp
    have e2 : (ps.toArray.map fun (x : Nat × Operand) => (x.1, a.eval x.2)) = vs.toArray := by rw [← he]; simp
    have hzp : 0 < zs.length := by rw [hk]; exact Nat.pos_of_mul_pos_left hpos' |> fun h => h
    have hze := zrow_eq zs hzp len
    rw [hk] at hze
    have hfl := fill_eq _ _ _ _ hf
    have hr : (execOp a.eval ⟨some d, .buildSlice t len ps.toArray, ty, p, g, none⟩).run P w = .ok (.value (.slice (some ⟨w.heap.size, 0, none⟩) len len)) (w.alloc (.cells cs.toArray e)) := by
      simp only [execOp]
      rw [show (ps.toArray.map fun x => match x with | (i, x) => (i, a.eval x)) = vs.toArray from e2]
      have hne : ¬ len * k = 0 := by omega
      simp only [Instr.buildSlice, Sem.run_bind, run_underlying ht.1, Result.andThen, hsz, if_neg hsm', if_neg hne, Sem.run_pure, hv, hc]
      rw [hze]
      simp [hfl, newRow]
    unfold Oper.wp; rw [hr]
    exact hK _ _ ((h w.heap.size hs.low.size).go (w.alloc _) (hs.alloc cs e) _ (ha.put hd _))⟩

theorem foldl_push : ∀ (ns : List UInt8) (s : ByteArray), (ns.map fun b => ((b.toNat : Nat) : Int)).foldl (fun r (n : Int) => r.push (UInt8.ofNat n.toNat)) s = s ++ ⟨ns.toArray⟩
  | [], s => by
    cases s with
    | mk d => show ByteArray.mk d = _; rw [show (ByteArray.mk d ++ ByteArray.mk ([] : List UInt8).toArray) = ByteArray.mk (d ++ ([] : List UInt8).toArray) from ByteArray.ext (ByteArray.data_append ..)]; simp
  | b :: r, s => by
    simp only [List.map_cons, List.foldl_cons]
    rw [foldl_push r]
    have e : UInt8.ofNat ((b.toNat : Nat) : Int).toNat = b := by simp
    rw [e]
    apply ByteArray.ext
    rw [ByteArray.data_append, ByteArray.data_append, ByteArray.data_push]
    simp
def byteV (b : UInt8) : Value := .int .u8 ((b.toNat : Nat) : Int)
theorem Ex_bytes {s d : TypeId} {x : Operand} {e k : Nat} {v : Value} {bs : List UInt8} (hs : P.underlying s = some (.slice e)) (hu : P.underlying e = some (.int .u8)) (hd : P.underlying d = some .string) (hx : ev E x = some v) (hk : bs.length = k) :
    Ex P n E w0 F H (Asr.and (ownA e 1 v k (bs.map byteV)) R) (.convert s d x) (.string ⟨bs.toArray⟩) := ⟨fun w hS a ha _ _ _ _ _ => by
  have hown : w.ownsRow 0 e 1 v k (bs.map byteV) := hS.res.1
  simp only [execOp]; rw [ha.eval hx]
  rcases hown.2 with ⟨rfl, rfl⟩ | ⟨g, cap, cur, rfl, _, hg, _⟩
  · have hb : bs = [] := List.eq_nil_of_length_eq_zero hk
    subst hb
    have := run_convert_bytes_string (P := P) w s d e none 0 0 hs hu hd
    simp [this, Conv.bytesToString]
    rfl
  · have h1 := run_convert_bytes_string (P := P) w s d e (some ⟨g, 0, none⟩) k cap hs hu hd
    have hm : bs.map byteV = (bs.map fun b => ((b.toNat : Nat) : Int)).map (Value.int .u8) := by rw [List.map_map]; rfl
    have hl : (loadCells ⟨g, 0, none⟩ k).run P w = .ok ((bs.map fun b => ((b.toNat : Nat) : Int)).map (Value.int .u8)).toArray w := by
      have := run_loadCells_list (P := P) w ⟨g, 0, none⟩ (bs.map byteV) (hown.cells (g := g) rfl)
      rw [List.length_map, hk, hm] at this
      exact this
    have h2 := run_bytesToString (P := P) w ⟨g, 0, none⟩ k cap _ hl
    rw [foldl_push] at h2
    have e3 : (ByteArray.empty ++ ⟨bs.toArray⟩ : ByteArray) = ⟨bs.toArray⟩ := by apply ByteArray.ext; rw [ByteArray.data_append]; simp
    rw [e3] at h2
    simp [h1, h2]⟩
end
end Go.Proofs.YtpofmnfkdkmieaaGreat.E
namespace Go.Proofs.YtpofmnfkdkmieaaGreat.E
open Go Go.RowKit

def errC : List PanicEntry := [{ v := .iface 48 (.int .i64 1), recovered := false }]
def PureP (P : Program) (f : FuncId) (args : Array Value) (w : World) (ok : Bool) : Prop :=
  Calls P f args w fun e w' => ((ok = true ∧ e = .returned (.tuple #[])) ∨ (ok = false ∧ e = .panicked errC)) ∧ Below w.heap.size w w'
theorem PureP.of_eq {P : Program} {f : FuncId} {args : Array Value} {w : World} {a b : Bool} (h : PureP P f args w a) (e : a = b) : PureP P f args w b := e ▸ h

section
variable {P : Program} {n : Nat} {E : Env} {w0 : World} {F : List Nat} {H : Hp} {R : Asr} {fn : Func} {Z : Ending → World → Prop} {κ : List Kf}

theorem WL_callP {all : Array Oper} {l : List Oper} {d f : Nat} {xs : List Operand} {vs : List Value} {ts : Array TypeId} {t : TypeId} {p : String} {e : Array Edge} {ok : Bool} (hf : IsFn P f)
    (hd : Nat.blt d n = true) (hx : args E xs = some vs) (hc : ∀ w, Sat w0 F H R w → PureP P f vs.toArray w ok) (hy : ok = true → WL P n all l ((d, .tuple #[]) :: E) w0 F H R fn Z κ) (hn : ok = false → WQ P n (.panic errC) E w0 F H R fn Z κ) :
    WL P n all (⟨some d, .call ⟨.value (.func f), xs.toArray, ts⟩, t, p, e, none⟩ :: l) E w0 F H R fn Z κ :=
  ⟨fun w hs a ha => wpList_plain rfl fun K hK => by
    unfold Oper.wp; rw [run_call rfl hf, args_map ha xs vs hx]
    refine (hc w hs).mono ?_
    rintro e w' ⟨h1, hb'⟩
    rcases h1 with ⟨hok, rfl⟩ | ⟨hok, rfl⟩
    · exact hK _ _ ((hy hok).go w' (hs.keep hb') _ (ha.put hd _))
    · exact (hn hok).go w' (hs.keep hb') _ ha⟩
theorem WL_panic {all : Array Oper} {l : List Oper} {d : Option Nat} {x : Operand} {t u : TypeId} {v : Value} {p : String} {e : Array Edge} (hx : ev E x = some (.iface u v)) (h : WQ P n (.panic [{ v := .iface u v, recovered := false }]) E w0 F H R fn Z κ) :
    WL P n all (⟨d, .panic x, t, p, e, none⟩ :: l) E w0 F H R fn Z κ :=
  ⟨fun w hs a ha => wpList_plain rfl fun K hK => by
    have hr : (execOp a.eval ⟨d, .panic x, t, p, e, none⟩).run P w = .halt (.panic (.iface u v)) w := by
      simp only [execOp]; rw [ha.eval hx]; rfl
    unfold Oper.wp; rw [hr]
    exact h.go w hs _ ha⟩
theorem Ex_iface {t : TypeId} {k : IntKind} {x : Operand} {v : Value} (ht : TI P t k) (hx : ev E x = some v) : Ex P n E w0 F H R (.makeInterface t x) (.iface t v) := ⟨fun w _ a ha _ _ _ _ _ => by
  simp only [execOp]; rw [ha.eval hx]
  simp [Instr.makeInterface, run_underlying ht]⟩
theorem PP_end {n : Nat} {E : Env} {w0 : World} {H : Hp} {R : Asr} {fn : Func} {ok : Bool} (hr : fn.results = #[]) (h : ok = true) :
    WQ P n .normal E w0 [] H R fn (fun e w' => ((ok = true ∧ e = .returned (.tuple #[])) ∨ (ok = false ∧ e = .panicked errC)) ∧ Below w0.heap.size w0 w') [] :=
  WQ_end0 hr fun _ hs => ⟨.inl ⟨h, rfl⟩, hs.low.below⟩
theorem PP_endr {n : Nat} {E : Env} {w0 : World} {H : Hp} {R : Asr} {fn : Func} {ok : Bool} (hr : fn.results = #[]) (h : ok = true) :
    WQ P n .ret E w0 [] H R fn (fun e w' => ((ok = true ∧ e = .returned (.tuple #[])) ∨ (ok = false ∧ e = .panicked errC)) ∧ Below w0.heap.size w0 w') [] :=
  WQ_end0r hr fun _ hs => ⟨.inl ⟨h, rfl⟩, hs.low.below⟩
theorem PP_dies {n : Nat} {E : Env} {w0 : World} {H : Hp} {R : Asr} {fn : Func} {ok : Bool} (h : ok = false) :
    WQ P n (.panic errC) E w0 [] H R fn (fun e w' => ((ok = true ∧ e = .returned (.tuple #[])) ∨ (ok = false ∧ e = .panicked errC)) ∧ Below w0.heap.size w0 w') [] :=
  WQ_dies fun _ hs => ⟨.inr ⟨h, rfl⟩, hs.low.below⟩
theorem run_callV {a : Act} {w : World} {o : Oper} {f : FuncId} {g : Operand} {xs : Array Operand} {ts : Array TypeId} {first cap : Array Value} (ho : o.op = .call ⟨.value g, xs, ts⟩) (hg : a.eval g = .func (.func f) first cap) (hf : IsFn P f) :
    (execOp a.eval o).run P w = .ok (.enter f (first ++ xs.map a.eval ++ cap)) w := by
  obtain ⟨fn, hf, hb, hnm⟩ := hf.is
  simp [execOp, ho, resolve, hg, Deferred.ofValue, invoke, callFunc, hf]
  rw [if_neg (by simpa using hnm), if_neg (by intro h; rw [h] at hb; cases hb)]
theorem WL_callV {all : Array Oper} {l : List Oper} {d f : Nat} {g : Operand} {xs : List Operand} {vs : List Value} {ts : Array TypeId} {t : TypeId} {p : String} {e : Array Edge} {v : Value} (hf : IsFn P f)
    (hd : Nat.blt d n = true) (hg : ev E g = some (.func (.func f) #[] #[])) (hx : args E xs = some vs) (hc : ∀ w, Sat w0 F H R w → Pure P f vs.toArray w v) (h : WL P n all l ((d, v) :: E) w0 F H R fn Z κ) :
    WL P n all (⟨some d, .call ⟨.value g, xs.toArray, ts⟩, t, p, e, none⟩ :: l) E w0 F H R fn Z κ :=
  ⟨fun w hs a ha => wpList_plain rfl fun K hK => by
    unfold Oper.wp; rw [run_callV rfl (ha.eval hg) hf, args_map ha xs vs hx]
    rw [show (#[] ++ vs.toArray ++ #[] : Array Value) = vs.toArray by simp]
    refine (hc w hs).mono ?_
    rintro e w' ⟨rfl, hb'⟩
    exact hK _ _ (h.go w' (hs.keep hb') _ (ha.put hd v))⟩
theorem Ex_eqlN {t t' : TypeId} {x y : Operand} {as bs : Array Value} {r : Bool} (hm : P.eqGuardType P.depth t = false) (hx : ev E x = some (.agg as)) (hy : ev E y = some (.agg bs)) (h : ∀ w : World, (Op.equalIn 10000 t (.agg as) (.agg bs)).run P w = .ok r w) :
    Ex P n E w0 F H R (.binOp .eql t x y t') (.bool r) := ⟨fun w _ a ha _ _ _ _ _ => by
  simp only [execOp]; rw [ha.eval hx, ha.eval hy]
  have h1 := run_eqGuard_agg (P := P) w .eql t x y as bs hm
  have h2 := run_eql_struct (P := P) w t as bs
  have h3 := h w
  simp [h1, h2, h3]⟩
theorem Ex_neqN {t t' : TypeId} {x y : Operand} {as bs : Array Value} {r : Bool} (hm : P.eqGuardType P.depth t = false) (hx : ev E x = some (.agg as)) (hy : ev E y = some (.agg bs)) (h : ∀ w : World, (Op.equalIn 10000 t (.agg as) (.agg bs)).run P w = .ok r w) :
    Ex P n E w0 F H R (.binOp .neq t x y t') (.bool (!r)) := ⟨fun w _ a ha _ _ _ _ _ => by
  simp only [execOp]; rw [ha.eval hx, ha.eval hy]
  have h1 := run_eqGuard_agg (P := P) w .neq t x y as bs hm
  have h2 := run_neq_struct (P := P) w t as bs
  have h3 := h w
  simp [h1, h2, h3]⟩
end
end Go.Proofs.YtpofmnfkdkmieaaGreat.E
namespace Go.Proofs.YtpofmnfkdkmieaaGreat.E
open Go Go.RowKit

structure Asr.Imp (R R' : Asr) : Prop where
  s : ∀ k ∈ R'.S, k ∈ R.S
  a : ∀ w, R.A w → R'.A w
theorem Asr.Imp.refl (R : Asr) : R.Imp R := ⟨fun _ h => h, fun _ h => h⟩
theorem Asr.Imp.trans {A B C : Asr} (h : A.Imp B) (k : B.Imp C) : A.Imp C := ⟨fun x hx => h.s x (k.s x hx), fun w hw => k.a w (h.a w hw)⟩
theorem Asr.Imp.and {A A' B B' : Asr} (h : A.Imp A') (k : B.Imp B') : (A.and B).Imp (A'.and B') :=
  ⟨fun x hx => (List.mem_append.1 hx).elim (fun hx => List.mem_append_left _ (h.s x hx)) (fun hx => List.mem_append_right _ (k.s x hx)),
   fun w hw => ⟨h.a w hw.1, k.a w hw.2.1, fun x hx hy => hw.2.2 x (h.s x hx) (k.s x hy)⟩⟩
theorem Asr.Imp.left {A A' B : Asr} (h : A.Imp A') : (A.and B).Imp (A'.and B) := h.and (.refl B)
theorem Asr.Imp.right {A B B' : Asr} (h : B.Imp B') : (A.and B).Imp (A.and B') := (Asr.Imp.refl A).and h
theorem Asr.comm (A B : Asr) : (A.and B).Imp (B.and A) :=
  ⟨fun x hx => (List.mem_append.1 hx).elim (fun hx => List.mem_append_right _ hx) (fun hx => List.mem_append_left _ hx), fun w hw => ⟨hw.2.1, hw.1, fun x hx hy => hw.2.2 x hy hx⟩⟩
theorem Asr.assoc (A B C : Asr) : ((A.and B).and C).Imp (A.and (B.and C)) :=
  ⟨fun x hx => by simp only [Asr.and, List.mem_append] at hx ⊢; rcases hx with h | h | h <;> simp [h],
   fun w hw => ⟨hw.1.1, ⟨hw.1.2.1, hw.2.1, fun x hx hy => hw.2.2 x (List.mem_append_right _ hx) hy⟩, fun x hx hy => (List.mem_append.1 hy).elim (fun hy => hw.1.2.2 x hx hy) (fun hy => hw.2.2 x (List.mem_append_left _ hx) hy)⟩⟩
theorem Asr.cossa (A B C : Asr) : (A.and (B.and C)).Imp ((A.and B).and C) :=
  ⟨fun x hx => by simp only [Asr.and, List.mem_append] at hx ⊢; rcases hx with (h | h) | h <;> simp [h],
   fun w hw => ⟨⟨hw.1, hw.2.1.1, fun x hx hy => hw.2.2 x hx (List.mem_append_left _ hy)⟩, hw.2.1.2.1, fun x hx hy => (List.mem_append.1 hx).elim (fun hx => hw.2.2 x hx (List.mem_append_right _ hy)) (fun hx => hw.2.1.2.2 x hx hy)⟩⟩
theorem Asr.fst (A B : Asr) : (A.and B).Imp A := ⟨fun _ hx => List.mem_append_left _ hx, fun _ hw => hw.1⟩
theorem Asr.snd (A B : Asr) : (A.and B).Imp B := ⟨fun _ hx => List.mem_append_right _ hx, fun _ hw => hw.2.1⟩
theorem Asr.toNone (A : Asr) : A.Imp Asr.none := ⟨fun _ hx => by simp [Asr.none] at hx, fun _ _ => trivial⟩
theorem Asr.noneAdd (A : Asr) : A.Imp (Asr.none.and A) := ⟨fun x hx => by simpa [Asr.and, Asr.none] using hx, fun _ hw => ⟨trivial, hw, fun _ hx => by simp [Asr.none] at hx⟩⟩
theorem Asr.swap (A B C : Asr) : (A.and (B.and C)).Imp (B.and (A.and C)) := (Asr.cossa A B C).trans (((Asr.comm A B).left).trans (Asr.assoc B A C))
def bigA : List Asr → Asr
  | [] => Asr.none
  | r :: l => r.and (bigA l)
theorem bigA_snoc (r : Asr) : ∀ l : List Asr, (r.and (bigA l)).Imp (bigA (l ++ [r]))
  | [] => Asr.Imp.refl _
  | a :: l => (Asr.swap r a (bigA l)).trans (Asr.Imp.right (bigA_snoc r l))
theorem bigA_take : ∀ (l : List Asr) (k : Nat) (r : Asr), l[k]? = some r → (bigA l).Imp r
  | [], _, _, h => by simp at h
  | a :: l, 0, r, h => by simp at h; subst h; exact Asr.fst _ _
  | a :: l, k + 1, r, h => (Asr.snd a (bigA l)).trans (bigA_take l k r (by simpa using h))
theorem Sat.leads {w0 w : World} {F : List Nat} {H : Hp} {R R' : Asr} (h : Sat w0 F H R w) (i : R.Imp R') : Sat w0 F H R' w :=
  ⟨h.low, h.own, h.hi, h.apart, i.a w h.res, fun k hk => h.rhi k (i.s k hk), fun p hp hk => h.rapart p hp (i.s _ hk)⟩
section
variable {P : Program} {n : Nat} {E : Env} {w0 : World} {F : List Nat} {H : Hp} {R R' : Asr} {fn : Func} {Z : Ending → World → Prop} {κ : List Kf}
theorem WL_imp {all : Array Oper} {l : List Oper} (i : R.Imp R') (h : WL P n all l E w0 F H R' fn Z κ) : WL P n all l E w0 F H R fn Z κ := ⟨fun w hs a ha => h.go w (hs.leads i) a ha⟩
theorem WC_imp {c : Code} (i : R.Imp R') (h : WC P n c E w0 F H R' fn Z κ) : WC P n c E w0 F H R fn Z κ := ⟨fun w hs a ha => h.go w (hs.leads i) a ha⟩
theorem WQ_imp {x : Exit} (i : R.Imp R') (h : WQ P n x E w0 F H R' fn Z κ) : WQ P n x E w0 F H R fn Z κ := ⟨fun w hs a ha => h.go w (hs.leads i) a ha⟩
theorem WL_know {all : Array Oper} {l : List Oper} {p : Prop} (hp : ∀ w, Sat w0 F H R w → p) (h : p → WL P n all l E w0 F H R fn Z κ) : WL P n all l E w0 F H R fn Z κ := ⟨fun w hs a ha => (h (hp w hs)).go w hs a ha⟩
end

structure RcAt (u w : World) (b : Nat) (cs : List Value) : Prop where
  base : Below u.heap.size u w
  hb : u.heap.size ≤ b
  cell : ∃ t, w.heap[b]? = some (.cells cs.toArray t (0, 0))
theorem RcAt.sat {u w : World} {b : Nat} {cs : List Value} (h : RcAt u w b cs) : Sat w [b] [(b, cs)] Asr.none w := by
  refine ⟨Fr.refl _ _, ?_, ?_, by simp, trivial, (by intro k hk; simp [Asr.none] at hk), (by intro p _ hk; simp [Asr.none] at hk)⟩
  · intro p hp
    simp only [List.mem_singleton] at hp
    subst hp
    exact h.cell
  · intro p hp
    simp only [List.mem_singleton] at hp
    subst hp; exact .inl List.mem_cons_self
def RcZ (u : World) (b : Nat) (w : World) (ok : Value → List Value → Asr → Prop) (may : Prop) : Ending → World → Prop := fun e w' =>
  (∃ v cs' R', e = .returned v ∧ ok v cs' R' ∧ Sat w [b] [(b, cs')] R' w') ∨ (may ∧ e = .panicked errC ∧ Below u.heap.size u w')
def RcP (P : Program) (f : FuncId) (args : Array Value) (u : World) (b : Nat) (cs : List Value) (ok : Value → List Value → Asr → Prop) (may : Prop) : Prop :=
  ∀ w, RcAt u w b cs → Calls P f args w (RcZ u b w ok may)
theorem below_sat {u w0 w : World} {F : List Nat} {H : Hp} {R : Asr} (hu : Below u.heap.size u w0) (hF : ∀ x ∈ F, u.heap.size ≤ x) (hs : Sat w0 F H R w) : Below u.heap.size u w :=
  ⟨hs.low.os.trans hu.os, hs.low.tape.trans hu.tape, hs.low.output.trans hu.output, Nat.le_trans hu.size hs.low.size, fun k hk => by
    rw [hs.low.block k (Nat.lt_of_lt_of_le hk hu.size) (fun hm => by have := hF k hm; omega)]; exact hu.block k hk⟩
theorem rc_now {u w0 w : World} {F : List Nat} {H : Hp} {R : Asr} {b i : Nat} {cs : List Value} (hu : Below u.heap.size u w0) (hF : ∀ x ∈ F, u.heap.size ≤ x) (hs : Sat w0 F H R w) (hp : H[i]? = some (b, cs)) : RcAt u w b cs := by
  have hm := List.mem_of_getElem? hp
  refine ⟨below_sat hu hF hs, (hs.hi _ hm).elim (hF b) (fun h => Nat.le_trans hu.size h), hs.own _ hm⟩
theorem Sat.only {w0 w : World} {F : List Nat} {H : Hp} {R : Asr} {b i : Nat} {cs : List Value} (hs : Sat w0 F H R w) (hp : H[i]? = some (b, cs)) : Sat w0 F [(b, cs)] R w := by
  have hm := List.mem_of_getElem? hp
  have h1 : ∀ p ∈ [(b, cs)], p ∈ H := fun p hq => by simp only [List.mem_singleton] at hq; subst hq; exact hm
  exact ⟨hs.low, fun p hq => hs.own p (h1 p hq), fun p hq => hs.hi p (h1 p hq), by simp, hs.res, hs.rhi, fun p hq => hs.rapart p (h1 p hq)⟩
theorem rc_then {w0 w w' : World} {F : List Nat} {H : Hp} {R R' : Asr} {b i : Nat} {cs cs' : List Value} (hs : Sat w0 F H R w) (hp : H[i]? = some (b, cs)) (hw : Sat w [b] [(b, cs')] R' w') : Sat w0 F (H.set i (b, cs')) (R'.and R) w' := by
  have hm := List.mem_of_getElem? hp
  have hmap : (H.set i (b, cs')).map (·.1) = H.map (·.1) := by
    rw [List.map_set]
    exact set_same (by rw [List.getElem?_map, hp]; rfl)
  have hkeep : ∀ p ∈ H.set i (b, cs'), p = (b, cs') ∨ (p ∈ H ∧ p.1 ≠ b) := by
    intro p hpm
    obtain ⟨j, hj⟩ := List.mem_iff_getElem?.1 hpm
    rw [List.getElem?_set] at hj
    split at hj
    · split at hj
      · cases hj; exact .inl rfl
      · cases hj
    · rename_i hij
      refine .inr ⟨List.mem_of_getElem? hj, fun e => ?_⟩
      have h1 : (H.map (·.1))[i]? = some b := by rw [List.getElem?_map, hp]; rfl
      have h2 : (H.map (·.1))[j]? = some b := by rw [List.getElem?_map, hj, ← e]; rfl
      exact hij (nodup_idx hs.apart h1 h2)
  have hnew : ∀ k ∈ R'.S, w.heap.size ≤ k ∧ k < w'.heap.size := by
    intro k hk
    refine ⟨(hw.rhi k hk).1.elim (fun h => ?_) id, (hw.rhi k hk).2⟩
    simp only [List.mem_singleton] at h
    subst h
    exact absurd hk (hw.rapart (k, cs') List.mem_cons_self)
  have hold : ∀ k, k < w.heap.size → k ≠ b → w'.heap[k]? = w.heap[k]? := fun k hk hne => hw.low.block k hk (by simpa using hne)
  have hRb : ∀ k ∈ R.S, k ≠ b := fun k hk e => hs.rapart _ hm (by rw [← e]; exact hk)
  refine ⟨hs.low.trans hw.low ?_, ?_, ?_, by rw [hmap]; exact hs.apart, ⟨hw.res, ?_, ?_⟩, ?_, ?_⟩
  · intro x hx
    simp only [List.mem_singleton] at hx
    subst hx; exact hs.hi _ hm
  · intro p hpm
    rcases hkeep p hpm with rfl | ⟨hq, hne⟩
    · exact hw.own _ List.mem_cons_self
    · rw [hold p.1 (hs.lt hq) hne]; exact hs.own p hq
  · intro p hpm
    rcases hkeep p hpm with rfl | ⟨hq, _⟩
    · exact hs.hi (b, cs) hm
    · exact hs.hi p hq
  · exact R.st w w' hs.res (fun k hk => hold k (hs.rhi k hk).2 (hRb k hk))
  · intro k hk hk2
    have := (hnew k hk).1
    have := (hs.rhi k hk2).2
    omega
  · intro k hk
    rcases List.mem_append.1 hk with hk | hk
    · exact ⟨.inr (Nat.le_trans hs.low.size (hnew k hk).1), (hnew k hk).2⟩
    · exact ⟨(hs.rhi k hk).1, Nat.lt_of_lt_of_le (hs.rhi k hk).2 hw.low.size⟩
  · intro p hpm hk
    rcases List.mem_append.1 hk with hk | hk
    · rcases hkeep p hpm with rfl | ⟨hq, _⟩
      · exact hw.rapart (b, cs') List.mem_cons_self hk
      · have := (hnew _ hk).1
        have := hs.lt hq
        omega
    · rcases hkeep p hpm with rfl | ⟨hq, _⟩
      · exact hs.rapart (b, cs) hm hk
      · exact hs.rapart p hq hk
structure WD (P : Program) (n : Nat) (E : Env) (u : World) (fn : Func) (Z : Ending → World → Prop) (κ : List Kf) : Prop where
  go : ∀ w, Below u.heap.size u w → ∀ a, Ag n a E → den P fn Z κ (.panic errC) a w
section
variable {P : Program} {n : Nat} {E : Env} {w0 : World} {F : List Nat} {H : Hp} {R : Asr} {fn : Func} {Z : Ending → World → Prop} {κ : List Kf}
theorem WD_pan {u : World} {k : Kf} (h : WD P n E u fn Z κ) : WD P n E u fn Z (k :: κ) :=
  ⟨fun w hb a ha => by
    have := h.go w hb a ha
    obtain ⟨tag, _, _, _⟩ := k
    match tag with
    | 0 => exact this
    | 1 => exact this
    | _ + 2 => exact this⟩
theorem WD_end {u w : World} {b : Nat} {ok : Value → List Value → Asr → Prop} {may : Prop} (h : may) : WD P n E u fn (RcZ u b w ok may) [] :=
  ⟨fun _ hb _ ha => ⟨ha.no, .inr ⟨h, rfl, hb⟩⟩⟩
theorem WD_of {u : World} (hu : Below u.heap.size u w0) (hF : ∀ x ∈ F, u.heap.size ≤ x) (h : WD P n E u fn Z κ) : WQ P n (.panic errC) E w0 F H R fn Z κ :=
  ⟨fun w hs a ha => h.go w (below_sat hu hF hs) a ha⟩
theorem Rc_F {u w : World} {b : Nat} {cs : List Value} (h0 : RcAt u w b cs) : ∀ x ∈ [b], u.heap.size ≤ x := fun x hx => by simp only [List.mem_singleton] at hx; subst hx; exact h0.hb
theorem Rc_end1 {u w : World} {b : Nat} {cs' : List Value} {ok : Value → List Value → Asr → Prop} {may : Prop} {t : Tmp} {v : Value} (hr : fn.results = #[.tmp t]) (hv : look E t = some v) (i : Nat) (hp : H[i]? = some (b, cs')) (h : ok v cs' R) :
    WQ P n .ret E w [b] H R fn (RcZ u b w ok may) [] :=
  WQ_end1 hr hv fun _ hs => .inl ⟨v, cs', R, rfl, h, hs.only hp⟩
theorem WL_callR {all : Array Oper} {l : List Oper} {d f b : Nat} {xs : List Operand} {vs : List Value} {ts : Array TypeId} {t : TypeId} {p : String} {e : Array Edge} {cs : List Value} {u : World} {ok : Value → List Value → Asr → Prop} {may : Prop} (hf : IsFn P f)
    (hd : Nat.blt d n = true) (hx : args E xs = some vs) (i : Nat) (hp : H[i]? = some (b, cs)) (hu : Below u.heap.size u w0) (hF : ∀ x ∈ F, u.heap.size ≤ x) (hc : RcP P f vs.toArray u b cs ok may)
    (hn : may → WD P n E u fn Z κ)
    (h : ∀ v cs' R', ok v cs' R' → WL P n all l ((d, v) :: E) w0 F (H.set i (b, cs')) (R'.and R) fn Z κ) :
    WL P n all (⟨some d, .call ⟨.value (.func f), xs.toArray, ts⟩, t, p, e, none⟩ :: l) E w0 F H R fn Z κ :=
  ⟨fun w hs a ha => wpList_plain rfl fun K hK => by
    unfold Oper.wp; rw [run_call rfl hf, args_map ha xs vs hx]
    refine (hc w (rc_now hu hF hs hp)).mono ?_
    rintro e w' (⟨v, cs', R', rfl, hok, hw⟩ | ⟨hm, rfl, hb⟩)
    · exact hK _ _ ((h v cs' R' hok).go w' (rc_then hs hp hw) _ (ha.put hd _))
    · exact (hn hm).go w' hb _ ha⟩
theorem WL_callR0 {all : Array Oper} {l : List Oper} {d f b : Nat} {xs : List Operand} {vs : List Value} {ts : Array TypeId} {t : TypeId} {p : String} {e : Array Edge} {cs : List Value} {u : World} {ok : Value → List Value → Asr → Prop} {may : Prop} (hf : IsFn P f)
    (hd : Nat.blt d n = true) (hx : args E xs = some vs) (i : Nat) (hp : H[i]? = some (b, cs)) (hu : Below u.heap.size u w0) (hF : ∀ x ∈ F, u.heap.size ≤ x) (hc : RcP P f vs.toArray u b cs ok may)
    (hn : may → WD P n E u fn Z κ)
    (h : ∀ v cs', (∃ R', ok v cs' R') → WL P n all l ((d, v) :: E) w0 F (H.set i (b, cs')) R fn Z κ) :
    WL P n all (⟨some d, .call ⟨.value (.func f), xs.toArray, ts⟩, t, p, e, none⟩ :: l) E w0 F H R fn Z κ :=
  WL_callR hf hd hx i hp hu hF hc hn fun v cs' R' hok => WL_imp (Asr.snd R' R) (h v cs' ⟨R', hok⟩)
end
def PureQ (P : Program) (f : FuncId) (args : Array Value) (w : World) (o : Option Value) : Prop :=
  Calls P f args w fun e w' => ((∃ v, o = some v ∧ e = .returned v) ∨ (o = none ∧ e = .panicked errC)) ∧ Below w.heap.size w w'
theorem PQ_end1 {P : Program} {n : Nat} {E : Env} {w0 : World} {H : Hp} {R : Asr} {fn : Func} {t : Tmp} {v : Value} {o : Option Value} (hr : fn.results = #[.tmp t]) (hv : look E t = some v) (h : o = some v) :
    WQ P n .ret E w0 [] H R fn (fun e w' => ((∃ v, o = some v ∧ e = .returned v) ∨ (o = none ∧ e = .panicked errC)) ∧ Below w0.heap.size w0 w') [] :=
  WQ_end1 hr hv fun _ hs => ⟨.inl ⟨v, h, rfl⟩, hs.low.below⟩
theorem PQ_dies {P : Program} {n : Nat} {E : Env} {w0 : World} {H : Hp} {R : Asr} {fn : Func} {o : Option Value} (h : o = none) :
    WQ P n (.panic errC) E w0 [] H R fn (fun e w' => ((∃ v, o = some v ∧ e = .returned v) ∨ (o = none ∧ e = .panicked errC)) ∧ Below w0.heap.size w0 w') [] :=
  WQ_dies fun _ hs => ⟨.inr ⟨h, rfl⟩, hs.low.below⟩
end Go.Proofs.YtpofmnfkdkmieaaGreat.E
