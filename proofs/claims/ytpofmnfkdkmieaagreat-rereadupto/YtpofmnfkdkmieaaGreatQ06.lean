/- What is proved here: rules for calls of the program's writer: a block that holds a slice of bytes, of which more and more are written. -/
import Derived.Test.YtpofmnfkdkmieaaGreatQ03
import Derived.Test.YtpofmnfkdkmieaaGreatQ05
set_option linter.unusedVariables false
set_option linter.unusedSimpArgs false
namespace Go.Proofs.YtpofmnfkdkmieaaGreat
open Go Go.RowKit E

structure WrAt (u w : World) (b : Nat) (v : Value) (bs : List UInt8) : Prop where
  base : Below u.heap.size u w
  hb : u.heap.size ≤ b
  cell : ∃ t, w.heap[b]? = some (.cells #[v] t (0, 0))
  own : w.ownsRow 0 5 1 v bs.length (bs.map byteV)
  apart : ∀ g, v.ownBlock = some g → g ≠ b ∧ u.heap.size ≤ g
def wrA (v : Value) (bs : List UInt8) : Asr := Asr.and (ownA 5 1 v bs.length (bs.map byteV)) Asr.none
def WrZ (u : World) (b : Nat) (w : World) (v : Value) (bs add : List UInt8) : Ending → World → Prop := fun e w' =>
  e = .returned (.tuple #[]) ∧ ∃ v', WrAt u w' b v' (bs ++ add) ∧ Fr (b :: v.ownBlock.toList) w w' ∧ ∀ g, v'.ownBlock = some g → v.ownBlock = some g ∨ w.heap.size ≤ g
def WrP (P : Program) (f : FuncId) (args : Array Value) (u : World) (b : Nat) (add : List UInt8) : Prop :=
  ∀ w v bs, WrAt u w b v bs → bs.length + add.length ≤ 4000000 → Calls P f args w (WrZ u b w v bs add)
theorem own_mem {v : Value} {k : Nat} : k ∈ v.ownBlock.toList ↔ v.ownBlock = some k := by
  cases v.ownBlock <;> simp [eq_comm]
theorem wrA_S (v : Value) (bs : List UInt8) : (wrA v bs).S = v.ownBlock.toList := by simp [wrA, Asr.and, ownA, Asr.none]
theorem WrAt.sat {u w : World} {b : Nat} {v : Value} {bs : List UInt8} (h : WrAt u w b v bs) : Sat w (b :: v.ownBlock.toList) [(b, [v])] (wrA v bs) w := by
  refine ⟨Fr.refl _ _, ?_, ?_, by simp, ⟨h.own, trivial, by simp [Asr.none]⟩, ?_, ?_⟩
  · intro p hp
    simp only [List.mem_singleton] at hp
    subst hp
    obtain ⟨t, ht⟩ := h.cell
    exact ⟨t, ht⟩
  · intro p hp
    simp only [List.mem_singleton] at hp
    subst hp; exact .inl List.mem_cons_self
  · intro k hk
    rw [wrA_S] at hk
    exact ⟨.inl (List.mem_cons_of_mem _ hk), (h.own.lt k (own_mem.1 hk)).2⟩
  · intro p hp hk
    simp only [List.mem_singleton] at hp
    subst hp
    rw [wrA_S] at hk
    exact (h.apart _ (own_mem.1 hk)).1 rfl

theorem WrAt.F {u w : World} {b : Nat} {v : Value} {bs : List UInt8} (h0 : WrAt u w b v bs) : ∀ x ∈ (b :: v.ownBlock.toList), u.heap.size ≤ x := by
  intro x hx
  rcases List.mem_cons.1 hx with rfl | hx
  · exact h0.hb
  · exact (h0.apart x (own_mem.1 hx)).2
theorem WrAt.out {u w : World} {b k : Nat} {v : Value} {bs : List UInt8} (h0 : WrAt u w b v bs) (hk : k < u.heap.size) : k ∉ (b :: v.ownBlock.toList) := fun hx => by have := h0.F k hx; omega

section
variable {P : Program} {n : Nat} {E : Env} {w0 : World} {F : List Nat} {H : Hp} {fn : Func} {κ : List Kf}

theorem below_of {u w0 w : World} {F : List Nat} {H : Hp} {R : Asr} (hu : Below u.heap.size u w0) (hF : ∀ x ∈ F, u.heap.size ≤ x) (hs : Sat w0 F H R w) : Below u.heap.size u w :=
  ⟨hs.low.os.trans hu.os, hs.low.tape.trans hu.tape, hs.low.output.trans hu.output, Nat.le_trans hu.size hs.low.size, fun k hk => by
    rw [hs.low.block k (Nat.lt_of_lt_of_le hk hu.size) (fun hm => by have := hF k hm; omega)]; exact hu.block k hk⟩
theorem wr_now {u w0 w : World} {F : List Nat} {H : Hp} {b i : Nat} {v : Value} {bs : List UInt8} (hu : Below u.heap.size u w0) (hF : ∀ x ∈ F, u.heap.size ≤ x) (hs : Sat w0 F H (wrA v bs) w) (hp : H[i]? = some (b, [v])) : WrAt u w b v bs := by
  have hm := List.mem_of_getElem? hp
  have hge : ∀ k, (k ∈ F ∨ w0.heap.size ≤ k) → u.heap.size ≤ k := fun k hk => hk.elim (hF k) (fun h => Nat.le_trans hu.size h)
  refine ⟨below_of hu hF hs, hge b (hs.hi _ hm), ?_, hs.res.1, fun g hg => ?_⟩
  · obtain ⟨t, ht⟩ := hs.own _ hm
    exact ⟨t, ht⟩
  · have hS : g ∈ (wrA v bs).S := by rw [wrA_S]; exact own_mem.2 hg
    refine ⟨fun e => hs.rapart _ hm (by rw [e] at hS; exact hS), hge g (hs.rhi g hS).1⟩
theorem wr_end {u w : World} {b i : Nat} {v v' : Value} {bs bs' add : List UInt8} (h0 : WrAt u w b v bs) (hr : fn.results = #[]) (hp : H[i]? = some (b, [v'])) (hbs : bs' = bs ++ add) :
    WQ P n .normal E w (b :: v.ownBlock.toList) H (wrA v' bs') fn (WrZ u b w v bs add) [] :=
  WQ_end0 hr fun w' hs => by
    have hF : ∀ x ∈ (b :: v.ownBlock.toList), u.heap.size ≤ x := by
      intro x hx
      rcases List.mem_cons.1 hx with rfl | hx
      · exact h0.hb
      · exact (h0.apart x (own_mem.1 hx)).2
    refine ⟨rfl, v', hbs ▸ wr_now h0.base hF hs hp, hs.low, fun g hg => ?_⟩
    have hS : g ∈ (wrA v' bs').S := by rw [wrA_S]; exact own_mem.2 hg
    rcases (hs.rhi g hS).1 with h1 | h1
    · rcases List.mem_cons.1 h1 with rfl | h1
      · exact absurd hS (hs.rapart _ (List.mem_of_getElem? hp))
      · exact .inl (own_mem.1 h1)
    · exact .inr h1
theorem wr_endr {u w : World} {b i : Nat} {v v' : Value} {bs bs' add : List UInt8} (h0 : WrAt u w b v bs) (hr : fn.results = #[]) (hp : H[i]? = some (b, [v'])) (hbs : bs' = bs ++ add) :
    WQ P n .ret E w (b :: v.ownBlock.toList) H (wrA v' bs') fn (WrZ u b w v bs add) [] :=
  WQ_end0r hr fun w' hs => by
    have h1 : WQ P n .normal E w (b :: v.ownBlock.toList) H (wrA v' bs') fn (WrZ u b w v bs add) [] := wr_end h0 hr hp hbs
    have hF : ∀ x ∈ (b :: v.ownBlock.toList), u.heap.size ≤ x := by
      intro x hx
      rcases List.mem_cons.1 hx with rfl | hx
      · exact h0.hb
      · exact (h0.apart x (own_mem.1 hx)).2
    refine ⟨rfl, v', hbs ▸ wr_now h0.base hF hs hp, hs.low, fun g hg => ?_⟩
    have hS : g ∈ (wrA v' bs').S := by rw [wrA_S]; exact own_mem.2 hg
    rcases (hs.rhi g hS).1 with h1 | h1
    · rcases List.mem_cons.1 h1 with rfl | h1
      · exact absurd hS (hs.rapart _ (List.mem_of_getElem? hp))
      · exact .inl (own_mem.1 h1)
    · exact .inr h1
theorem wr_then {u w0 w w' : World} {F : List Nat} {H : Hp} {b i : Nat} {v v' : Value} {bs bs' : List UInt8} (hs : Sat w0 F H (wrA v bs) w) (hp : H[i]? = some (b, [v])) (hw : WrAt u w' b v' bs') (hfr : Fr (b :: v.ownBlock.toList) w w')
    (hpos : ∀ g, v'.ownBlock = some g → v.ownBlock = some g ∨ w.heap.size ≤ g) : Sat w0 F (H.set i (b, [v'])) (wrA v' bs') w' := by
  have hm := List.mem_of_getElem? hp
  have hil : i < H.length := by
    rcases Nat.lt_or_ge i H.length with h' | h'
    · exact h'
    · rw [List.getElem?_eq_none h'] at hp; cases hp
  have hS : ∀ g, v.ownBlock = some g → g ∈ (wrA v bs).S := fun g hg => by rw [wrA_S]; exact own_mem.2 hg
  have hmap : (H.set i (b, [v'])).map (·.1) = H.map (·.1) := by
    rw [List.map_set]
    exact set_same (by rw [List.getElem?_map, hp]; rfl)
  have hkeep : ∀ p ∈ H.set i (b, [v']), p = (b, [v']) ∨ (p ∈ H ∧ p.1 ≠ b) := by
    intro p hpm
    obtain ⟨j, hj⟩ := List.mem_iff_getElem?.1 hpm
    rw [List.getElem?_set] at hj
    split at hj
    · cases hj; exact .inl rfl
    · rename_i hij
      refine .inr ⟨List.mem_of_getElem? hj, fun e => ?_⟩
      have h1 : (H.map (·.1))[i]? = some b := by rw [List.getElem?_map, hp]; rfl
      have h2 : (H.map (·.1))[j]? = some b := by rw [List.getElem?_map, hj, ← e]; rfl
      exact hij (nodup_idx hs.apart h1 h2)
  refine ⟨hs.low.trans hfr ?_, ?_, ?_, by rw [hmap]; exact hs.apart, ⟨hw.own, trivial, by simp [Asr.none]⟩, ?_, ?_⟩
  · intro x hx
    rcases List.mem_cons.1 hx with rfl | hx
    · exact hs.hi _ hm
    · exact (hs.rhi x (hS x (own_mem.1 hx))).1
  · intro p hpm
    rcases hkeep p hpm with rfl | ⟨hq, hne⟩
    · obtain ⟨t, ht⟩ := hw.cell
      exact ⟨t, ht⟩
    · rw [hfr.block p.1 (hs.lt hq) (fun hx => by
        rcases List.mem_cons.1 hx with e | hx
        · exact hne e
        · exact hs.rapart p hq (hS _ (own_mem.1 hx)))]
      exact hs.own p hq
  · intro p hpm
    rcases hkeep p hpm with rfl | ⟨hq, _⟩
    · exact hs.hi (b, [v]) hm
    · exact hs.hi p hq
  · intro k hk
    rw [wrA_S] at hk
    have hk' := own_mem.1 hk
    refine ⟨?_, (hw.own.lt k hk').2⟩
    rcases hpos k hk' with h1 | h1
    · exact (hs.rhi k (hS k h1)).1
    · exact .inr (Nat.le_trans hs.low.size h1)
  · intro p hpm hk
    rw [wrA_S] at hk
    have hk' := own_mem.1 hk
    rcases hkeep p hpm with rfl | ⟨hq, _⟩
    · exact (hw.apart _ hk').1 rfl
    · rcases hpos _ hk' with h1 | h1
      · exact hs.rapart p hq (hS _ h1)
      · have := hs.lt hq; omega
theorem WL_callW {Z : Ending → World → Prop} {all : Array Oper} {l : List Oper} {d f b : Nat} {xs : List Operand} {vs : List Value} {ts : Array TypeId} {t : TypeId} {p : String} {e : Array Edge} {v : Value} {bs add : List UInt8} {u : World} (hf : IsFn P f)
    (hd : Nat.blt d n = true) (hx : args E xs = some vs) (i : Nat) (hp : H[i]? = some (b, [v])) (hu : Below u.heap.size u w0) (hF : ∀ x ∈ F, u.heap.size ≤ x) (hc : WrP P f vs.toArray u b add) (hl : bs.length + add.length ≤ 4000000)
    (h : ∀ v', WL P n all l ((d, .tuple #[]) :: E) w0 F (H.set i (b, [v'])) (wrA v' (bs ++ add)) fn Z κ) :
    WL P n all (⟨some d, .call ⟨.value (.func f), xs.toArray, ts⟩, t, p, e, none⟩ :: l) E w0 F H (wrA v bs) fn Z κ :=
  ⟨fun w hs a ha => wpList_plain rfl fun K hK => by
    unfold Oper.wp; rw [run_call rfl hf, args_map ha xs vs hx]
    refine (hc w v bs (wr_now hu hF hs hp) hl).mono ?_
    rintro e w' ⟨rfl, v', h1, h2, h3⟩
    exact hK _ _ ((h v').go w' (wr_then hs hp h1 h2 h3) _ (ha.put hd _))⟩
end
end Go.Proofs.YtpofmnfkdkmieaaGreat
namespace Go.Proofs.YtpofmnfkdkmieaaGreat
open Go Go.RowKit E

section
variable {P : Program} {n : Nat} {E : Env} {w0 : World} {F : List Nat} {H : Hp} {R : Asr} {fn : Func} {Z : Ending → World → Prop} {κ : List Kf}

theorem appendS_where {w w' : World} {t u ty e : Nat} {v v' : Value} {k : Nat} {xs : List Value} {s : ByteArray} (ht : TA P t e 1 1 (.int .u8 0)) (hu : TStr P u) (hown : w.ownsRow 0 e 1 v k xs)
    (h63 : k + s.size ≤ maxLen) (hbytes : k + s.size ≤ 140737488355328) (hr : (Builtin.append_ #[t, u] ty #[v, .string s]).run P w = .ok v' w') :
    ∀ g, v'.ownBlock = some g → v.ownBlock = some g ∨ w.heap.size ≤ g := by
  intro g hg
  obtain ⟨i, hi, hz, hs, hb⟩ := info_parts ht.inf
  have hsmall : k + s.size ≤ 9223372036854775807 := by simp only [maxLen] at h63; omega
  have hxl : xs.length = k := by simpa using hown.1
  rcases hown.2 with ⟨rfl, rfl⟩ | ⟨g0, cap, cur, rfl, _, hg0, hnc, hcm, hcs, htake⟩
  · by_cases hm : s.size = 0
    · have hf := Go.Lib.run_firstCells_string (P := P) w 1 s
      rw [hm] at hf
      have hr' : (Builtin.append_ #[t, u] ty #[.slice none 0 0, .string s]).run P w = .ok (.slice none 0 0) w := by
        simp [Builtin.append_, run_underlying ht.sl, run_underlying hu, sizeOf, typeInfo, hi, hs, Builtin.lenOf, hm, hf]
      rw [hr'] at hr; cases hr
      simp [Value.ownBlock] at hg
    · have hr' := run_append_nil_string (P := P) w t u ty e i (.int .u8 0) ht.sl hu hi hz s (by omega) (by omega) (by rw [hb]; omega)
      rw [hr] at hr'; cases hr'
      simp only [Value.ownBlock, Option.some.injEq] at hg
      exact .inr (by omega)
  · by_cases hroom : k + s.size ≤ cap
    · have hcs' : cur.size = cap := by simpa using hcs
      have hr' := Go.Lib.run_append_room_string (P := P) w t u ty e i ht.sl hu hi hs g0 k cap cur hg0 s hroom (by omega)
      rw [hr] at hr'; cases hr'
      exact .inl hg
    · have holds : ∀ j u, xs[j]? = some u → w.cell? ((⟨g0, 0, none⟩ : Addr).add j) = some u := hown.cells (g := g0) rfl
      have hr' := Go.Lib.run_append_grow_string (P := P) w t u ty e i (.int .u8 0) ht.sl hu hi hz ⟨g0, 0, none⟩ k cap xs (by rw [hs]; simpa using hxl) holds s (by omega) (by omega) (by rw [hb]; exact growslice_fits (by omega) (by omega))
      rw [hr] at hr'; cases hr'
      simp only [Value.ownBlock, Option.some.injEq] at hg
      exact .inr (by omega)
theorem WL_appS {all : Array Oper} {l : List Oper} {d : Nat} {t u ty : Nat} {v : Value} {x y : Operand} {p : String} {g : Array Edge} {bs : List UInt8} {s : ByteArray} (hd : Nat.blt d n = true) (ht : TA P t 5 1 1 (.int .u8 0)) (hu : TStr P u) (hx : ev E x = some v)
    (hy : ev E y = some (.string s)) (h63 : bs.length + s.size ≤ 4611686018427387904) (hbytes : bs.length + s.size ≤ 140737488355328)
    (h : ∀ v', WL P n all l ((d, v') :: E) w0 F H (wrA v' (bs ++ s.data.toList)) fn Z κ) :
    WL P n all (⟨some d, .call ⟨.builtin .append, #[x, y], #[t, u]⟩, ty, p, g, none⟩ :: l) E w0 F H (wrA v bs) fn Z κ :=
  ⟨fun w hs a ha => wpList_plain rfl fun K hK => by
    have h63' : bs.length + s.size ≤ maxLen := by unfold maxLen; omega
    obtain ⟨i, hi, hz, hsz, hb⟩ := info_parts ht.inf
    have hown : w.ownsRow 0 5 1 v bs.length (bs.map byteV) := hs.res.1
    obtain ⟨v', w', hr, ho, hg, _⟩ := Go.Lib.run_append_own_string w 0 t u ty 5 i ht.sl hu hi hz hsz hb v bs.length (bs.map byteV) hown s h63' hbytes (Nat.zero_le _)
    have hw := appendS_where ht hu hown h63' hbytes hr
    have he : (execOp a.eval ⟨some d, .call ⟨.builtin .append, #[x, y], #[t, u]⟩, ty, p, g, none⟩).run P w = .ok (.value v') w' := by
      simp only [execOp, resolve, invoke, builtin]
      simp [ha.eval hx, ha.eval hy, hr]
    have e1 : bs.length + s.size = (bs ++ s.data.toList).length := by rw [List.length_append, Array.length_toList]; rfl
    have e2 : bs.map byteV ++ Go.Lib.strCells s = (bs ++ s.data.toList).map byteV := by rw [List.map_append]; rfl
    rw [e1, e2] at ho
    unfold Oper.wp; rw [he]
    exact hK _ _ ((h v').go w' (hs.grown ho hg hw (owns_lt ho)) _ (ha.put hd v'))⟩
theorem WL_appB {all : Array Oper} {l : List Oper} {d : Nat} {t ty : Nat} {v : Value} {x y : Operand} {p : String} {g : Array Edge} {bs : List UInt8} {c : UInt8} {b m : Nat} (hd : Nat.blt d n = true) (ht : TA P t 5 1 1 (.int .u8 0)) (hx : ev E x = some v)
    (hy : ev E y = some (.slice (some ⟨b, 0, none⟩) 1 m)) (i : Nat) (hp : H[i]? = some (b, [byteV c])) (h63 : bs.length + 1 ≤ 4611686018427387904) (hbytes : bs.length + 1 ≤ 140737488355328)
    (h : ∀ v', WL P n all l ((d, v') :: E) w0 F H (wrA v' (bs ++ [c])) fn Z κ) :
    WL P n all (⟨some d, .call ⟨.builtin .append, #[x, y], #[t, t]⟩, ty, p, g, none⟩ :: l) E w0 F H (wrA v bs) fn Z κ := by
  have h' : ∀ v', WL P n all l ((d, v') :: E) w0 F H (Asr.and (ownA 5 1 v' (bs.length + 1) (bs.map byteV ++ [byteV c])) Asr.none) fn Z κ := fun v' => by
    have := h v'
    unfold wrA at this
    rw [List.length_append, List.map_append] at this
    exact this
  exact WL_app hd ht hx hy (row_whole i hp) rfl rfl (by unfold maxLen; omega) (by omega) h'
theorem Ex_shr {t t' : TypeId} {x y : Operand} {k : IntKind} {i j : Int} (hx : ev E x = some (.int k i)) (hy : ev E y = some (.int k j)) (hj : decide (j < 0) = false) : Ex P n E w0 F H R (.binOp .shr t x y t') (.int k (i.fdiv (2 ^ min j.toNat k.bits))) :=
  Ex_bin hx hy fun w => by simp [binOp, Op.shift, of_decide_eq_false hj]
end
end Go.Proofs.YtpofmnfkdkmieaaGreat
namespace Go.Proofs.YtpofmnfkdkmieaaGreat.E
open Go.RowKit

theorem teTy (d : Nat) (a b : Int) (s t : ByteArray) (w : World) : (Op.equalIn (d + 2) 71 (.agg #[.int .i64 a, .string s]) (.agg #[.int .i64 b, .string t])).run Tryz.prog w = .ok (decide (a = b) && eqS s t) w := by
  have hs : Tryz.prog.stoodInHeld 71 = false := by kernel_rfl
  have h3 : ∀ w : World, (Op.equalIn (d + 1) 3 (.int .i64 a) (.int .i64 b)).run Tryz.prog w = .ok (a == b) w := fun w => run_equalIn_int w d 3 .i64 .i64 a b (tint rfl)
  have h9 : ∀ w : World, (Op.equalIn (d + 1) 9 (.string s) (.string t)).run Tryz.prog w = .ok (s.toList == t.toList) w := fun w => run_equalIn_string w d 9 s t (tstr rfl)
  have e : (a == b) = decide (a = b) := by by_cases h : a = b <;> simp [h]
  have hu := Tryz.underlying71
  rw [show d + 2 = (d + 1) + 1 from rfl, Op.equalIn]
  simp only [Sem.run_bind, run_underlying hu, Result.andThen_ok, run_program, hs, Bool.false_eq_true, if_false]
  simp [part, isAgg, run_underlying (tint (t := 3) rfl), run_underlying (tstr (t := 9) rfl), h3, h9, eqS_beq, e]
  by_cases h : a = b <;> cases h2 : eqS s t <;> simp [h]
theorem Ex_eqlTy {n : Nat} {E : Env} {w0 : World} {F : List Nat} {H : Hp} {R : Asr} {t' : TypeId} {x y : Operand} {a b : Int} {s t : ByteArray} (hx : ev E x = some (.agg #[.int .i64 a, .string s])) (hy : ev E y = some (.agg #[.int .i64 b, .string t])) :
    Ex Tryz.prog n E w0 F H R (.binOp .eql 71 x y t') (.bool (decide (a = b) && eqS s t)) := Ex_eqlN (by kernel_rfl) hx hy (fun w => teTy 9998 a b s t w)
theorem Ex_neqTy {n : Nat} {E : Env} {w0 : World} {F : List Nat} {H : Hp} {R : Asr} {t' : TypeId} {x y : Operand} {a b : Int} {s t : ByteArray} (hx : ev E x = some (.agg #[.int .i64 a, .string s])) (hy : ev E y = some (.agg #[.int .i64 b, .string t])) :
    Ex Tryz.prog n E w0 F H R (.binOp .neq 71 x y t') (.bool (!(decide (a = b) && eqS s t))) := Ex_neqN (by kernel_rfl) hx hy (fun w => teTy 9998 a b s t w)
end Go.Proofs.YtpofmnfkdkmieaaGreat.E
namespace Go.Proofs.YtpofmnfkdkmieaaGreat.At

structure Ty where
  kind : Int
  cls : ByteArray
structure Rf where
  cls : ByteArray
  name : ByteArray
  params : List Ty
  ty : Ty
structure Ins where
  op : Int
  n : Int
  ref : Rf
structure Fr where
  pos : Int
  locals : List Ty
  stack : List Ty
structure Hd where
  lo : Int
  hi : Int
  pos : Int
  cls : ByteArray
structure Fld where
  name : ByteArray
  stat : Bool
  ty : Ty
structure Me where
  name : ByteArray
  stat : Bool
  params : List Ty
  result : Ty
  locals : Int
  stack : Int
  code : List Ins
  handlers : List Hd
  frames : List Fr
structure Cl where
  name : ByteArray
  super : ByteArray
  fields : List Fld
  methods : List Me

def byteAt (s : ByteArray) (j : Nat) : Int := ((s.data.toList[j]?.getD 0).toNat : Int)
def letB (c : Int) : Bool := decide (97 ≤ c ∧ c ≤ 122) || decide (65 ≤ c ∧ c ≤ 90)
def digB (c : Int) : Bool := decide (48 ≤ c ∧ c ≤ 57)
def okAt (s : ByteArray) (j : Nat) : Bool := letB (byteAt s j) || (!(j == 0) && digB (byteAt s j))
def isNameB (s : ByteArray) : Bool := decide (1 ≤ s.size) && decide (s.size ≤ 12) && (List.range s.size).all (okAt s)
theorem isNameB_true {s : ByteArray} (h1 : 1 ≤ s.size) (h2 : s.size ≤ 12) (h : ∀ j, j < s.size → okAt s j = true) : isNameB s = true := by
  simp [isNameB, h1, h2]; exact h
theorem isNameB_false {s : ByteArray} {j : Nat} (hj : j < s.size) (h : okAt s j = false) : isNameB s = false := by
  unfold isNameB
  rw [Bool.and_eq_false_iff]
  exact .inr (by rw [List.all_eq_false]; exact ⟨j, List.mem_range.2 hj, by simp [h]⟩)
theorem isNameB_short {s : ByteArray} (h : s.size < 1 ∨ 12 < s.size) : isNameB s = false := by
  unfold isNameB
  rcases h with h | h
  · have : decide (1 ≤ s.size) = false := decide_eq_false (by omega)
    simp [this]
  · have : decide (s.size ≤ 12) = false := decide_eq_false (by omega)
    simp [this]

theorem byteAt_of {s : ByteArray} {k : Nat} (h : k < s.size) : byteAt s k = (s[k].toNat : Int) := by
  unfold byteAt
  have : s.data.toList[k]? = some s[k] := by
    rw [Array.getElem?_toList]; exact Array.getElem?_eq_getElem h
  rw [this]; rfl
theorem okAt_next {s : ByteArray} {k : Nat} (h : ∀ j, j < k → okAt s j = true) (hk : okAt s k = true) : ∀ j, j < k + 1 → okAt s j = true := by
  intro j hj
  rcases Nat.lt_or_ge j k with h' | h'
  · exact h j h'
  · have : j = k := by omega
    subst this; exact hk

theorem all_no {α : Type} {l : List α} {f : α → Bool} {k : Nat} (hk : k < l.length) (h : f l[k] = false) : l.all f = false := by
  rw [List.all_eq_false]; exact ⟨l[k], List.getElem_mem hk, by simp [h]⟩
def isTypeB (t : Ty) (void odd : Bool) : Bool :=
  if t.kind = 0 then void && decide (t.cls = ⟨#[]⟩)
  else if t.kind = 1 ∨ t.kind = 2 then decide (t.cls = ⟨#[]⟩)
  else if t.kind = 3 then isNameB t.cls
  else if t.kind = 4 ∨ t.kind = 5 then odd && decide (t.cls = ⟨#[]⟩)
  else false

def mt : ByteArray := ⟨#[]⟩
def sortB (op : Int) : Int :=
  if op = 1 then 1 else if op = 2 ∨ op = 3 then 2 else if op = 10 ∨ op = 11 ∨ op = 12 ∨ op = 13 then 3 else if op = 15 ∨ op = 25 ∨ op = 26 then 4
  else if op = 16 ∨ op = 17 ∨ op = 18 ∨ op = 19 then 5 else if op = 20 ∨ op = 21 then 6 else if op < 0 ∨ 32 < op then -1 else 0
def areTypesB (l : List Ty) (odd : Bool) : Bool := l.all fun t => isTypeB t false odd
def isInstrB (i : Ins) (locals : Int) (len : Nat) : Bool :=
  if sortB i.op < 0 then false
  else if sortB i.op < 4 then
    if ¬ i.ref.cls = ⟨#[]⟩ ∨ ¬ i.ref.name = ⟨#[]⟩ ∨ 0 < (i.ref.params.length : Int) ∨ ¬ i.ref.ty.kind = 0 ∨ ¬ i.ref.ty.cls = ⟨#[]⟩ then false
    else if sortB i.op = 0 then decide (i.n = 0)
    else if sortB i.op = 2 then decide (0 ≤ i.n) && decide (i.n < locals)
    else if sortB i.op = 3 then decide (0 ≤ i.n) && decide (i.n < (len : Int))
    else true
  else if ¬ i.n = 0 ∨ isNameB i.ref.cls = false then false
  else if sortB i.op = 4 then decide (i.ref.name = ⟨#[]⟩) && decide ((i.ref.params.length : Int) = 0) && decide (i.ref.ty.kind = 0) && decide (i.ref.ty.cls = ⟨#[]⟩)
  else if sortB i.op = 5 then isNameB i.ref.name && decide ((i.ref.params.length : Int) = 0) && isTypeB i.ref.ty false false
  else isNameB i.ref.name && decide ((i.ref.params.length : Int) ≤ 6) && areTypesB i.ref.params false && isTypeB i.ref.ty (decide (sortB i.op = 6)) false
def isHdB (h : Hd) (len : Nat) : Bool :=
  decide (0 ≤ h.lo) && decide (h.lo < h.hi) && decide (h.hi ≤ (len : Int)) && decide (0 ≤ h.pos) && decide (h.pos < (len : Int)) && (isNameB h.cls || decide (h.cls = ⟨#[]⟩))
def posAt (l : List Fr) (i : Nat) : Int := ((l[i]?).map (·.pos)).getD (-1)
def aheadOf (l : List Fr) (i : Nat) : Int := if i = 0 then -1 else posAt l (i - 1)
def isFrB (prev : Int) (f : Fr) (locals stack : Int) (len : Nat) : Bool :=
  decide (0 ≤ f.pos) && decide (f.pos < (len : Int)) && decide (prev < f.pos) && decide ((f.locals.length : Int) = locals) && decide ((f.stack.length : Int) ≤ stack) && areTypesB f.locals true && areTypesB f.stack true
def frAt (l : List Fr) (locals stack : Int) (len : Nat) (i : Nat) : Bool := match l[i]? with | some f => isFrB (aheadOf l i) f locals stack len | none => true
def leastB (m : Me) : Int := if m.stat then (m.params.length : Int) else (m.params.length : Int) + 1
def isHeadB (m : Me) : Bool :=
  isNameB m.name && areTypesB m.params false && isTypeB m.result true false && decide ((m.params.length : Int) ≤ 6) && decide (leastB m ≤ m.locals) && decide (m.locals ≤ 20) && decide (0 ≤ m.stack) && decide (m.stack ≤ 20)
def isMethodB (m : Me) : Bool :=
  isHeadB m && decide (1 ≤ (m.code.length : Int)) && decide ((m.code.length : Int) ≤ 200) && decide ((m.handlers.length : Int) ≤ 10) && decide ((m.frames.length : Int) ≤ 60) &&
  m.code.all (fun i => isInstrB i m.locals m.code.length) && m.handlers.all (fun h => isHdB h m.code.length) && (List.range m.frames.length).all (frAt m.frames m.locals m.stack m.code.length)
def fdNe (l : List Fld) (i k : Nat) : Bool := match l[i]? with | some f => (match l[k]? with | some g => decide (¬ g.name = f.name) | none => true) | none => true
def fdNew (l : List Fld) (i : Nat) : Bool := (List.range i).all (fdNe l i)
def fdAt (l : List Fld) (i : Nat) : Bool := match l[i]? with | some f => isNameB f.name && isTypeB f.ty false false && fdNew l i | none => true
def sameSig (a b : Me) : Bool := decide (a.name = b.name) && decide (a.params.map (fun t => (t.kind, t.cls)) = b.params.map (fun t => (t.kind, t.cls))) && decide (a.result.kind = b.result.kind) && decide (a.result.cls = b.result.cls)
def meNe (l : List Me) (i k : Nat) : Bool := match l[i]? with | some m => (match l[k]? with | some g => !sameSig g m | none => true) | none => true
def meNew (l : List Me) (i : Nat) : Bool := (List.range i).all (meNe l i)
def meAt (l : List Me) (i : Nat) : Bool := match l[i]? with | some m => isMethodB m && meNew l i | none => true
def isClassB (c : Cl) : Bool :=
  isNameB c.name && isNameB c.super && decide ((c.fields.length : Int) ≤ 20) && decide ((c.methods.length : Int) ≤ 20) && (List.range c.fields.length).all (fdAt c.fields) && (List.range c.methods.length).all (meAt c.methods)

theorem fdNe_some {l : List Fld} {i k : Nat} (hi : i < l.length) (hk : k < l.length) : fdNe l i k = decide (¬ l[k].name = l[i].name) := by
  simp [fdNe, List.getElem?_eq_getElem hi, List.getElem?_eq_getElem hk]
theorem meNe_some {l : List Me} {i k : Nat} (hi : i < l.length) (hk : k < l.length) : meNe l i k = !sameSig l[k] l[i] := by
  simp [meNe, List.getElem?_eq_getElem hi, List.getElem?_eq_getElem hk]
theorem fdAt_some {l : List Fld} {i : Nat} (hi : i < l.length) : fdAt l i = (isNameB l[i].name && isTypeB l[i].ty false false && fdNew l i) := by
  simp [fdAt, List.getElem?_eq_getElem hi]
theorem meAt_some {l : List Me} {i : Nat} (hi : i < l.length) : meAt l i = (isMethodB l[i] && meNew l i) := by
  simp [meAt, List.getElem?_eq_getElem hi]
theorem all_snoc {α : Type} {l : List α} {f : α → Bool} {k : Nat} (hk : k < l.length) (h : (l.take k).all f = true) (hf : f l[k] = true) : (l.take (k + 1)).all f = true := by
  rw [List.take_succ_eq_append_getElem hk, List.all_append, h]; simp [hf]
theorem all_end {α : Type} {l : List α} {f : α → Bool} {k : Nat} (hk : ¬ k < l.length) (h : (l.take k).all f = true) : l.all f = true := by
  rw [List.take_of_length_le (by omega)] at h; exact h
theorem range_snoc {f : Nat → Bool} {k : Nat} (h : (List.range k).all f = true) (hf : f k = true) : (List.range (k + 1)).all f = true := by
  rw [List.range_succ, List.all_append, h]; simp [hf]
theorem range_no {f : Nat → Bool} {n k : Nat} (hk : k < n) (h : f k = false) : (List.range n).all f = false := by
  rw [List.all_eq_false]; exact ⟨k, List.mem_range.2 hk, by simp [h]⟩
theorem range_end {f : Nat → Bool} {n k : Nat} (hk : k ≤ n) (hn : ¬ k < n) (h : (List.range k).all f = true) : (List.range n).all f = true := by
  have : k = n := by omega
  rw [← this]; exact h

end Go.Proofs.YtpofmnfkdkmieaaGreat.At
namespace Go.Proofs.YtpofmnfkdkmieaaGreat
open Go.RowKit At E

def intOk (n : Int) : Prop := -9223372036854775808 ≤ n ∧ n ≤ 9223372036854775807
def strOk (s : ByteArray) : Prop := s.size ≤ 1048576

structure ListAt {α : Type} (k : Nat) (El : World → List Value → α → Prop) (w : World) (v : Value) (l : List α) : Prop where
  is : ∃ p c, v = .slice p l.length c ∧ (l.length ≤ 1048576 ∧ l.length ≤ c) ∧
    ∀ i x, l[i]? = some x → ∃ b o r, p = some ⟨b, o, none⟩ ∧ b < w.heap.size ∧ El w r x ∧ ∀ j u, r[j]? = some u → w.cell? ⟨b, o + i * k + j, none⟩ = some u
theorem ListAt.mono {α : Type} {k : Nat} {El : World → List Value → α → Prop} {w w' : World} {v : Value} {l : List α} (hEl : ∀ r x, El w r x → El w' r x) (h : ListAt k El w v l) (hb : Below w.heap.size w w') : ListAt k El w' v l := by
  obtain ⟨p, c, hv, hl, hr⟩ := h.is
  refine ⟨p, c, hv, hl, fun i x hi => ?_⟩
  obtain ⟨b, o, r, hp, hlt, he, hc⟩ := hr i x hi
  exact ⟨b, o, r, hp, Nat.lt_of_lt_of_le hlt hb.size, hEl r x he, fun j u hj => by rw [hb.cell (p := ⟨b, o + i * k + j, none⟩) hlt]; exact hc j u hj⟩

def tyOk (t : Ty) : Prop := intOk t.kind ∧ strOk t.cls
def tyV (t : Ty) : List Value := [.int .i64 t.kind, .string t.cls]
def TyEl (_ : World) (r : List Value) (t : Ty) : Prop := r = tyV t ∧ tyOk t
abbrev TysAt := ListAt 2 TyEl
theorem TysAt.mono {w w' : World} {v : Value} {l : List Ty} (h : TysAt w v l) (hb : Below w.heap.size w w') : TysAt w' v l := ListAt.mono (w := w) (fun _ _ h => h) h hb
theorem TysAt.ok {w : World} {v : Value} {l : List Ty} (h : TysAt w v l) : ∀ t ∈ l, tyOk t := by
  intro t ht
  obtain ⟨p, c, _, _, hr⟩ := h.is
  obtain ⟨i, hi⟩ := List.mem_iff_getElem?.1 ht
  obtain ⟨_, _, _, _, _, he, _⟩ := hr i t hi
  exact he.2
theorem TysAt.parts {w : World} {v : Value} {l : List Ty} (h : TysAt w v l) : ∃ p c, v = .slice p l.length c ∧ (l.length ≤ 1048576 ∧ l.length ≤ c) ∧
    ∀ i t, l[i]? = some t → ∃ b o, p = some ⟨b, o, none⟩ ∧ b < w.heap.size ∧ ∀ j u, (tyV t)[j]? = some u → w.cell? ⟨b, o + i * 2 + j, none⟩ = some u := by
  obtain ⟨p, c, hv, hl, hr⟩ := h.is
  refine ⟨p, c, hv, hl, fun i t hi => ?_⟩
  obtain ⟨b, o, r, hp, hlt, he, hc⟩ := hr i t hi
  obtain ⟨rfl, _⟩ := he
  exact ⟨b, o, hp, hlt, hc⟩

def rfOk (r : Rf) : Prop := strOk r.cls ∧ strOk r.name ∧ tyOk r.ty
def insOk (i : Ins) : Prop := intOk i.op ∧ intOk i.n ∧ rfOk i.ref
def insV (i : Ins) (pv : Value) : List Value := [.int .i64 i.op, .int .i64 i.n, .string i.ref.cls, .string i.ref.name, pv, .int .i64 i.ref.ty.kind, .string i.ref.ty.cls]
def InsEl (w : World) (r : List Value) (i : Ins) : Prop := ∃ pv, r = insV i pv ∧ TysAt w pv i.ref.params ∧ insOk i
theorem InsEl.mono {w w' : World} {r : List Value} {i : Ins} (h : InsEl w r i) (hb : Below w.heap.size w w') : InsEl w' r i := by
  obtain ⟨pv, h1, h2, h3⟩ := h
  exact ⟨pv, h1, h2.mono hb, h3⟩
abbrev InssAt := ListAt 7 InsEl
theorem InssAt.mono {w w' : World} {v : Value} {l : List Ins} (h : InssAt w v l) (hb : Below w.heap.size w w') : InssAt w' v l := ListAt.mono (w := w) (fun _ _ h => h.mono hb) h hb
def hdOk (h : Hd) : Prop := intOk h.lo ∧ intOk h.hi ∧ intOk h.pos ∧ strOk h.cls
def hdV (h : Hd) : List Value := [.int .i64 h.lo, .int .i64 h.hi, .int .i64 h.pos, .string h.cls]
def HdEl (_ : World) (r : List Value) (h : Hd) : Prop := r = hdV h ∧ hdOk h
abbrev HdsAt := ListAt 4 HdEl
theorem HdsAt.mono {w w' : World} {v : Value} {l : List Hd} (h : HdsAt w v l) (hb : Below w.heap.size w w') : HdsAt w' v l := ListAt.mono (w := w) (fun _ _ h => h) h hb
def frV (f : Fr) (lv sv : Value) : List Value := [.int .i64 f.pos, lv, sv]
def FrEl (w : World) (r : List Value) (f : Fr) : Prop := ∃ lv sv, r = frV f lv sv ∧ TysAt w lv f.locals ∧ TysAt w sv f.stack ∧ intOk f.pos
theorem FrEl.mono {w w' : World} {r : List Value} {i : Fr} (h : FrEl w r i) (hb : Below w.heap.size w w') : FrEl w' r i := by
  obtain ⟨lv, sv, h1, h2, h3, h4⟩ := h
  exact ⟨lv, sv, h1, h2.mono hb, h3.mono hb, h4⟩
abbrev FrsAt := ListAt 3 FrEl
theorem FrsAt.mono {w w' : World} {v : Value} {l : List Fr} (h : FrsAt w v l) (hb : Below w.heap.size w w') : FrsAt w' v l := ListAt.mono (w := w) (fun _ _ h => h.mono hb) h hb
def fdOk (f : Fld) : Prop := strOk f.name ∧ tyOk f.ty
def fdV (f : Fld) : List Value := [.string f.name, .bool f.stat, .int .i64 f.ty.kind, .string f.ty.cls]
def FdEl (_ : World) (r : List Value) (f : Fld) : Prop := r = fdV f ∧ fdOk f
abbrev FdsAt := ListAt 4 FdEl
theorem FdsAt.mono {w w' : World} {v : Value} {l : List Fld} (h : FdsAt w v l) (hb : Below w.heap.size w w') : FdsAt w' v l := ListAt.mono (w := w) (fun _ _ h => h) h hb
def meOk (m : Me) : Prop := strOk m.name ∧ tyOk m.result ∧ intOk m.locals ∧ intOk m.stack
def meV (m : Me) (pv cv hv fv : Value) : List Value := [.string m.name, .bool m.stat, pv, .int .i64 m.result.kind, .string m.result.cls, .int .i64 m.locals, .int .i64 m.stack, cv, hv, fv]
structure MeParts (w : World) (m : Me) (pv cv hv fv : Value) : Prop where
  ps : TysAt w pv m.params
  cs : InssAt w cv m.code
  hs : HdsAt w hv m.handlers
  fs : FrsAt w fv m.frames
  ok : meOk m
theorem MeParts.mono {w w' : World} {m : Me} {pv cv hv fv : Value} (h : MeParts w m pv cv hv fv) (hb : Below w.heap.size w w') : MeParts w' m pv cv hv fv := ⟨h.ps.mono hb, h.cs.mono hb, h.hs.mono hb, h.fs.mono hb, h.ok⟩
def MeEl (w : World) (r : List Value) (m : Me) : Prop := ∃ pv cv hv fv, r = meV m pv cv hv fv ∧ MeParts w m pv cv hv fv
theorem MeEl.mono {w w' : World} {r : List Value} {m : Me} (h : MeEl w r m) (hb : Below w.heap.size w w') : MeEl w' r m := by
  obtain ⟨pv, cv, hv, fv, h1, h2⟩ := h
  exact ⟨pv, cv, hv, fv, h1, h2.mono hb⟩
abbrev MesAt := ListAt 10 MeEl
theorem MesAt.mono {w w' : World} {v : Value} {l : List Me} (h : MesAt w v l) (hb : Below w.heap.size w w') : MesAt w' v l := ListAt.mono (w := w) (fun _ _ h => h.mono hb) h hb
def clV (c : Cl) (fv mv : Value) : List Value := [.string c.name, .string c.super, fv, mv]
structure ClAt (w : World) (c : Cl) (fv mv : Value) : Prop where
  fs : FdsAt w fv c.fields
  ms : MesAt w mv c.methods
  ok : strOk c.name ∧ strOk c.super
theorem ClAt.mono {w w' : World} {c : Cl} {fv mv : Value} (h : ClAt w c fv mv) (hb : Below w.heap.size w w') : ClAt w' c fv mv := ⟨h.fs.mono hb, h.ms.mono hb, h.ok⟩
theorem lowOf {w0 w : World} {H : Hp} {R : Asr} (hs : Sat w0 [] H R w) : Below w0.heap.size w0 w := hs.low.below
end Go.Proofs.YtpofmnfkdkmieaaGreat
namespace Go.Proofs.YtpofmnfkdkmieaaGreat
open Go.RowKit At E

def lowL (u : Nat) : Nat → List UInt8
  | 0 => []
  | k + 1 => UInt8.ofNat (u % 256) :: lowL (u / 256) k
def u64 (n : Int) : Nat := (IntKind.u64.wrap n).toNat
def lowS (n : Int) (k : Nat) : ByteArray := ⟨(lowL (u64 n) k).toArray⟩
theorem lowL_succ : ∀ (k u : Nat), lowL u (k + 1) = lowL u k ++ [UInt8.ofNat (u / 256 ^ k % 256)]
  | 0, u => by simp [lowL]
  | k + 1, u => by
    rw [lowL, lowL_succ k (u / 256), lowL, List.cons_append, Nat.div_div_eq_div_mul, Nat.pow_succ, Nat.mul_comm 256]
theorem lowL_length : ∀ (k u : Nat), (lowL u k).length = k
  | 0, _ => rfl
  | k + 1, u => by rw [lowL, List.length_cons, lowL_length k]
theorem u64_of (n : Int) : IntKind.u64.wrap n = (u64 n : Int) := by
  unfold u64
  have : 0 ≤ IntKind.u64.wrap n := by rw [IntKind.wrap_u64]; omega
  omega
theorem u64_lt (n : Int) : u64 n < 18446744073709551616 := by
  unfold u64
  have h : IntKind.u64.wrap n < 18446744073709551616 := by rw [IntKind.wrap_u64]; omega
  omega
end Go.Proofs.YtpofmnfkdkmieaaGreat
namespace Go.Proofs.YtpofmnfkdkmieaaGreat
open Go.RowKit At E

def nameS (s : ByteArray) : ByteArray := lowS (s.size : Nat) 1 ++ s
def flagS (b : Bool) : ByteArray := if b then lowS 1 1 else lowS 0 1
def oneTypeS (t : Ty) : ByteArray := if t.kind = 3 then lowS 3 1 ++ nameS t.cls else lowS t.kind 1
def typesS (l : List Ty) : ByteArray := l.foldl (fun s t => s ++ oneTypeS t) (lowS (l.length : Nat) 1)
def instrS (i : Ins) : ByteArray :=
  if sortB i.op = 1 then lowS i.op 1 ++ lowS i.n 8
  else if sortB i.op = 2 then lowS i.op 1 ++ lowS i.n 1
  else if sortB i.op = 3 then lowS i.op 1 ++ lowS i.n 2
  else if sortB i.op = 4 then lowS i.op 1 ++ nameS i.ref.cls
  else if sortB i.op = 5 then lowS i.op 1 ++ nameS i.ref.cls ++ nameS i.ref.name ++ oneTypeS i.ref.ty
  else if sortB i.op = 6 then lowS i.op 1 ++ nameS i.ref.cls ++ nameS i.ref.name ++ typesS i.ref.params ++ oneTypeS i.ref.ty
  else lowS i.op 1

theorem lowS_size (x : Int) (k : Nat) : (lowS x k).size = k := by
  show (lowL (u64 x) k).toArray.size = k
  rw [List.size_toArray, lowL_length]
theorem nameS_size (s : ByteArray) : (nameS s).size = 1 + s.size := by unfold nameS; rw [ByteArray.size_append, lowS_size]
theorem flagS_size (b : Bool) : (flagS b).size = 1 := by unfold flagS; split <;> rw [lowS_size]
theorem oneTypeS_le (t : Ty) : (oneTypeS t).size ≤ 2 + t.cls.size := by
  unfold oneTypeS
  split
  · rw [ByteArray.size_append, lowS_size, nameS_size]; omega
  · rw [lowS_size]; omega
theorem foldl_size {α : Type} (f : α → ByteArray) (c : Nat) : ∀ (l : List α) (s : ByteArray), (∀ x ∈ l, (f x).size ≤ c) → (l.foldl (fun s x => s ++ f x) s).size ≤ s.size + l.length * c
  | [], s, _ => by simp
  | x :: r, s, h => by
    have ih := foldl_size f c r (s ++ f x) (fun y hy => h y (List.mem_cons_of_mem _ hy))
    have hx := h x List.mem_cons_self
    rw [ByteArray.size_append] at ih
    simp only [List.foldl_cons, List.length_cons, Nat.add_mul, Nat.one_mul]
    omega
theorem typesS_le (l : List Ty) (h : ∀ t ∈ l, t.cls.size ≤ 12) : (typesS l).size ≤ 1 + l.length * 14 := by
  have := foldl_size oneTypeS 14 l (lowS (l.length : Nat) 1) (fun t ht => by have := oneTypeS_le t; have := h t ht; omega)
  rw [lowS_size] at this; exact this

end Go.Proofs.YtpofmnfkdkmieaaGreat
namespace Go.Proofs.YtpofmnfkdkmieaaGreat
open Go.RowKit At E

theorem frAt_some {l : List Fr} {k : Nat} (hk : k < l.length) (a b : Int) (c : Nat) : frAt l a b c k = isFrB (aheadOf l k) l[k] a b c := by
  simp [frAt, List.getElem?_eq_getElem hk]

end Go.Proofs.YtpofmnfkdkmieaaGreat
