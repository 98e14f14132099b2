/- What is proved here: out of the reading of an argument: the class that it is, that it lies in memory, and how much it holds. -/
import Derived.Test.YtpofmnfkdkmieaaGreatRows
import Derived.Test.YtpofmnfkdkmieaaGreatQ18
import Derived.Deep.Slices
import Derived.Carry
import Derived.ProofKit
import Derived.OpenShut
import Derived.JoinedCond
set_option linter.unusedVariables false
set_option linter.unusedSimpArgs false
namespace Go.Proofs.YtpofmnfkdkmieaaGreat.Bu
open Go

theorem one_le {H : Type} (d : DataW H) : 1 ≤ Rows.uptoBulk d := by
  cases d with
  | lit l => cases l <;> simp [Rows.uptoBulk]
  | nil => simp [Rows.uptoBulk]
  | ptr d => simp [Rows.uptoBulk]
  | slice elems spare => simp [Rows.uptoBulk]
  | agg parts => simp [Rows.uptoBulk]
  | iface t d => simp [Rows.uptoBulk]
  | map entries => simp [Rows.uptoBulk]
  | held h => simp [Rows.uptoBulk]
theorem part_le {H : Type} {d : DataW H} {l : List (DataW H)} (h : d ∈ l) : Rows.uptoBulk d ≤ Rows.uptoBulkAll l := by
  induction l with
  | nil => cases h
  | cons x r ih =>
    simp only [Rows.uptoBulkAll]
    cases List.mem_cons.1 h with
    | inl e => subst e; omega
    | inr e => have := ih e; omega
theorem sum_le {H α : Type} (μ : α → Nat) : ∀ (l : List α) (ds : List (DataW H)), l.length = ds.length → (∀ (i : Nat) a d, l[i]? = some a → ds[i]? = some d → μ a ≤ Rows.uptoBulk d) → (l.map μ).sum ≤ Rows.uptoBulkAll ds
  | [], [], _, _ => by simp
  | [], _ :: _, h, _ => by simp at h
  | _ :: _, [], h, _ => by simp at h
  | a :: l, d :: ds, h, hm => by
    have h0 := hm 0 a d rfl rfl
    have := sum_le μ l ds (by simpa using h) (fun i a' d' hi hd => hm (i + 1) a' d' (by simpa using hi) (by simpa using hd))
    simp only [List.map_cons, List.sum_cons, Rows.uptoBulkAll]; omega
theorem sum_one {α : Type} : ∀ l : List α, (l.map fun _ => 1).sum = l.length
  | [] => rfl
  | _ :: l => by rw [List.map_cons, List.sum_cons, sum_one l, List.length_cons]; omega
theorem sum_two {α : Type} : ∀ l : List α, (l.map fun _ => 2).sum = 2 * l.length
  | [] => rfl
  | _ :: l => by rw [List.map_cons, List.sum_cons, sum_two l, List.length_cons]; omega
end Go.Proofs.YtpofmnfkdkmieaaGreat.Bu
namespace Go.Proofs.YtpofmnfkdkmieaaGreat
open Go Go.RowKit At E

def fieldsOf (P : Program) (t : TypeId) : Option (List (TypeId × Nat)) := match P.underlying t with
  | some (.struct fs) => some (fs.toList.map fun f => (f.type, f.offset))
  | _ => none
section
variable {H : Type} {enc : TypeId × Value → H} {W : World}
abbrev Rd (enc : TypeId × Value → H) (W : World) (n : Nat) (t : TypeId) (cs : List Value) (y : DataW H × List MemPlace) : Prop := DataW.trod enc Tryz.prog W 0 (fun _ => true) true n t cs = some y
theorem rd_struct {t : TypeId} {L : List (TypeId × Nat)} {n : Nat} {cs : List Value} {x : DataW H × List MemPlace} (hT : fieldsOf Tryz.prog t = some L) (h : Rd enc W n t cs x) :
    ∃ (xs : List (DataW H × List MemPlace)) (m : Nat), x.1 = .agg (xs.map (·.1)) ∧ cs.length = Tryz.prog.cellsOf t ∧ xs.length = L.length ∧ ∀ (i : Nat) u o, L[i]? = some (u, o) → ∃ y, xs[i]? = some y ∧ Rd enc W m u ((cs.drop o).take (Tryz.prog.cellsOf u)) y := by
  unfold fieldsOf at hT
  split at hT
  · rename_i fs hf
    cases hT
    obtain ⟨xs, m, -, rfl, hl, hxl, hx⟩ := DataW.trod_struct hf h
    refine ⟨xs, m, rfl, hl, by rw [hxl, List.length_map, Array.length_toList], fun i u o hi => ?_⟩
    rw [List.getElem?_map] at hi
    cases hfi : fs.toList[i]? with
    | none => rw [hfi] at hi; cases hi
    | some f =>
      rw [hfi] at hi
      cases hi
      have hfa : fs[i]? = some f := by rw [← Array.getElem?_toList]; exact hfi
      have h1 := hx i f hfa
      have hlt : i < xs.length := by
        rw [hxl]
        rcases Nat.lt_or_ge i fs.size with h' | h'
        · exact h'
        · rw [Array.getElem?_eq_none h'] at hfa; cases hfa
      rw [List.getElem?_eq_getElem hlt] at h1 ⊢
      exact ⟨_, rfl, h1⟩
  · cases hT
theorem rd_int {t : TypeId} {n : Nat} {cs : List Value} {y : DataW H × List MemPlace} (ht : Tryz.prog.underlying t = some (.int .i64)) (h : Rd enc W n t cs y) : ∃ z : Int, cs = [.int .i64 z] ∧ intOk z ∧ Rows.uptoBulk y.1 = 1 := by
  obtain ⟨z, rfl, rfl, hw⟩ := DataW.trod_int ht h
  refine ⟨z, rfl, ?_, rfl⟩
  simp only [Lit.wf, Bool.and_eq_true, decide_eq_true_eq] at hw
  exact ⟨hw.1, hw.2⟩
theorem rd_str {t : TypeId} {n : Nat} {cs : List Value} {y : DataW H × List MemPlace} (ht : Tryz.prog.underlying t = some .string) (h : Rd enc W n t cs y) : ∃ s : ByteArray, cs = [.string s] ∧ Rows.uptoBulk y.1 = s.size + 1 := by
  obtain ⟨s, rfl, rfl, -⟩ := DataW.trod_string ht h
  exact ⟨s, rfl, by simp only [Rows.uptoBulk]; rw [Array.length_toList]; rfl⟩
theorem rd_bool {t : TypeId} {n : Nat} {cs : List Value} {y : DataW H × List MemPlace} (ht : Tryz.prog.underlying t = some .bool) (h : Rd enc W n t cs y) : ∃ b : Bool, cs = [.bool b] ∧ Rows.uptoBulk y.1 = 1 := by
  obtain ⟨b, rfl, rfl⟩ := DataW.trod_bool ht h
  exact ⟨b, rfl, rfl⟩
theorem rd_list {α : Type} {k : Nat} {El : World → List Value → α → Prop} {Q : α → Prop} {μ : α → Nat} {t e : TypeId} {n : Nat} {cs : List Value} {x : DataW H × List MemPlace} (ht : Tryz.prog.underlying t = some (.slice e)) (hk : Tryz.prog.cellsOf e = k) (hk0 : 0 < k)
    (rd : ∀ m cs' y, Rd enc W m e cs' y → Rows.uptoBulk y.1 ≤ 1048576 → ∃ a, El W cs' a ∧ Q a ∧ μ a ≤ Rows.uptoBulk y.1) (h : Rd enc W n t cs x) (hb : Rows.uptoBulk x.1 ≤ 1048576) :
    ∃ v l, cs = [v] ∧ ListAt k El W v l ∧ (∀ a ∈ l, Q a) ∧ (l.map μ).sum + 1 ≤ Rows.uptoBulk x.1 := by
  rcases Deep.open_slice ht h with ⟨rfl, rfl⟩ | ⟨a, len, cap, m, nn, D, Pl, rfl, -, hlc, -, hm, rfl, hx⟩
  · exact ⟨_, [], rfl, ⟨none, 0, rfl, ⟨by simp, by simp⟩, fun i x hi => by simp at hi⟩, by simp, by simp [Rows.uptoBulk]⟩
  · have hlm : len ≤ m := by rw [hm]; split <;> omega
    simp only [Rows.uptoBulk] at hb ⊢
    have each : ∀ i, i < len → ∃ a' : α, ∃ cs', W.cells? 0 (a.add (i * Tryz.prog.cellsOf e)) (Tryz.prog.cellsOf e) = some cs' ∧ El W cs' a' ∧ Q a' ∧ μ a' ≤ Rows.uptoBulk (D i) := fun i hi => by
      obtain ⟨cs', h1, h2⟩ := hx i (by omega)
      have hD : Rows.uptoBulk (D i) ≤ Rows.uptoBulkAll ((List.range len).map D) := Bu.part_le (List.mem_map_of_mem (List.mem_range.2 hi))
      obtain ⟨a', h3, h4, h5⟩ := rd nn cs' _ h2 (by show Rows.uptoBulk (D i) ≤ _; omega)
      exact ⟨a', cs', h1, h3, h4, h5⟩
    have hlist : ∃ l : List α, l.length = len ∧ ∀ i a', l[i]? = some a' → ∃ cs', W.cells? 0 (a.add (i * Tryz.prog.cellsOf e)) (Tryz.prog.cellsOf e) = some cs' ∧ El W cs' a' ∧ Q a' ∧ μ a' ≤ Rows.uptoBulk (D i) := by
      have : ∀ j, j ≤ len → ∃ l : List α, l.length = j ∧ ∀ i a', l[i]? = some a' → ∃ cs', W.cells? 0 (a.add (i * Tryz.prog.cellsOf e)) (Tryz.prog.cellsOf e) = some cs' ∧ El W cs' a' ∧ Q a' ∧ μ a' ≤ Rows.uptoBulk (D i) := by
        intro j
        induction j with
        | zero => intro _; exact ⟨[], rfl, fun i a' hi => by simp at hi⟩
        | succ j ih =>
          intro hj
          obtain ⟨l, hl, hp⟩ := ih (by omega)
          obtain ⟨a', ha'⟩ := each j (by omega)
          refine ⟨l ++ [a'], by simp [hl], fun i b hi => ?_⟩
          rcases Nat.lt_or_ge i l.length with h' | h'
          · rw [List.getElem?_append_left h'] at hi; exact hp i b hi
          · rw [List.getElem?_append_right h'] at hi
            obtain ⟨h9, rfl⟩ := one_at hi
            have : i = j := by omega
            subst this
            exact ha'
      exact this len (Nat.le_refl _)
    obtain ⟨l, hl, hp⟩ := hlist
    subst hl
    have hsum : (l.map μ).sum ≤ Rows.uptoBulkAll ((List.range l.length).map D) := Bu.sum_le μ l _ (by simp) (fun i a' d hi hd => by
      obtain ⟨cs', -, -, -, h5⟩ := hp i a' hi
      rw [List.getElem?_map] at hd
      have hlt : i < l.length := by
        rcases Nat.lt_or_ge i l.length with h' | h'
        · exact h'
        · rw [List.getElem?_eq_none h'] at hi; cases hi
      rw [List.getElem?_range hlt] at hd
      cases hd
      exact h5)
    have hlen : l.length ≤ Rows.uptoBulkAll ((List.range l.length).map D) := by
      have h9 := Bu.sum_le (fun _ => 1) l ((List.range l.length).map D) (by simp) (fun i a' d _ _ => Bu.one_le d)
      have e : (l.map fun _ => 1).sum = l.length := Bu.sum_one l
      omega
    refine ⟨_, l, rfl, ⟨some a, cap, rfl, ⟨by omega, hlc⟩, fun i b hi => ?_⟩, fun b hb' => ?_, by omega⟩
    · obtain ⟨cs', h1, h2, -, -⟩ := hp i b hi
      rw [hk] at h1
      obtain ⟨-, hcl, hc⟩ := World.cells?_some h1
      have hpos : 0 < l.length := by
        rcases Nat.lt_or_ge i l.length with h' | h'
        · omega
        · rw [List.getElem?_eq_none h'] at hi; cases hi
      obtain ⟨x0, hx0⟩ : ∃ x0, l[0]? = some x0 := ⟨_, List.getElem?_eq_getElem hpos⟩
      obtain ⟨cs0, h10, -, -, -⟩ := hp 0 x0 hx0
      rw [hk] at h10
      obtain ⟨-, hcl0, hc0⟩ := World.cells?_some h10
      have h00 := hc0 0 hk0
      rw [Nat.zero_mul, Addr.add_zero', Addr.add_zero', List.getElem?_eq_getElem (by omega)] at h00
      have hsp := World.cell?_spot h00
      have hlt := World.block_lt_of_cell? W a h00
      obtain ⟨bb, oo, ss⟩ := a
      dsimp only at hsp hlt
      subst hsp
      refine ⟨bb, oo, cs', rfl, hlt, h2, fun j u hj => ?_⟩
      have hjk : j < k := by
        rcases Nat.lt_or_ge j k with h' | h'
        · exact h'
        · rw [List.getElem?_eq_none (by omega)] at hj; cases hj
      have := hc j hjk
      rw [Addr.add_lit, Addr.add_lit, hj] at this
      exact this
    · obtain ⟨i, hi⟩ := List.mem_iff_getElem?.1 hb'
      obtain ⟨cs', -, -, h4, -⟩ := hp i b hi
      exact h4
end
end Go.Proofs.YtpofmnfkdkmieaaGreat
