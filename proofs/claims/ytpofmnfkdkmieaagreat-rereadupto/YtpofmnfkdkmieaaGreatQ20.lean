/- What is proved here: out of the reading of an argument: the class that it is, that it lies in memory, and how much it holds. -/
import Derived.Test.YtpofmnfkdkmieaaGreatQ19
set_option linter.unusedVariables false
set_option linter.unusedSimpArgs false
namespace Go.Proofs.YtpofmnfkdkmieaaGreat
open Go Go.RowKit At E

theorem len2 {α : Type} {l : List α} (h : l.length = 2) : ∃ x0 x1, l = [x0, x1] := by
  match l, h with
  | [x0, x1], _ => exact ⟨x0, x1, rfl⟩
theorem len3 {α : Type} {l : List α} (h : l.length = 3) : ∃ x0 x1 x2, l = [x0, x1, x2] := by
  match l, h with
  | [x0, x1, x2], _ => exact ⟨x0, x1, x2, rfl⟩
theorem len4 {α : Type} {l : List α} (h : l.length = 4) : ∃ x0 x1 x2 x3, l = [x0, x1, x2, x3] := by
  match l, h with
  | [x0, x1, x2, x3], _ => exact ⟨x0, x1, x2, x3, rfl⟩
theorem len5 {α : Type} {l : List α} (h : l.length = 5) : ∃ x0 x1 x2 x3 x4, l = [x0, x1, x2, x3, x4] := by
  match l, h with
  | [x0, x1, x2, x3, x4], _ => exact ⟨x0, x1, x2, x3, x4, rfl⟩
theorem len7 {α : Type} {l : List α} (h : l.length = 7) : ∃ x0 x1 x2 x3 x4 x5 x6, l = [x0, x1, x2, x3, x4, x5, x6] := by
  match l, h with
  | [x0, x1, x2, x3, x4, x5, x6], _ => exact ⟨x0, x1, x2, x3, x4, x5, x6, rfl⟩
theorem len9 {α : Type} {l : List α} (h : l.length = 9) : ∃ x0 x1 x2 x3 x4 x5 x6 x7 x8, l = [x0, x1, x2, x3, x4, x5, x6, x7, x8] := by
  match l, h with
  | [x0, x1, x2, x3, x4, x5, x6, x7, x8], _ => exact ⟨x0, x1, x2, x3, x4, x5, x6, x7, x8, rfl⟩
theorem len10 {α : Type} {l : List α} (h : l.length = 10) : ∃ x0 x1 x2 x3 x4 x5 x6 x7 x8 x9, l = [x0, x1, x2, x3, x4, x5, x6, x7, x8, x9] := by
  match l, h with
  | [x0, x1, x2, x3, x4, x5, x6, x7, x8, x9], _ => exact ⟨x0, x1, x2, x3, x4, x5, x6, x7, x8, x9, rfl⟩
theorem cl_int : Tryz.prog.cellsOf 3 = 1 := by kernel_rfl
theorem cl_str : Tryz.prog.cellsOf 9 = 1 := by kernel_rfl
theorem cl_bool : Tryz.prog.cellsOf 4 = 1 := by kernel_rfl
theorem cl_ty : Tryz.prog.cellsOf 71 = 2 := by kernel_rfl
theorem cl_rf : Tryz.prog.cellsOf 73 = 5 := by kernel_rfl
theorem cl_tys : Tryz.prog.cellsOf 69 = 1 := by kernel_rfl
theorem cl_inss : Tryz.prog.cellsOf 76 = 1 := by kernel_rfl
theorem cl_hds : Tryz.prog.cellsOf 131 = 1 := by kernel_rfl
theorem cl_frs : Tryz.prog.cellsOf 132 = 1 := by kernel_rfl
theorem cl_fds : Tryz.prog.cellsOf 22 = 1 := by kernel_rfl
theorem cl_mes : Tryz.prog.cellsOf 23 = 1 := by kernel_rfl
theorem ul_int : Tryz.prog.underlying 3 = some (.int .i64) := by kernel_rfl
theorem ul_str : Tryz.prog.underlying 9 = some (.string) := by kernel_rfl
theorem ul_bool : Tryz.prog.underlying 4 = some (.bool) := by kernel_rfl
theorem ul_tys : Tryz.prog.underlying 69 = some (.slice 71) := by kernel_rfl
theorem ul_inss : Tryz.prog.underlying 76 = some (.slice 75) := by kernel_rfl
theorem ul_hds : Tryz.prog.underlying 131 = some (.slice 169) := by kernel_rfl
theorem ul_frs : Tryz.prog.underlying 132 = some (.slice 176) := by kernel_rfl
theorem ul_fds : Tryz.prog.underlying 22 = some (.slice 128) := by kernel_rfl
theorem ul_mes : Tryz.prog.underlying 23 = some (.slice 134) := by kernel_rfl
theorem fl_ty : fieldsOf Tryz.prog 71 = some [(3, 0), (9, 1)] := by kernel_rfl
theorem fl_rf : fieldsOf Tryz.prog 73 = some [(9, 0), (9, 1), (69, 2), (71, 3)] := by kernel_rfl
theorem fl_ins : fieldsOf Tryz.prog 75 = some [(3, 0), (3, 1), (73, 2)] := by kernel_rfl
theorem cl_ins : Tryz.prog.cellsOf 75 = 7 := by kernel_rfl
theorem fl_hd : fieldsOf Tryz.prog 169 = some [(3, 0), (3, 1), (3, 2), (9, 3)] := by kernel_rfl
theorem cl_hd : Tryz.prog.cellsOf 169 = 4 := by kernel_rfl
theorem fl_fd : fieldsOf Tryz.prog 128 = some [(9, 0), (4, 1), (71, 2)] := by kernel_rfl
theorem cl_fd : Tryz.prog.cellsOf 128 = 4 := by kernel_rfl
theorem fl_fr : fieldsOf Tryz.prog 176 = some [(3, 0), (69, 1), (69, 2)] := by kernel_rfl
theorem cl_fr : Tryz.prog.cellsOf 176 = 3 := by kernel_rfl
theorem fl_me : fieldsOf Tryz.prog 134 = some [(9, 0), (4, 1), (69, 2), (71, 3), (3, 5), (3, 6), (76, 7), (131, 8), (132, 9)] := by kernel_rfl
theorem cl_me : Tryz.prog.cellsOf 134 = 10 := by kernel_rfl
theorem fl_cl : fieldsOf Tryz.prog 25 = some [(9, 0), (9, 1), (22, 2), (23, 3)] := by kernel_rfl
theorem cl_cl : Tryz.prog.cellsOf 25 = 4 := by kernel_rfl
section
variable {H : Type} {enc : TypeId × Value → H} {W : World} {n : Nat} {cs : List Value} {x : DataW H × List MemPlace}
theorem rd_ty (h : Rd enc W n 71 cs x) : ∃ t : Ty, cs = tyV t ∧ intOk t.kind ∧ Rows.uptoBulk x.1 = t.cls.size + 3 := by
  obtain ⟨xs, m, hx1, hl, hxl, hx⟩ := rd_struct fl_ty h
  rw [cl_ty] at hl
  obtain ⟨c0, c1, rfl⟩ := len2 hl
  obtain ⟨y0, y1, rfl⟩ := len2 hxl
  clear hl hxl h
  rw [hx1]
  simp only [List.map_cons, List.map_nil, Rows.uptoBulk, Rows.uptoBulkAll]
  have o0 := Bu.one_le y0.1
  have o1 := Bu.one_le y1.1
  obtain ⟨_, e0, h0⟩ := hx 0 _ _ rfl
  cases e0
  rw [cl_int] at h0
  replace h0 : Rd enc W m 3 [c0] y0 := h0
  obtain ⟨z0, hz0, a0, b0⟩ := rd_int ul_int h0
  cases hz0
  obtain ⟨_, e1, h1⟩ := hx 1 _ _ rfl
  cases e1
  rw [cl_str] at h1
  replace h1 : Rd enc W m 9 [c1] y1 := h1
  obtain ⟨z1, hz1, b1⟩ := rd_str ul_str h1
  cases hz1
  clear hx hx1
  exact ⟨⟨z0, z1⟩, rfl, a0, by show _ = z1.size + 3; omega⟩
theorem sum_lt {α : Type} {l : List α} {N : Nat} (h : (l.map fun _ => 2).sum + 1 ≤ N) (hN : N ≤ 1048576) : l.length ≤ 1000000 := by rw [Bu.sum_two] at h; omega
theorem strOk_of {s : ByteArray} (h : s.size ≤ 1048576) : strOk s := h
theorem rd_tys (h : Rd enc W n 69 cs x) (hb : Rows.uptoBulk x.1 ≤ 1048576) : ∃ v l, cs = [v] ∧ TysAt W v l ∧ (l.length ≤ 1000000 ∧ ∀ a ∈ l, tyOk a) ∧ 2 * l.length + 1 ≤ Rows.uptoBulk x.1 := by
  obtain ⟨v, l, h1, h2, h3, h4⟩ := rd_list (El := TyEl) (Q := fun a => tyOk a) (μ := fun _ => 2) ul_tys cl_ty (by omega) (fun m cs' y hy hyb => by obtain ⟨t, e, a, b⟩ := rd_ty hy; exact ⟨t, ⟨e, a, strOk_of (by omega)⟩, ⟨a, strOk_of (by omega)⟩, by show 2 ≤ _; omega⟩) h hb
  exact ⟨v, l, h1, h2, ⟨sum_lt h4 hb, h3⟩, by rw [Bu.sum_two] at h4; exact h4⟩
theorem rd_rf (h : Rd enc W n 73 cs x) (hb : Rows.uptoBulk x.1 ≤ 1048576) : ∃ (r : Rf) (pv : Value), cs = rfV r pv ∧ TysAt W pv r.params ∧ rfOk r ∧ tysOk' r.params := by
  obtain ⟨xs, m, hx1, hl, hxl, hx⟩ := rd_struct fl_rf h
  rw [cl_rf] at hl
  obtain ⟨c0, c1, c2, c3, c4, rfl⟩ := len5 hl
  obtain ⟨y0, y1, y2, y3, rfl⟩ := len4 hxl
  clear hl hxl h
  rw [hx1] at hb
  try rw [hx1]
  simp only [List.map_cons, List.map_nil, Rows.uptoBulk, Rows.uptoBulkAll] at hb
  try simp only [List.map_cons, List.map_nil, Rows.uptoBulk, Rows.uptoBulkAll]
  have o0 := Bu.one_le y0.1
  have o1 := Bu.one_le y1.1
  have o2 := Bu.one_le y2.1
  have o3 := Bu.one_le y3.1
  obtain ⟨_, e0, h0⟩ := hx 0 _ _ rfl
  cases e0
  rw [cl_str] at h0
  replace h0 : Rd enc W m 9 [c0] y0 := h0
  obtain ⟨z0, hz0, b0⟩ := rd_str ul_str h0
  cases hz0
  obtain ⟨_, e1, h1⟩ := hx 1 _ _ rfl
  cases e1
  rw [cl_str] at h1
  replace h1 : Rd enc W m 9 [c1] y1 := h1
  obtain ⟨z1, hz1, b1⟩ := rd_str ul_str h1
  cases hz1
  obtain ⟨_, e2, h2⟩ := hx 2 _ _ rfl
  cases e2
  rw [cl_tys] at h2
  replace h2 : Rd enc W m 69 [c2] y2 := h2
  obtain ⟨v2, l2, hz2, t2, a2, b2⟩ := rd_tys h2 (by omega)
  cases hz2
  obtain ⟨_, e3, h3⟩ := hx 3 _ _ rfl
  cases e3
  rw [cl_ty] at h3
  replace h3 : Rd enc W m 71 [c3, c4] y3 := h3
  obtain ⟨z3, hz3, a3, b3⟩ := rd_ty h3
  cases hz3
  clear hx hx1
  have s0 : strOk z0 := strOk_of (by omega)
  have s1 : strOk z1 := strOk_of (by omega)
  have s3 : tyOk z3 := ⟨a3, strOk_of (by omega)⟩
  exact ⟨⟨z0, z1, l2, z3⟩, _, rfl, t2, ⟨s0, s1, s3⟩, a2⟩
theorem rd_ins (h : Rd enc W n 75 cs x) (hb : Rows.uptoBulk x.1 ≤ 1048576) : ∃ i : Ins, InsEl W cs i ∧ (insOk i ∧ tysOk' i.ref.params) ∧ 2 ≤ Rows.uptoBulk x.1 := by
  have hb0 := hb
  obtain ⟨xs, m, hx1, hl, hxl, hx⟩ := rd_struct fl_ins h
  rw [cl_ins] at hl
  obtain ⟨c0, c1, c2, c3, c4, c5, c6, rfl⟩ := len7 hl
  obtain ⟨y0, y1, y2, rfl⟩ := len3 hxl
  clear hl hxl h
  rw [hx1] at hb
  try rw [hx1]
  simp only [List.map_cons, List.map_nil, Rows.uptoBulk, Rows.uptoBulkAll] at hb
  try simp only [List.map_cons, List.map_nil, Rows.uptoBulk, Rows.uptoBulkAll]
  have o0 := Bu.one_le y0.1
  have o1 := Bu.one_le y1.1
  have o2 := Bu.one_le y2.1
  obtain ⟨_, e0, h0⟩ := hx 0 _ _ rfl
  cases e0
  rw [cl_int] at h0
  replace h0 : Rd enc W m 3 [c0] y0 := h0
  obtain ⟨z0, hz0, a0, b0⟩ := rd_int ul_int h0
  cases hz0
  obtain ⟨_, e1, h1⟩ := hx 1 _ _ rfl
  cases e1
  rw [cl_int] at h1
  replace h1 : Rd enc W m 3 [c1] y1 := h1
  obtain ⟨z1, hz1, a1, b1⟩ := rd_int ul_int h1
  cases hz1
  obtain ⟨_, e2, h2⟩ := hx 2 _ _ rfl
  cases e2
  rw [cl_rf] at h2
  replace h2 : Rd enc W m 73 [c2, c3, c4, c5, c6] y2 := h2
  obtain ⟨z2, p2, hz2, t2, a2, g2⟩ := rd_rf h2 (by omega)
  cases hz2
  clear hx hx1
  exact ⟨⟨z0, z1, z2⟩, ⟨_, rfl, t2, a0, a1, a2⟩, ⟨⟨a0, a1, a2⟩, g2⟩, by omega⟩
theorem rd_inss (h : Rd enc W n 76 cs x) (hb : Rows.uptoBulk x.1 ≤ 1048576) : ∃ v l, cs = [v] ∧ InssAt W v l ∧ (l.length ≤ 1000000 ∧ ∀ a ∈ l, insOk a ∧ tysOk' a.ref.params) ∧ 2 * l.length + 1 ≤ Rows.uptoBulk x.1 := by
  obtain ⟨v, l, h1, h2, h3, h4⟩ := rd_list (El := InsEl) (Q := fun a => insOk a ∧ tysOk' a.ref.params) (μ := fun _ => 2) ul_inss cl_ins (by omega) (fun m cs' y hy hyb => rd_ins hy hyb) h hb
  exact ⟨v, l, h1, h2, ⟨sum_lt h4 hb, h3⟩, by rw [Bu.sum_two] at h4; exact h4⟩
theorem rd_hd (h : Rd enc W n 169 cs x) (hb : Rows.uptoBulk x.1 ≤ 1048576) : ∃ i : Hd, HdEl W cs i ∧ hdOk i ∧ 2 ≤ Rows.uptoBulk x.1 := by
  obtain ⟨xs, m, hx1, hl, hxl, hx⟩ := rd_struct fl_hd h
  rw [cl_hd] at hl
  obtain ⟨c0, c1, c2, c3, rfl⟩ := len4 hl
  obtain ⟨y0, y1, y2, y3, rfl⟩ := len4 hxl
  clear hl hxl h
  rw [hx1] at hb
  try rw [hx1]
  simp only [List.map_cons, List.map_nil, Rows.uptoBulk, Rows.uptoBulkAll] at hb
  try simp only [List.map_cons, List.map_nil, Rows.uptoBulk, Rows.uptoBulkAll]
  have o0 := Bu.one_le y0.1
  have o1 := Bu.one_le y1.1
  have o2 := Bu.one_le y2.1
  have o3 := Bu.one_le y3.1
  obtain ⟨_, e0, h0⟩ := hx 0 _ _ rfl
  cases e0
  rw [cl_int] at h0
  replace h0 : Rd enc W m 3 [c0] y0 := h0
  obtain ⟨z0, hz0, a0, b0⟩ := rd_int ul_int h0
  cases hz0
  obtain ⟨_, e1, h1⟩ := hx 1 _ _ rfl
  cases e1
  rw [cl_int] at h1
  replace h1 : Rd enc W m 3 [c1] y1 := h1
  obtain ⟨z1, hz1, a1, b1⟩ := rd_int ul_int h1
  cases hz1
  obtain ⟨_, e2, h2⟩ := hx 2 _ _ rfl
  cases e2
  rw [cl_int] at h2
  replace h2 : Rd enc W m 3 [c2] y2 := h2
  obtain ⟨z2, hz2, a2, b2⟩ := rd_int ul_int h2
  cases hz2
  obtain ⟨_, e3, h3⟩ := hx 3 _ _ rfl
  cases e3
  rw [cl_str] at h3
  replace h3 : Rd enc W m 9 [c3] y3 := h3
  obtain ⟨z3, hz3, b3⟩ := rd_str ul_str h3
  cases hz3
  clear hx hx1
  have s3 : strOk z3 := strOk_of (by omega)
  exact ⟨⟨z0, z1, z2, z3⟩, ⟨rfl, a0, a1, a2, s3⟩, ⟨a0, a1, a2, s3⟩, by omega⟩
theorem rd_hds (h : Rd enc W n 131 cs x) (hb : Rows.uptoBulk x.1 ≤ 1048576) : ∃ v l, cs = [v] ∧ HdsAt W v l ∧ (l.length ≤ 1000000 ∧ ∀ a ∈ l, hdOk a) ∧ 2 * l.length + 1 ≤ Rows.uptoBulk x.1 := by
  obtain ⟨v, l, h1, h2, h3, h4⟩ := rd_list (El := HdEl) (Q := fun a => hdOk a) (μ := fun _ => 2) ul_hds cl_hd (by omega) (fun m cs' y hy hyb => rd_hd hy hyb) h hb
  exact ⟨v, l, h1, h2, ⟨sum_lt h4 hb, h3⟩, by rw [Bu.sum_two] at h4; exact h4⟩
theorem rd_fd (h : Rd enc W n 128 cs x) (hb : Rows.uptoBulk x.1 ≤ 1048576) : ∃ i : Fld, FdEl W cs i ∧ fdOk i ∧ 2 ≤ Rows.uptoBulk x.1 := by
  obtain ⟨xs, m, hx1, hl, hxl, hx⟩ := rd_struct fl_fd h
  rw [cl_fd] at hl
  obtain ⟨c0, c1, c2, c3, rfl⟩ := len4 hl
  obtain ⟨y0, y1, y2, rfl⟩ := len3 hxl
  clear hl hxl h
  rw [hx1] at hb
  try rw [hx1]
  simp only [List.map_cons, List.map_nil, Rows.uptoBulk, Rows.uptoBulkAll] at hb
  try simp only [List.map_cons, List.map_nil, Rows.uptoBulk, Rows.uptoBulkAll]
  have o0 := Bu.one_le y0.1
  have o1 := Bu.one_le y1.1
  have o2 := Bu.one_le y2.1
  obtain ⟨_, e0, h0⟩ := hx 0 _ _ rfl
  cases e0
  rw [cl_str] at h0
  replace h0 : Rd enc W m 9 [c0] y0 := h0
  obtain ⟨z0, hz0, b0⟩ := rd_str ul_str h0
  cases hz0
  obtain ⟨_, e1, h1⟩ := hx 1 _ _ rfl
  cases e1
  rw [cl_bool] at h1
  replace h1 : Rd enc W m 4 [c1] y1 := h1
  obtain ⟨z1, hz1, b1⟩ := rd_bool ul_bool h1
  cases hz1
  obtain ⟨_, e2, h2⟩ := hx 2 _ _ rfl
  cases e2
  rw [cl_ty] at h2
  replace h2 : Rd enc W m 71 [c2, c3] y2 := h2
  obtain ⟨z2, hz2, a2, b2⟩ := rd_ty h2
  cases hz2
  clear hx hx1
  have s0 : strOk z0 := strOk_of (by omega)
  have s2 : tyOk z2 := ⟨a2, strOk_of (by omega)⟩
  exact ⟨⟨z0, z1, z2⟩, ⟨rfl, s0, s2⟩, ⟨s0, s2⟩, by omega⟩
theorem rd_fds (h : Rd enc W n 22 cs x) (hb : Rows.uptoBulk x.1 ≤ 1048576) : ∃ v l, cs = [v] ∧ FdsAt W v l ∧ (l.length ≤ 1000000 ∧ ∀ a ∈ l, fdOk a) ∧ 2 * l.length + 1 ≤ Rows.uptoBulk x.1 := by
  obtain ⟨v, l, h1, h2, h3, h4⟩ := rd_list (El := FdEl) (Q := fun a => fdOk a) (μ := fun _ => 2) ul_fds cl_fd (by omega) (fun m cs' y hy hyb => rd_fd hy hyb) h hb
  exact ⟨v, l, h1, h2, ⟨sum_lt h4 hb, h3⟩, by rw [Bu.sum_two] at h4; exact h4⟩
theorem rd_fr (h : Rd enc W n 176 cs x) (hb : Rows.uptoBulk x.1 ≤ 1048576) : ∃ i : Fr, FrEl W cs i ∧ (intOk i.pos ∧ tysOk' i.locals ∧ tysOk' i.stack) ∧ 2 ≤ Rows.uptoBulk x.1 := by
  obtain ⟨xs, m, hx1, hl, hxl, hx⟩ := rd_struct fl_fr h
  rw [cl_fr] at hl
  obtain ⟨c0, c1, c2, rfl⟩ := len3 hl
  obtain ⟨y0, y1, y2, rfl⟩ := len3 hxl
  clear hl hxl h
  rw [hx1] at hb
  try rw [hx1]
  simp only [List.map_cons, List.map_nil, Rows.uptoBulk, Rows.uptoBulkAll] at hb
  try simp only [List.map_cons, List.map_nil, Rows.uptoBulk, Rows.uptoBulkAll]
  have o0 := Bu.one_le y0.1
  have o1 := Bu.one_le y1.1
  have o2 := Bu.one_le y2.1
  obtain ⟨_, e0, h0⟩ := hx 0 _ _ rfl
  cases e0
  rw [cl_int] at h0
  replace h0 : Rd enc W m 3 [c0] y0 := h0
  obtain ⟨z0, hz0, a0, b0⟩ := rd_int ul_int h0
  cases hz0
  obtain ⟨_, e1, h1⟩ := hx 1 _ _ rfl
  cases e1
  rw [cl_tys] at h1
  replace h1 : Rd enc W m 69 [c1] y1 := h1
  obtain ⟨v1, l1, hz1, t1, a1, b1⟩ := rd_tys h1 (by omega)
  cases hz1
  obtain ⟨_, e2, h2⟩ := hx 2 _ _ rfl
  cases e2
  rw [cl_tys] at h2
  replace h2 : Rd enc W m 69 [c2] y2 := h2
  obtain ⟨v2, l2, hz2, t2, a2, b2⟩ := rd_tys h2 (by omega)
  cases hz2
  clear hx hx1
  exact ⟨⟨z0, l1, l2⟩, ⟨_, _, rfl, t1, t2, a0⟩, ⟨a0, a1, a2⟩, by omega⟩
theorem rd_frs (h : Rd enc W n 132 cs x) (hb : Rows.uptoBulk x.1 ≤ 1048576) : ∃ v l, cs = [v] ∧ FrsAt W v l ∧ (l.length ≤ 1000000 ∧ ∀ a ∈ l, intOk a.pos ∧ tysOk' a.locals ∧ tysOk' a.stack) ∧ 2 * l.length + 1 ≤ Rows.uptoBulk x.1 := by
  obtain ⟨v, l, h1, h2, h3, h4⟩ := rd_list (El := FrEl) (Q := fun a => intOk a.pos ∧ tysOk' a.locals ∧ tysOk' a.stack) (μ := fun _ => 2) ul_frs cl_fr (by omega) (fun m cs' y hy hyb => rd_fr hy hyb) h hb
  exact ⟨v, l, h1, h2, ⟨sum_lt h4 hb, h3⟩, by rw [Bu.sum_two] at h4; exact h4⟩
theorem rd_me (h : Rd enc W n 134 cs x) (hb : Rows.uptoBulk x.1 ≤ 1048576) : ∃ i : Me, MeEl W cs i ∧ MeGood i ∧ (mT i).length + 1 ≤ Rows.uptoBulk x.1 := by
  obtain ⟨xs, m, hx1, hl, hxl, hx⟩ := rd_struct fl_me h
  rw [cl_me] at hl
  obtain ⟨c0, c1, c2, c3, c4, c5, c6, c7, c8, c9, rfl⟩ := len10 hl
  obtain ⟨y0, y1, y2, y3, y4, y5, y6, y7, y8, rfl⟩ := len9 hxl
  clear hl hxl h
  rw [hx1] at hb
  try rw [hx1]
  simp only [List.map_cons, List.map_nil, Rows.uptoBulk, Rows.uptoBulkAll] at hb
  try simp only [List.map_cons, List.map_nil, Rows.uptoBulk, Rows.uptoBulkAll]
  have o0 := Bu.one_le y0.1
  have o1 := Bu.one_le y1.1
  have o2 := Bu.one_le y2.1
  have o3 := Bu.one_le y3.1
  have o4 := Bu.one_le y4.1
  have o5 := Bu.one_le y5.1
  have o6 := Bu.one_le y6.1
  have o7 := Bu.one_le y7.1
  have o8 := Bu.one_le y8.1
  obtain ⟨_, e0, h0⟩ := hx 0 _ _ rfl
  cases e0
  rw [cl_str] at h0
  replace h0 : Rd enc W m 9 [c0] y0 := h0
  obtain ⟨z0, hz0, b0⟩ := rd_str ul_str h0
  cases hz0
  obtain ⟨_, e1, h1⟩ := hx 1 _ _ rfl
  cases e1
  rw [cl_bool] at h1
  replace h1 : Rd enc W m 4 [c1] y1 := h1
  obtain ⟨z1, hz1, b1⟩ := rd_bool ul_bool h1
  cases hz1
  obtain ⟨_, e2, h2⟩ := hx 2 _ _ rfl
  cases e2
  rw [cl_tys] at h2
  replace h2 : Rd enc W m 69 [c2] y2 := h2
  obtain ⟨v2, l2, hz2, t2, a2, b2⟩ := rd_tys h2 (by omega)
  cases hz2
  obtain ⟨_, e3, h3⟩ := hx 3 _ _ rfl
  cases e3
  rw [cl_ty] at h3
  replace h3 : Rd enc W m 71 [c3, c4] y3 := h3
  obtain ⟨z3, hz3, a3, b3⟩ := rd_ty h3
  cases hz3
  obtain ⟨_, e4, h4⟩ := hx 4 _ _ rfl
  cases e4
  rw [cl_int] at h4
  replace h4 : Rd enc W m 3 [c5] y4 := h4
  obtain ⟨z4, hz4, a4, b4⟩ := rd_int ul_int h4
  cases hz4
  obtain ⟨_, e5, h5⟩ := hx 5 _ _ rfl
  cases e5
  rw [cl_int] at h5
  replace h5 : Rd enc W m 3 [c6] y5 := h5
  obtain ⟨z5, hz5, a5, b5⟩ := rd_int ul_int h5
  cases hz5
  obtain ⟨_, e6, h6⟩ := hx 6 _ _ rfl
  cases e6
  rw [cl_inss] at h6
  replace h6 : Rd enc W m 76 [c7] y6 := h6
  obtain ⟨v6, l6, hz6, t6, a6, b6⟩ := rd_inss h6 (by omega)
  cases hz6
  obtain ⟨_, e7, h7⟩ := hx 7 _ _ rfl
  cases e7
  rw [cl_hds] at h7
  replace h7 : Rd enc W m 131 [c8] y7 := h7
  obtain ⟨v7, l7, hz7, t7, a7, b7⟩ := rd_hds h7 (by omega)
  cases hz7
  obtain ⟨_, e8, h8⟩ := hx 8 _ _ rfl
  cases e8
  rw [cl_frs] at h8
  replace h8 : Rd enc W m 132 [c9] y8 := h8
  obtain ⟨v8, l8, hz8, t8, a8, b8⟩ := rd_frs h8 (by omega)
  cases hz8
  clear hx hx1
  have s0 : strOk z0 := strOk_of (by omega)
  have s3 : tyOk z3 := ⟨a3, strOk_of (by omega)⟩
  have hok : strOk z0 ∧ tyOk z3 ∧ intOk z4 ∧ intOk z5 := ⟨s0, s3, a4, a5⟩
  refine ⟨⟨z0, z1, l2, z3, z4, z5, l6, l7, l8⟩, ⟨_, _, _, _, rfl, t2, t6, t7, t8, hok⟩, ⟨hok, a2, a6, a7, a8⟩, ?_⟩
  rw [mT_len]
  show 1 + l6.length + 2 * l8.length + 1 ≤ _
  omega
theorem rd_mes (h : Rd enc W n 23 cs x) (hb : Rows.uptoBulk x.1 ≤ 1048576) : ∃ v l, cs = [v] ∧ MesAt W v l ∧ (∀ a ∈ l, MeGood a) ∧ (l.map fun m => (mT m).length + 1).sum + 1 ≤ Rows.uptoBulk x.1 :=
  rd_list (El := MeEl) (Q := MeGood) (μ := fun m => (mT m).length + 1) ul_mes cl_me (by omega) (fun m cs' y hy hyb => rd_me hy hyb) h hb
theorem mT_sum : ∀ l : List Me, (l.flatMap mT).length ≤ (l.map fun m => (mT m).length + 1).sum
  | [] => Nat.le_refl _
  | m :: l => by have := mT_sum l; rw [List.flatMap_cons, List.length_append, List.map_cons, List.sum_cons]; omega
theorem mT_many : ∀ l : List Me, 2 * l.length ≤ (l.map fun m => (mT m).length + 1).sum
  | [] => by simp
  | m :: l => by have := mT_many l; rw [List.map_cons, List.sum_cons, List.length_cons, mT_len]; omega
theorem rd_cl (h : Rd enc W n 25 cs x) (hb : Rows.uptoBulk x.1 ≤ 1048576) : ∃ (c : Cl) (fv mv : Value), cs = clV c fv mv ∧ ClAt W c fv mv ∧ ClGood c := by
  obtain ⟨xs, m, hx1, hl, hxl, hx⟩ := rd_struct fl_cl h
  rw [cl_cl] at hl
  obtain ⟨c0, c1, c2, c3, rfl⟩ := len4 hl
  obtain ⟨y0, y1, y2, y3, rfl⟩ := len4 hxl
  clear hl hxl h
  rw [hx1] at hb
  try rw [hx1]
  simp only [List.map_cons, List.map_nil, Rows.uptoBulk, Rows.uptoBulkAll] at hb
  try simp only [List.map_cons, List.map_nil, Rows.uptoBulk, Rows.uptoBulkAll]
  have o0 := Bu.one_le y0.1
  have o1 := Bu.one_le y1.1
  have o2 := Bu.one_le y2.1
  have o3 := Bu.one_le y3.1
  obtain ⟨_, e0, h0⟩ := hx 0 _ _ rfl
  cases e0
  rw [cl_str] at h0
  replace h0 : Rd enc W m 9 [c0] y0 := h0
  obtain ⟨z0, hz0, b0⟩ := rd_str ul_str h0
  cases hz0
  obtain ⟨_, e1, h1⟩ := hx 1 _ _ rfl
  cases e1
  rw [cl_str] at h1
  replace h1 : Rd enc W m 9 [c1] y1 := h1
  obtain ⟨z1, hz1, b1⟩ := rd_str ul_str h1
  cases hz1
  obtain ⟨_, e2, h2⟩ := hx 2 _ _ rfl
  cases e2
  rw [cl_fds] at h2
  replace h2 : Rd enc W m 22 [c2] y2 := h2
  obtain ⟨v2, l2, hz2, t2, a2, b2⟩ := rd_fds h2 (by omega)
  cases hz2
  obtain ⟨_, e3, h3⟩ := hx 3 _ _ rfl
  cases e3
  rw [cl_mes] at h3
  replace h3 : Rd enc W m 23 [c3] y3 := h3
  obtain ⟨v3, l3, hz3, t3, a3, b3⟩ := rd_mes h3 (by omega)
  cases hz3
  clear hx hx1
  have s0 : strOk z0 := strOk_of (by omega)
  have s1 : strOk z1 := strOk_of (by omega)
  have hn : (l3.flatMap mT).length ≤ 1048576 := by have := mT_sum l3; omega
  have hm : l3.length ≤ 1000000 := by have := mT_many l3; omega
  exact ⟨⟨z0, z1, l2, l3⟩, _, _, rfl, ⟨t2, t3, s0, s1⟩, ⟨s0, s1⟩, a2, ⟨hm, a3⟩, hn⟩
end
end Go.Proofs.YtpofmnfkdkmieaaGreat
