/- What is proved here: the program's writer (package wire) writes the bytes that the plain functions name: numbers, names, types, instructions. -/
import Derived.Test.YtpofmnfkdkmieaaGreatQ06
import Derived.Test.YtpofmnfkdkmieaaGreatQ08
import Derived.Test.YtpofmnfkdkmieaaGreatQ03
import Derived.Test.YtpofmnfkdkmieaaGreatQ04
import Derived.Laws.MakeOwn
import Derived.Lib.UnsafeStr
import Derived.Lib.BufferWrite
set_option linter.unusedVariables false
set_option linter.unusedSimpArgs false
namespace Go.Proofs.YtpofmnfkdkmieaaGreat
open Go.RowKit At E

def dl (s : ByteArray) : List UInt8 := s.data.toList
theorem dl_append (a b : ByteArray) : dl (a ++ b) = dl a ++ dl b := by unfold dl; rw [ByteArray.data_append, Array.toList_append]
theorem dl_length (a : ByteArray) : (dl a).length = a.size := Array.length_toList
theorem owns_slice {w : World} {e size n : Nat} {v : Value} {xs : List Value} (h : w.ownsRow 0 e size v n xs) : ∃ p l c, v = .slice p l c := by
  rcases h.2 with ⟨rfl, _⟩ | ⟨g, cap, cur, rfl, _⟩
  · exact ⟨_, _, _, rfl⟩
  · exact ⟨_, _, _, rfl⟩
section
variable {w0 : World} {F : List Nat} {H : Hp} {R : Asr}
theorem row_oldU {u : World} {b o : Nat} {vs : List Value} (hu : Below u.heap.size u w0) (hF : ∀ x ∈ F, u.heap.size ≤ x) (hb : b < u.heap.size) (h : ∀ j v, vs[j]? = some v → u.cell? ⟨b, o + j, none⟩ = some v) : Row w0 F H R b o vs :=
  row_oldF (fun j v hj => by rw [hu.cell (p := ⟨b, o + j, none⟩) hb]; exact h j v hj) (fun hx => by have := hF b hx; omega)
end
theorem u8_low (u : Nat) : IntKind.u8.wrap (u : Int) = ((UInt8.ofNat (u % 256)).toNat : Int) := by
  rw [UInt8.toNat_ofNat', IntKind.wrap_u8]; omega
theorem shr8 (u : Nat) : ((u : Nat) : Int).fdiv (2 ^ min (8 : Int).toNat IntKind.u64.bits) = ((u / 256 : Nat) : Int) := by
  have e : ((2 : Int) ^ min (8 : Int).toNat IntKind.u64.bits) = 256 := by decide
  rw [e, Int.fdiv_eq_ediv_of_nonneg _ (by decide)]; omega

theorem wrText_any (U : World) (b : Nat) (s : ByteArray) : WrP Tryz.prog 120 #[.pointer (some ⟨b, 0, none⟩), .string s] U b (dl s) := by
  intro w v bs h0 hl
  rw [dl_length] at hl
  refine opensF (h0.sat) (args := [.pointer (some ⟨b, 0, none⟩), .string s]) Tryz.func120 rfl Tryz.ntmps120 ?_
  refine WC_region ?_
  refine WL_op rfl (Ex_move rfl) ?_
  refine WL_op rfl (Ex_move rfl) ?_
  refine WL_op rfl (Ex_nil rfl) ?_
  refine WL_op rfl (Ex_field (ff rfl) rfl) ?_
  refine WL_op rfl (Ex_load (t1 rfl) rfl (cell_mine 0 rfl rfl)) ?_
  refine WL_op rfl (Ex_move rfl) ?_
  refine WL_appS rfl (ta rfl) (tstr rfl) rfl rfl (by omega) (by omega) ?_
  intro v1
  refine WL_op rfl (Ex_nil rfl) ?_
  refine WL_op rfl (Ex_field (ff rfl) rfl) ?_
  refine WL_know (p := ∃ p l c, v1 = .slice p l c) (fun w hs => owns_slice hs.res.1) ?_
  rintro ⟨p1, l1, c1, rfl⟩
  refine WL_store (t1 rfl) rfl rfl 0 rfl rfl rfl rfl ?_
  refine WL_nil ?_
  refine wr_end h0 rfl (i := 0) rfl ?_
  rfl
theorem wrNumber_any (U : World) (b u k : Nat) (hk : k ≤ 8) : WrP Tryz.prog 191 #[.pointer (some ⟨b, 0, none⟩), .int .u64 (u : Nat), .int .i64 (k : Nat)] U b (lowL u k) := by
  intro w v bs h0 hl
  rw [lowL_length] at hl
  refine opensF (h0.sat) (args := [.pointer (some ⟨b, 0, none⟩), .int .u64 (u : Nat), .int .i64 (k : Nat)]) Tryz.func191 rfl Tryz.ntmps191 ?_
  refine WC_seq ?_
  refine WC_region ?_
  refine WL_op rfl (Ex_move rfl) ?_
  refine WL_op rfl (Ex_move rfl) ?_
  refine WL_nil ?_
  refine WQ_next ?_
  refine WC_block ?_
  refine WC_res (show wrA v bs = wrA v (bs ++ lowL u 0) by rw [lowL, List.append_nil]) ?_
  refine WC_same (s := 1) (v' := .int .u64 ((u / 256 ^ 0 : Nat) : Int)) rfl (by rw [Nat.pow_zero, Nat.div_one]) ?_
  refine WC_sub (E' := (fun x : Nat × Value => [(0, .pointer (some ⟨b, 0, none⟩)), (1, .int .u64 ((u / 256 ^ x.1 : Nat) : Int)), (6, .int .i64 (k : Nat)), (7, .int .i64 (x.1 : Nat))]) ((0, v))) ⟨rfl, rfl, rfl, rfl, trivial⟩ (WC_loop (X := Nat × Value) (fun x : Nat × Value => [(0, .pointer (some ⟨b, 0, none⟩)), (1, .int .u64 ((u / 256 ^ x.1 : Nat) : Int)), (6, .int .i64 (k : Nat)), (7, .int .i64 (x.1 : Nat))]) _ _ (fun x : Nat × Value => [(b, [x.2])]) (fun x : Nat × Value => wrA x.2 (bs ++ lowL u x.1)) (fun x : Nat × Value => x.1 ≤ k) (fun x : Nat × Value => k - x.1) ((0, v)) (Nat.zero_le _) ?_)
  intro x hI
  refine WC_seq ?_
  refine WC_region ?_
  refine WL_op rfl (Ex_lss rfl rfl) ?_
  refine WL_nil ?_
  refine WQ_next ?_
  refine WC_seq ?_
  refine WC_if rfl ?_ ?_  -- cond 1 write.go:43
  · intro c1
    try (first | replace c1 := of_decide_eq_true c1 | replace c1 := of_nd_true c1)
    have hx : x.1 < k := by omega
    refine WC_skip ?_
    refine WQ_next ?_
    refine WC_seq ?_
    refine WC_block ?_
    refine WC_seq ?_
    refine WC_region ?_
    refine WL_op rfl (Ex_move rfl) ?_
    refine WL_op rfl (Ex_move rfl) ?_
    refine WL_op rfl (Ex_nil rfl) ?_
    refine WL_op rfl (Ex_field (ff rfl) rfl) ?_
    refine WL_op rfl (Ex_load (t1 rfl) rfl (cell_mine 0 rfl rfl)) ?_
    refine WL_op rfl (Ex_move rfl) ?_
    refine WL_op rfl (Ex_conv (tint rfl) (tint rfl) rfl) ?_
    refine WL_same (s := 15) (v' := byteV (UInt8.ofNat (u / 256 ^ x.1 % 256))) rfl (congrArg (Value.int .u8) (u8_low _)) ?_
    refine WL_bs rfl (ts rfl) (tz rfl) rfl rfl rfl rfl rfl ?_
    intro b1 hb1
    refine WL_appB rfl (ta rfl) rfl rfl 0 rfl (by rw [List.length_append, lowL_length]; omega) (by rw [List.length_append, lowL_length]; omega) ?_
    intro v1
    refine WL_op rfl (Ex_nil rfl) ?_
    refine WL_op rfl (Ex_field (ff rfl) rfl) ?_
    refine WL_know (p := ∃ p l c, v1 = .slice p l c) (fun w hs => owns_slice hs.res.1) ?_
    rintro ⟨p1, l1, c1, rfl⟩
    refine WL_store (t1 rfl) rfl rfl 1 rfl rfl rfl rfl ?_
    refine WL_nil ?_
    refine WQ_next ?_
    refine WC_region ?_
    refine WL_op rfl (Ex_move rfl) ?_
    refine WL_op rfl (Ex_shr rfl rfl rfl) ?_
    refine WL_op rfl (Ex_assign rfl) ?_
    refine WL_nil ?_
    refine WQ_bnext ?_
    refine WQ_next ?_
    refine WC_region ?_
    (first | (refine WL_op rfl (Ex_inc rfl rfl ?_) ?_; omega) | (refine WL_op rfl (Ex_addB rfl rfl ?_) ?_; omega) | refine WL_op rfl (Ex_add rfl rfl) ?_)
    refine WL_op rfl (Ex_move rfl) ?_
    refine WL_nil ?_
    refine WQ_same (s := 1) (v' := .int .u64 ((u / 256 ^ (x.1 + 1) : Nat) : Int)) rfl (congrArg (Value.int .u64) (by rw [shr8, Nat.div_div_eq_div_mul, Nat.pow_succ])) ?_
    refine WQ_again ((x.1 + 1, .slice p1 l1 c1)) ?_ (hx) 1 rfl (by show wrA _ _ = wrA _ _; rw [lowL_succ, ← List.append_assoc]) ⟨rfl, rfl, rfl, rfl, trivial⟩
    omega
  · intro c1
    try (first | replace c1 := of_decide_eq_false c1 | replace c1 := of_nd_false c1)
    refine WC_exit ?_
    refine WQ_exit ?_
    refine WQ_lexit ?_
    refine WQ_here ?_
    refine wr_end h0 rfl (i := 0) rfl ?_
    rw [show x.1 = k by omega]
theorem wrByte_any (U : World) (b : Nat) (x : Int) : WrP Tryz.prog 122 #[.pointer (some ⟨b, 0, none⟩), .int .i64 x] U b (dl (lowS x 1)) := by
  intro w v bs h0 hl
  refine opensF (h0.sat) (args := [.pointer (some ⟨b, 0, none⟩), .int .i64 x]) Tryz.func122 rfl Tryz.ntmps122 ?_
  refine WC_region ?_
  refine WL_op rfl (Ex_move rfl) ?_
  refine WL_op rfl (Ex_move rfl) ?_
  refine WL_op rfl (Ex_conv (tint rfl) (tint rfl) rfl) ?_
  refine WL_same (s := 6) (v' := .int .u64 (u64 x : Nat)) rfl (congrArg (Value.int .u64) (u64_of x)) ?_
  refine WL_callW fn191 rfl rfl 0 rfl h0.base h0.F (wrNumber_any U b (u64 x) 1 (by omega)) (by exact hl) ?_
  intro v1
  refine WL_nil ?_
  refine wr_end h0 rfl (i := 0) rfl ?_
  rfl
theorem wrTwo_any (U : World) (b : Nat) (x : Int) : WrP Tryz.prog 193 #[.pointer (some ⟨b, 0, none⟩), .int .i64 x] U b (dl (lowS x 2)) := by
  intro w v bs h0 hl
  refine opensF (h0.sat) (args := [.pointer (some ⟨b, 0, none⟩), .int .i64 x]) Tryz.func193 rfl Tryz.ntmps193 ?_
  refine WC_region ?_
  refine WL_op rfl (Ex_move rfl) ?_
  refine WL_op rfl (Ex_move rfl) ?_
  refine WL_op rfl (Ex_conv (tint rfl) (tint rfl) rfl) ?_
  refine WL_same (s := 6) (v' := .int .u64 (u64 x : Nat)) rfl (congrArg (Value.int .u64) (u64_of x)) ?_
  refine WL_callW fn191 rfl rfl 0 rfl h0.base h0.F (wrNumber_any U b (u64 x) 2 (by omega)) (by exact hl) ?_
  intro v1
  refine WL_nil ?_
  refine wr_end h0 rfl (i := 0) rfl ?_
  rfl
theorem wrEight_any (U : World) (b : Nat) (x : Int) : WrP Tryz.prog 286 #[.pointer (some ⟨b, 0, none⟩), .int .i64 x] U b (dl (lowS x 8)) := by
  intro w v bs h0 hl
  refine opensF (h0.sat) (args := [.pointer (some ⟨b, 0, none⟩), .int .i64 x]) Tryz.func286 rfl Tryz.ntmps286 ?_
  refine WC_region ?_
  refine WL_op rfl (Ex_move rfl) ?_
  refine WL_op rfl (Ex_move rfl) ?_
  refine WL_op rfl (Ex_conv (tint rfl) (tint rfl) rfl) ?_
  refine WL_same (s := 6) (v' := .int .u64 (u64 x : Nat)) rfl (congrArg (Value.int .u64) (u64_of x)) ?_
  refine WL_callW fn191 rfl rfl 0 rfl h0.base h0.F (wrNumber_any U b (u64 x) 8 (by omega)) (by exact hl) ?_
  intro v1
  refine WL_nil ?_
  refine wr_end h0 rfl (i := 0) rfl ?_
  rfl
theorem wrFlag_any (U : World) (b : Nat) (x : Bool) : WrP Tryz.prog 123 #[.pointer (some ⟨b, 0, none⟩), .bool x] U b (dl (flagS x)) := by
  intro w v bs h0 hl
  rw [dl_length, flagS_size] at hl
  refine opensF (h0.sat) (args := [.pointer (some ⟨b, 0, none⟩), .bool x]) Tryz.func123 rfl Tryz.ntmps123 ?_
  refine WC_seq ?_
  refine WC_seq ?_
  refine WC_region ?_
  refine WL_op rfl (Ex_move rfl) ?_
  refine WL_nil ?_
  refine WQ_next ?_
  refine WC_if rfl ?_ ?_  -- cond 1 write.go:62
  · intro c1
    try (first | replace c1 := of_decide_eq_true c1 | replace c1 := of_nd_true c1)
    refine WC_seq ?_
    refine WC_region ?_
    refine WL_op rfl (Ex_move rfl) ?_
    refine WL_callW fn122 rfl rfl 0 rfl h0.base h0.F (wrByte_any U b 1) (by rw [dl_length, lowS_size]; exact hl) ?_
    intro v1
    refine WL_nil ?_
    refine WQ_next ?_
    refine WC_ret ?_
    refine WQ_ret ?_
    refine wr_endr h0 rfl (i := 0) rfl ?_
    unfold flagS; rw [c1]; rfl
  · intro c1
    try (first | replace c1 := of_decide_eq_false c1 | replace c1 := of_nd_false c1)
    refine WC_skip ?_
    refine WQ_next ?_
    refine WC_region ?_
    refine WL_op rfl (Ex_move rfl) ?_
    refine WL_callW fn122 rfl rfl 0 rfl h0.base h0.F (wrByte_any U b 0) (by rw [dl_length, lowS_size]; exact hl) ?_
    intro v2
    refine WL_nil ?_
    refine wr_end h0 rfl (i := 0) rfl ?_
    unfold flagS; rw [c1]; rfl
theorem wrName_any (U : World) (b : Nat) (s : ByteArray) : WrP Tryz.prog 121 #[.pointer (some ⟨b, 0, none⟩), .string s] U b (dl (nameS s)) := by
  intro w v bs h0 hl
  rw [dl_length, nameS_size] at hl
  refine opensF (h0.sat) (args := [.pointer (some ⟨b, 0, none⟩), .string s]) Tryz.func121 rfl Tryz.ntmps121 ?_
  refine WC_seq ?_
  refine WC_region ?_
  refine WL_op rfl (Ex_move rfl) ?_
  refine WL_op rfl (Ex_move rfl) ?_
  refine WL_op rfl (Ex_lenS (tstr rfl) rfl) ?_
  refine WL_callW fn122 rfl rfl 0 rfl h0.base h0.F (wrByte_any U b (s.size : Nat)) (by rw [dl_length, lowS_size]; omega) ?_
  intro v1
  refine WL_nil ?_
  refine WQ_next ?_
  refine WC_region ?_
  refine WL_op rfl (Ex_move rfl) ?_
  refine WL_op rfl (Ex_move rfl) ?_
  refine WL_callW fn120 rfl rfl 0 rfl h0.base h0.F (wrText_any U b s) (by rw [List.length_append, dl_length, dl_length, lowS_size]; omega) ?_
  intro v2
  refine WL_nil ?_
  refine wr_end h0 rfl (i := 0) rfl ?_
  unfold nameS; rw [dl_append, List.append_assoc]
theorem wrTyp_any (U : World) (b : Nat) (t : Ty) : WrP Tryz.prog 124 #[.pointer (some ⟨b, 0, none⟩), .agg (tyV t).toArray] U b (dl (oneTypeS t)) := by
  intro w v bs h0 hl
  rw [dl_length] at hl
  have h3 : t.kind = 3 → oneTypeS t = lowS t.kind 1 ++ nameS t.cls := fun h => by unfold oneTypeS; rw [if_pos h, h]
  have h4 : ¬ t.kind = 3 → oneTypeS t = lowS t.kind 1 := fun h => by unfold oneTypeS; rw [if_neg h]
  have h5 : bs.length + 1 ≤ 4000000 := by
    by_cases h : t.kind = 3
    · rw [h3 h, ByteArray.size_append, lowS_size] at hl; omega
    · rw [h4 h, lowS_size] at hl; omega
  refine opensF (h0.sat) (args := [.pointer (some ⟨b, 0, none⟩), .agg (tyV t).toArray]) Tryz.func124 rfl Tryz.ntmps124 ?_
  refine WC_seq ?_
  refine WC_region ?_
  refine WL_box rfl rfl ?_
  intro b1 hb1
  refine WL_nil ?_
  refine WQ_next ?_
  refine WC_seq ?_
  refine WC_region ?_
  refine WL_op rfl (Ex_move rfl) ?_
  refine WL_op rfl (Ex_field (ff rfl) rfl) ?_
  refine WL_op rfl (Ex_load (t1 rfl) rfl (cell_mine 0 rfl rfl)) ?_
  refine WL_callW fn122 rfl rfl 1 rfl h0.base h0.F (wrByte_any U b t.kind) (by rw [dl_length, lowS_size]; exact h5) ?_
  intro v1
  refine WL_nil ?_
  refine WQ_next ?_
  refine WC_seq ?_
  refine WC_region ?_
  refine WL_op rfl (Ex_field (ff rfl) rfl) ?_
  refine WL_op rfl (Ex_load (t1 rfl) rfl (cell_mine 0 rfl rfl)) ?_
  refine WL_op rfl (Ex_eql rfl rfl) ?_
  refine WL_nil ?_
  refine WQ_next ?_
  refine WC_if rfl ?_ ?_  -- cond 1 write.go:76
  · intro c1
    try (first | replace c1 := of_decide_eq_true c1 | replace c1 := of_nd_true c1)
    refine WC_region ?_
    refine WL_op rfl (Ex_move rfl) ?_
    refine WL_op rfl (Ex_field (ff rfl) rfl) ?_
    refine WL_op rfl (Ex_load (t1 rfl) rfl (cell_mine 0 rfl rfl)) ?_
    refine WL_callW fn121 rfl rfl 1 rfl h0.base h0.F (wrName_any U b t.cls) (by rw [h3 c1, ByteArray.size_append, lowS_size] at hl; rw [List.length_append, dl_length, dl_length, lowS_size]; omega) ?_
    intro v2
    refine WL_nil ?_
    refine wr_end h0 rfl (i := 1) rfl ?_
    first | rw [h3 c1, dl_append, List.append_assoc] | rw [h4 c1]
  · intro c1
    try (first | replace c1 := of_decide_eq_false c1 | replace c1 := of_nd_false c1)
    refine WC_skip ?_
    refine wr_end h0 rfl (i := 1) rfl ?_
    first | rw [h3 c1, dl_append, List.append_assoc] | rw [h4 c1]
end Go.Proofs.YtpofmnfkdkmieaaGreat
namespace Go.Proofs.YtpofmnfkdkmieaaGreat.At

abbrev Ps (α : Type) := List UInt8 → Option (α × List UInt8)
def pRet {α : Type} (x : α) : Ps α := fun s => some (x, s)
def pNo {α : Type} : Ps α := fun _ => none
def pThen {α β : Type} (p : Ps α) (f : α → Ps β) : Ps β := fun s => match p s with | none => none | some (x, r) => f x r
def leN : List UInt8 → Nat
  | [] => 0
  | b :: r => b.toNat + 256 * leN r
def toI (n : Nat) : Int := if n < 9223372036854775808 then (n : Int) else (n : Int) - 18446744073709551616
def pTake (n : Nat) : Ps (List UInt8) := fun s => if n ≤ s.length then some (s.take n, s.drop n) else none
def pNum (k : Nat) : Ps Nat := pThen (pTake k) fun l => pRet (leN l)
def pInt (k : Nat) : Ps Int := pThen (pNum k) fun n => pRet (toI n)
def pName : Ps ByteArray := pThen (pNum 1) fun n => pThen (pTake n) fun l => pRet ⟨l.toArray⟩
def pFlag : Ps Bool := pThen (pNum 1) fun n => if 1 < n then pNo else pRet (decide (n = 1))
def pTy (chk : Bool) : Ps Ty := pThen (pInt 1) fun k => if (chk && decide (5 < k)) = true then pNo else if k = 3 then pThen pName fun c => pRet ⟨k, c⟩ else pRet ⟨k, mt⟩
def pMany {α : Type} (p : Ps α) : Nat → Ps (List α)
  | 0 => pRet []
  | n + 1 => pThen p fun x => pThen (pMany p n) fun l => pRet (x :: l)
def pList {α : Type} (lim : Bool) (k most : Nat) (p : Ps α) : Ps (List α) := pThen (pNum k) fun n => if (lim && decide (most < n)) = true then pNo else pMany p n
def rf0 : Rf := ⟨mt, mt, [], ⟨0, mt⟩⟩
def insP (chk lim : Bool) (op : Int) : Ps Ins :=
  if sortB op = 1 then pThen (pInt 8) fun n => pRet ⟨op, n, rf0⟩
  else if sortB op = 2 then pThen (pInt 1) fun n => pRet ⟨op, n, rf0⟩
  else if sortB op = 3 then pThen (pInt 2) fun n => pRet ⟨op, n, rf0⟩
  else if sortB op = 4 then pThen pName fun c => pRet ⟨op, 0, ⟨c, mt, [], ⟨0, mt⟩⟩⟩
  else if sortB op = 5 then pThen pName fun c => pThen pName fun n => pThen (pTy chk) fun t => pRet ⟨op, 0, ⟨c, n, [], t⟩⟩
  else if sortB op = 6 then pThen pName fun c => pThen pName fun n => pThen (pList lim 1 6 (pTy chk)) fun ps => pThen (pTy chk) fun t => pRet ⟨op, 0, ⟨c, n, ps, t⟩⟩
  else if (chk && decide (sortB op = -1)) = true then pNo else pRet ⟨op, 0, rf0⟩
def pIns (chk lim : Bool) : Ps Ins := pThen (pInt 1) (insP chk lim)
theorem insP1 {chk lim : Bool} {op : Int} (h : sortB op = 1) : insP chk lim op = pThen (pInt 8) fun n => pRet ⟨op, n, rf0⟩ := by unfold insP; rw [if_pos h]
theorem insP2 {chk lim : Bool} {op : Int} (h : sortB op = 2) : insP chk lim op = pThen (pInt 1) fun n => pRet ⟨op, n, rf0⟩ := by unfold insP; rw [if_neg (by omega), if_pos h]
theorem insP3 {chk lim : Bool} {op : Int} (h : sortB op = 3) : insP chk lim op = pThen (pInt 2) fun n => pRet ⟨op, n, rf0⟩ := by unfold insP; rw [if_neg (by omega), if_neg (by omega), if_pos h]
theorem insP4 {chk lim : Bool} {op : Int} (h : sortB op = 4) : insP chk lim op = pThen pName fun c => pRet ⟨op, 0, ⟨c, mt, [], ⟨0, mt⟩⟩⟩ := by unfold insP; rw [if_neg (by omega), if_neg (by omega), if_neg (by omega), if_pos h]
theorem insP5 {chk lim : Bool} {op : Int} (h : sortB op = 5) : insP chk lim op = pThen pName fun c => pThen pName fun n => pThen (pTy chk) fun t => pRet ⟨op, 0, ⟨c, n, [], t⟩⟩ := by
  unfold insP; rw [if_neg (by omega), if_neg (by omega), if_neg (by omega), if_neg (by omega), if_pos h]
theorem insP6 {chk lim : Bool} {op : Int} (h : sortB op = 6) : insP chk lim op = pThen pName fun c => pThen pName fun n => pThen (pList lim 1 6 (pTy chk)) fun ps => pThen (pTy chk) fun t => pRet ⟨op, 0, ⟨c, n, ps, t⟩⟩ := by
  unfold insP; rw [if_neg (by omega), if_neg (by omega), if_neg (by omega), if_neg (by omega), if_neg (by omega), if_pos h]
theorem insP0 {chk lim : Bool} {op : Int} (h1 : ¬ sortB op = 1) (h2 : ¬ sortB op = 2) (h3 : ¬ sortB op = 3) (h4 : ¬ sortB op = 4) (h5 : ¬ sortB op = 5) (h6 : ¬ sortB op = 6) (h7 : chk = true → ¬ sortB op = -1) : insP chk lim op = pRet ⟨op, 0, rf0⟩ := by
  unfold insP; rw [if_neg h1, if_neg h2, if_neg h3, if_neg h4, if_neg h5, if_neg h6, if_neg (by intro h; rw [Bool.and_eq_true] at h; exact h7 h.1 (of_decide_eq_true h.2))]
def pHd : Ps Hd := pThen (pInt 2) fun a => pThen (pInt 2) fun b => pThen (pInt 2) fun c => pThen pName fun n => pRet ⟨a, b, c, n⟩
def pFr (chk lim : Bool) : Ps Fr := pThen (pInt 2) fun a => pThen (pList lim 1 20 (pTy chk)) fun l => pThen (pList lim 1 20 (pTy chk)) fun s => pRet ⟨a, l, s⟩
def pFd (chk : Bool) : Ps Fld := pThen pName fun n => pThen pFlag fun b => pThen (pTy chk) fun t => pRet ⟨n, b, t⟩
def pMe (chk lim : Bool) : Ps Me := pThen pName fun nm => pThen pFlag fun st => pThen (pList lim 1 6 (pTy chk)) fun ps => pThen (pTy chk) fun r => pThen (pInt 1) fun lo => pThen (pInt 1) fun sk =>
  pThen (pList lim 2 200 (pIns chk lim)) fun cd => pThen (pList lim 1 10 pHd) fun hs => pThen (pList lim 1 60 (pFr chk lim)) fun fs => pRet ⟨nm, st, ps, r, lo, sk, cd, hs, fs⟩
def pCl (chk lim : Bool) : Ps Cl := pThen pName fun n => pThen pName fun s => pThen (pList lim 1 20 (pFd chk)) fun fs => pThen (pList lim 1 20 (pMe chk lim)) fun ms => pRet ⟨n, s, fs, ms⟩
def clas : List UInt8 := [67, 76, 65, 83]
def decL (chk lim : Bool) (s : List UInt8) : Option Cl := if s.take 4 = clas then (match pCl chk lim (s.drop 4) with | some (c, r) => if r = [] then some c else none | none => none) else none
def okOnly : Option Cl → Option Cl
  | some c => if isClassB c = true then some c else none
  | none => none

theorem pThen_some {α β : Type} {p : Ps α} {f : α → Ps β} {s r : List UInt8} {y : β} : pThen p f s = some (y, r) ↔ ∃ x s', p s = some (x, s') ∧ f x s' = some (y, r) := by
  unfold pThen
  cases h : p s with
  | none => simp
  | some q =>
    obtain ⟨x, s'⟩ := q
    refine ⟨fun h => ⟨x, s', rfl, h⟩, ?_⟩
    rintro ⟨x1, s1, h1, h2⟩
    cases h1
    exact h2
end Go.Proofs.YtpofmnfkdkmieaaGreat.At
namespace Go.Proofs.YtpofmnfkdkmieaaGreat
open Go Go.RowKit At E

theorem flat_get {β : Type} (cell : β → List Value) (k : Nat) : ∀ (l : List β) (_ : ∀ x ∈ l, (cell x).length = k) (i j : Nat) (x : β) (u : Value), l[i]? = some x → (cell x)[j]? = some u → (l.flatMap cell)[i * k + j]? = some u
  | [], _, i, _, x, _, hi, _ => by simp at hi
  | y :: l, hl, 0, j, x, u, hi, hj => by
    simp at hi
    subst hi
    rw [List.flatMap_cons, Nat.zero_mul, Nat.zero_add]
    have : j < (cell y).length := by
      rcases Nat.lt_or_ge j (cell y).length with h | h
      · exact h
      · rw [List.getElem?_eq_none h] at hj; cases hj
    rw [List.getElem?_append_left this]; exact hj
  | y :: l, hl, i + 1, j, x, u, hi, hj => by
    have hy := hl y List.mem_cons_self
    rw [List.flatMap_cons, List.getElem?_append_right (by rw [hy, Nat.add_mul]; omega), hy]
    have e : (i + 1) * k + j - k = i * k + j := by rw [Nat.add_mul]; omega
    rw [e]
    exact flat_get cell k l (fun z hz => hl z (List.mem_cons_of_mem _ hz)) i j x u (by simpa using hi) hj
theorem ListAt.of_own {α β : Type} {k e : Nat} {El : World → List Value → α → Prop} {w : World} {v : Value} (f : β → α) (cell : β → List Value) (ls : List β) (h : w.ownsRow 0 e k v ls.length (ls.flatMap cell)) (hk : ∀ x ∈ ls, (cell x).length = k) (hl : ls.length ≤ 1048576)
    (hEl : ∀ x ∈ ls, El w (cell x) (f x)) : ListAt k El w v (ls.map f) := by
  rcases h.2 with ⟨rfl, h0⟩ | ⟨g, cap, cur, hv, _, hg, hnc, _⟩
  · have : ls = [] := List.eq_nil_of_length_eq_zero h0
    subst this
    exact ⟨none, 0, rfl, ⟨by simp, by simp⟩, fun i x hi => by simp at hi⟩
  · refine ⟨some ⟨g, 0, none⟩, cap, by rw [List.length_map]; exact hv, ⟨by rw [List.length_map]; exact hl, by rw [List.length_map]; exact hnc⟩, fun i x hi => ?_⟩
    rw [List.getElem?_map] at hi
    cases hy : ls[i]? with
    | none => rw [hy] at hi; cases hi
    | some y =>
      rw [hy] at hi
      cases hi
      have hm := List.mem_of_getElem? hy
      refine ⟨g, 0, cell y, rfl, (h.lt g (by rw [hv]; rfl)).2, hEl y hm, fun j u hj => ?_⟩
      have := h.cells (g := g) (by rw [hv]; rfl) (i * k + j) u (flat_get cell k ls hk i j y u hy hj)
      rw [Addr.add_lit] at this
      rw [Nat.zero_add]; rw [Nat.zero_add] at this; exact this

def tysOk (l : List Ty) : Prop := l.length ≤ 1048576 ∧ ∀ t ∈ l, tyOk t
def tysA (v : Value) (l : List Ty) : Asr := ownA 71 2 v l.length (l.flatMap tyV)
theorem tysA_at {w : World} {v : Value} {l : List Ty} (h : (tysA v l).A w) (ho : tysOk l) : TysAt w v l := by
  have := ListAt.of_own (El := TyEl) id tyV l h (fun _ _ => rfl) ho.1 (fun t ht => ⟨rfl, ho.2 t ht⟩)
  rw [List.map_id] at this; exact this

def insC (p : Ins × Value) : List Value := insV p.1 p.2
def inssA (v : Value) (ls : List (Ins × Value)) : Asr := (ownA 75 7 v ls.length (ls.flatMap insC)).and (bigA (ls.map fun p => tysA p.2 p.1.ref.params))
def inssOk (ls : List (Ins × Value)) : Prop := ls.length ≤ 1048576 ∧ ∀ p ∈ ls, insOk p.1 ∧ tysOk p.1.ref.params
theorem bigA_mem {β : Type} {g : β → Asr} {ls : List β} {w : World} (h : (bigA (ls.map g)).A w) : ∀ p ∈ ls, (g p).A w := by
  intro p hp
  obtain ⟨k, hk⟩ := List.mem_iff_getElem?.1 hp
  exact (bigA_take (ls.map g) k (g p) (by rw [List.getElem?_map, hk]; rfl)).a w h
theorem inssA_at {w : World} {v : Value} {ls : List (Ins × Value)} (h : (inssA v ls).A w) (ho : inssOk ls) : InssAt w v (ls.map (·.1)) :=
  ListAt.of_own (El := InsEl) (·.1) insC ls h.1 (fun _ _ => rfl) ho.1 (fun p hp => ⟨p.2, rfl, tysA_at (bigA_mem h.2.1 p hp) (ho.2 p hp).2, (ho.2 p hp).1⟩)

def hdsA (v : Value) (l : List Hd) : Asr := ownA 169 4 v l.length (l.flatMap hdV)
def hdsOk (l : List Hd) : Prop := l.length ≤ 1048576 ∧ ∀ h ∈ l, hdOk h
theorem hdsA_at {w : World} {v : Value} {l : List Hd} (h : (hdsA v l).A w) (ho : hdsOk l) : HdsAt w v l := by
  have := ListAt.of_own (El := HdEl) id hdV l h (fun _ _ => rfl) ho.1 (fun t ht => ⟨rfl, ho.2 t ht⟩)
  rw [List.map_id] at this; exact this
def fdsA (v : Value) (l : List Fld) : Asr := ownA 128 4 v l.length (l.flatMap fdV)
def fdsOk (l : List Fld) : Prop := l.length ≤ 1048576 ∧ ∀ h ∈ l, fdOk h
theorem fdsA_at {w : World} {v : Value} {l : List Fld} (h : (fdsA v l).A w) (ho : fdsOk l) : FdsAt w v l := by
  have := ListAt.of_own (El := FdEl) id fdV l h (fun _ _ => rfl) ho.1 (fun t ht => ⟨rfl, ho.2 t ht⟩)
  rw [List.map_id] at this; exact this

def frC (p : Fr × Value × Value) : List Value := frV p.1 p.2.1 p.2.2
def frA (p : Fr × Value × Value) : Asr := (tysA p.2.1 p.1.locals).and (tysA p.2.2 p.1.stack)
def frsA (v : Value) (ls : List (Fr × Value × Value)) : Asr := (ownA 176 3 v ls.length (ls.flatMap frC)).and (bigA (ls.map frA))
def frOk (f : Fr) : Prop := intOk f.pos ∧ tysOk f.locals ∧ tysOk f.stack
def frsOk (ls : List (Fr × Value × Value)) : Prop := ls.length ≤ 1048576 ∧ ∀ p ∈ ls, frOk p.1
theorem frsA_at {w : World} {v : Value} {ls : List (Fr × Value × Value)} (h : (frsA v ls).A w) (ho : frsOk ls) : FrsAt w v (ls.map (·.1)) :=
  ListAt.of_own (El := FrEl) (·.1) frC ls h.1 (fun _ _ => rfl) ho.1 (fun p hp => by
    have hb := bigA_mem h.2.1 p hp
    have hk := ho.2 p hp
    exact ⟨p.2.1, p.2.2, rfl, tysA_at hb.1 hk.2.1, tysA_at hb.2.1 hk.2.2, hk.1⟩)

structure MeM where
  pv : Value
  cv : Value
  hv : Value
  fv : Value
  cs : List (Ins × Value)
  fs : List (Fr × Value × Value)
def meC (p : Me × MeM) : List Value := meV p.1 p.2.pv p.2.cv p.2.hv p.2.fv
def meA (p : Me × MeM) : Asr := (tysA p.2.pv p.1.params).and ((inssA p.2.cv p.2.cs).and ((hdsA p.2.hv p.1.handlers).and (frsA p.2.fv p.2.fs)))
structure MeFit (p : Me × MeM) : Prop where
  code : p.2.cs.map (·.1) = p.1.code
  frames : p.2.fs.map (·.1) = p.1.frames
  ok : meOk p.1
  ps : tysOk p.1.params
  cs : inssOk p.2.cs
  hs : hdsOk p.1.handlers
  fs : frsOk p.2.fs
theorem meA_at {w : World} {p : Me × MeM} (h : (meA p).A w) (hf : MeFit p) : MeParts w p.1 p.2.pv p.2.cv p.2.hv p.2.fv := by
  refine ⟨tysA_at h.1 hf.ps, ?_, hdsA_at h.2.1.2.1.1 hf.hs, ?_, hf.ok⟩
  · have := inssA_at h.2.1.1 hf.cs
    rw [hf.code] at this; exact this
  · have := frsA_at h.2.1.2.1.2.1 hf.fs
    rw [hf.frames] at this; exact this
def mesA (v : Value) (ls : List (Me × MeM)) : Asr := (ownA 134 10 v ls.length (ls.flatMap meC)).and (bigA (ls.map meA))
def mesFit (ls : List (Me × MeM)) : Prop := ls.length ≤ 1048576 ∧ ∀ p ∈ ls, MeFit p
theorem mesA_at {w : World} {v : Value} {ls : List (Me × MeM)} (h : (mesA v ls).A w) (ho : mesFit ls) : MesAt w v (ls.map (·.1)) :=
  ListAt.of_own (El := MeEl) (·.1) meC ls h.1 (fun _ _ => rfl) ho.1 (fun p hp => ⟨p.2.pv, p.2.cv, p.2.hv, p.2.fv, rfl, meA_at (bigA_mem h.2.1 p hp) (ho.2 p hp)⟩)
structure ClM where
  fv : Value
  mv : Value
  ms : List (Me × MeM)
def clA (c : Cl) (k : ClM) : Asr := (fdsA k.fv c.fields).and (mesA k.mv k.ms)
structure ClFit (c : Cl) (k : ClM) : Prop where
  ms : k.ms.map (·.1) = c.methods
  ok : strOk c.name ∧ strOk c.super
  fs : fdsOk c.fields
  mo : mesFit k.ms
theorem clA_at {w : World} {c : Cl} {k : ClM} (h : (clA c k).A w) (hf : ClFit c k) : ClAt w c k.fv k.mv := by
  refine ⟨fdsA_at h.1 hf.fs, ?_, hf.ok⟩
  have := mesA_at h.2.1 hf.mo
  rw [hf.ms] at this; exact this
end Go.Proofs.YtpofmnfkdkmieaaGreat
namespace Go.Proofs.YtpofmnfkdkmieaaGreat
open Go Go.RowKit At E

theorem leN_lt : ∀ l : List UInt8, leN l < 256 ^ l.length
  | [] => by simp [leN]
  | b :: r => by
    have := leN_lt r
    have hb := b.toNat_lt
    rw [leN, List.length_cons, Nat.pow_succ]
    omega
theorem leN_append : ∀ l m : List UInt8, leN (l ++ m) = leN l + 256 ^ l.length * leN m
  | [], m => by simp [leN]
  | b :: r, m => by
    rw [List.cons_append, leN, leN, leN_append r m, List.length_cons, Nat.pow_succ, Nat.mul_add, ← Nat.add_assoc, ← Nat.mul_assoc, Nat.mul_comm 256 (256 ^ r.length)]
theorem toI_small {n : Nat} (h : n < 9223372036854775808) : toI n = (n : Int) := by unfold toI; rw [if_pos h]
theorem toI_wrap {n : Nat} (h : n < 18446744073709551616) : IntKind.i64.wrap (n : Int) = toI n := by
  rw [IntWalk.i64_left]; unfold wrap64 toI; split <;> omega
theorem toI_ok {n : Nat} (h : n < 18446744073709551616) : intOk (toI n) := by unfold intOk toI; split <;> omega
theorem pTake_some {n : Nat} {s l r : List UInt8} (h : pTake n s = some (l, r)) : l = s.take n ∧ r = s.drop n ∧ n ≤ s.length := by
  unfold pTake at h
  split at h
  · cases h; exact ⟨rfl, rfl, by assumption⟩
  · cases h
theorem pTake_ok {n : Nat} {s : List UInt8} (h : n ≤ s.length) : pTake n s = some (s.take n, s.drop n) := by unfold pTake; rw [if_pos h]
theorem pTake_no {n : Nat} {s : List UInt8} (h : ¬ n ≤ s.length) : pTake n s = none := by unfold pTake; rw [if_neg h]
def pFrom {α : Type} (p : Ps α) (xs : List α) (n : Nat) : Ps (List α) := pThen (pMany p n) fun l => pRet (xs ++ l)
theorem pFrom_zero {α : Type} (p : Ps α) (xs : List α) : pFrom p xs 0 = pRet xs := by
  funext s; simp [pFrom, pMany, pThen, pRet]
theorem pThen_assoc {α β γ : Type} (p : Ps α) (f : α → Ps β) (g : β → Ps γ) : pThen (pThen p f) g = pThen p fun x => pThen (f x) g := by
  funext s
  unfold pThen
  cases p s with
  | none => rfl
  | some q => rfl
theorem pRet_then {α β : Type} (x : α) (f : α → Ps β) : pThen (pRet x) f = f x := by funext s; rfl
theorem pFrom_succ {α : Type} (p : Ps α) (xs : List α) (n : Nat) : pFrom p xs (n + 1) = pThen p fun x => pFrom p (xs ++ [x]) n := by
  unfold pFrom
  rw [show pMany p (n + 1) = pThen p fun x => pThen (pMany p n) fun l => pRet (x :: l) from rfl, pThen_assoc]
  refine congrArg (pThen p) (funext fun x => ?_)
  rw [pThen_assoc]
  refine congrArg (pThen (pMany p n)) (funext fun l => ?_)
  rw [pRet_then, List.append_assoc]; rfl
theorem pMany_from {α : Type} (p : Ps α) (n : Nat) : pMany p n = pFrom p [] n := by
  unfold pFrom
  funext s
  simp only [List.nil_append]
  unfold pThen
  cases pMany p n s with
  | none => rfl
  | some q => rfl

def Goes {β : Type} (σ0 : Option (List UInt8)) (p : Ps β) (σ : Option (List UInt8)) (q : Ps β) : Prop := σ0.bind p = σ.bind q
theorem Goes.first {β : Type} (σ : Option (List UInt8)) (p : Ps β) : Goes σ p σ p := rfl
theorem Goes.of {β : Type} {σ0 σ : Option (List UInt8)} {P q q' : Ps β} (h : Goes σ0 P σ q) (e : q = q') : Goes σ0 P σ q' := e ▸ h
end Go.Proofs.YtpofmnfkdkmieaaGreat
namespace Go.Proofs.YtpofmnfkdkmieaaGreat
open Go.RowKit At E

def seg (s : ByteArray) (a n : Nat) : List UInt8 := ((dl s).drop a).take n
theorem seg_text {s : ByteArray} {a n : Nat} : s.extract a (a + n) = ⟨(seg s a n).toArray⟩ := by
  apply ByteArray.ext
  rw [ByteArray.data_extract]
  unfold seg dl
  apply Array.ext'
  simp [Array.toList_extract, List.extract_eq_take_drop]
def repN (k : Nat) : Nat → Value → Asr → Prop := fun n v R' => v = .int .i64 (toI n) ∧ n < 256 ^ k ∧ R' = Asr.none
def repS : ByteArray → Value → Asr → Prop := fun x v R' => v = .string x ∧ x.size ≤ 255 ∧ R' = Asr.none
def repB : Bool → Value → Asr → Prop := fun x v R' => v = .bool x ∧ R' = Asr.none
end Go.Proofs.YtpofmnfkdkmieaaGreat
namespace Go.Proofs.YtpofmnfkdkmieaaGreat
open Go.RowKit At E

def repI (k : Nat) : Int → Value → Asr → Prop := fun x v R' => v = .int .i64 x ∧ intOk x ∧ (k ≤ 2 → 0 ≤ x ∧ x < 65536) ∧ R' = Asr.none
def repT : Ty → Value → Asr → Prop := fun t v R' => v = .agg (tyV t).toArray ∧ tyOk t ∧ R' = Asr.none
theorem strOk_mt : strOk mt := Nat.zero_le _
theorem strOk_255 {s : ByteArray} (h : s.size ≤ 255) : strOk s := by unfold strOk; omega
theorem ok_snoc {α : Type} {ok : α → Prop} {l : List α} {t : α} (h : ∀ x ∈ l, ok x) (ht : ok t) : ∀ x ∈ l ++ [t], ok x := by
  intro x hx
  rcases List.mem_append.1 hx with hx | hx
  · exact h x hx
  · simp only [List.mem_singleton] at hx; subst hx; exact ht
end Go.Proofs.YtpofmnfkdkmieaaGreat
namespace Go.Proofs.YtpofmnfkdkmieaaGreat
open Go.RowKit At E

theorem tysA_nil (R : Asr) : R.Imp (tysA (.slice none 0 0) []) := ⟨fun k hk => by simp [tysA, ownA, Value.ownBlock] at hk, fun w _ => World.ownsRow_nil w 0 71 2⟩
theorem tysOk_nil : tysOk [] := ⟨by simp, fun t h => by cases h⟩
theorem intOk_0 : intOk 0 := by unfold intOk; omega
theorem tyOk_0 : tyOk ⟨0, mt⟩ := ⟨intOk_0, strOk_mt⟩
theorem rfOk_0 : rfOk rf0 := ⟨strOk_mt, strOk_mt, tyOk_0⟩
end Go.Proofs.YtpofmnfkdkmieaaGreat
namespace Go.Proofs.YtpofmnfkdkmieaaGreat
open Go.RowKit At E

theorem list_push (t o Rp : Asr) (L : List Asr) : (t.and (o.and ((bigA L).and Rp))).Imp (o.and ((bigA (L ++ [t])).and Rp)) :=
  (Asr.swap t o _).trans (Asr.Imp.right ((Asr.cossa t (bigA L) Rp).trans (Asr.Imp.left (bigA_snoc t L))))
theorem own_one {w : World} {e size n : Nat} {v : Value} {xs : List Value} (h : w.ownsRow 0 e size v n xs) : v.oneCell' = true := by
  obtain ⟨p, l, c, rfl⟩ := owns_slice h
  rfl
def insA (p : Ins × Value) : Asr := tysA p.2 p.1.ref.params
def meH (nm : ByteArray) (st : Bool) (r : Ty) (lo sk : Int) (pv cv hv fv : Value) : List Value := [.string nm, .bool st, pv, .int .i64 r.kind, .string r.cls, .int .i64 lo, .int .i64 sk, cv, hv, fv]
def nilS : Value := .slice none 0 0
end Go.Proofs.YtpofmnfkdkmieaaGreat
namespace Go.Proofs.YtpofmnfkdkmieaaGreat.E
open Go Go.RowKit

def blkA (b : Nat) (cs : List Value) (e : TypeId) : Asr := ⟨[b], fun w => w.heap[b]? = some (.cells cs.toArray e (0, 0)), fun w w' h hk => by rw [hk b List.mem_cons_self]; exact h⟩
section
variable {P : Program} {n : Nat} {E : Env} {w0 : World} {F : List Nat} {H : Hp} {R : Asr} {fn : Func} {Z : Ending → World → Prop} {κ : List Kf}
theorem Sat.allocR {w : World} (hs : Sat w0 F H R w) (cs : List Value) (e : TypeId) : Sat w0 F H ((blkA w.heap.size cs e).and R) (w.alloc (.cells cs.toArray e)) := by
  have hk := hs.keep (w' := w.alloc (.cells cs.toArray e)) ((Below.refl _ w).alloc (Nat.le_refl _) _)
  have hn : (w.alloc (.cells cs.toArray e)).heap[w.heap.size]? = some (.cells cs.toArray e (0, 0)) := by show (w.heap.push _)[w.heap.size]? = _; rw [Array.getElem?_push, if_pos rfl]
  refine ⟨hk.low, hk.own, hk.hi, hk.apart, ⟨hn, hk.res, ?_⟩, ?_, ?_⟩
  · intro k h1 h2
    simp only [blkA, List.mem_singleton] at h1
    have := (hs.rhi k h2).2
    omega
  · intro k hm
    rcases List.mem_append.1 hm with hm | hm
    · simp only [blkA, List.mem_singleton] at hm
      subst hm
      exact ⟨.inr hs.low.size, by rcases Nat.lt_or_ge w.heap.size (w.alloc (.cells cs.toArray e)).heap.size with h | h; exact h; rw [Array.getElem?_eq_none h] at hn; cases hn⟩
    · exact hk.rhi k hm
  · intro q hq hm
    rcases List.mem_append.1 hm with hm | hm
    · simp only [blkA, List.mem_singleton] at hm
      have := hs.lt hq
      omega
    · exact hk.rapart q hq hm
theorem Sat.turnR {w w' : World} {b : Nat} {cs : List Value} {e : TypeId} {R' : Asr} (hs : Sat w0 F H ((blkA b cs e).and R) w) (ho : w'.os = w.os ∧ w'.tape = w.tape ∧ w'.output = w.output) (hsz : w'.heap.size = w.heap.size) (hne : ∀ k, k ≠ b → w'.heap[k]? = w.heap[k]?)
    (hR : ∀ k ∈ R'.S, k ∈ ((blkA b cs e).and R).S) (hA : R.A w' → (∀ k ∈ R.S, k ≠ b) → R'.A w') : Sat w0 F H R' w' := by
  have hbS : b ∈ ((blkA b cs e).and R).S := List.mem_append_left _ List.mem_cons_self
  have hRb : ∀ k ∈ R.S, k ≠ b := fun k hk e => hs.res.2.2 k (by rw [e]; exact List.mem_cons_self) hk
  refine ⟨⟨ho.1.trans hs.low.os, ho.2.1.trans hs.low.tape, ho.2.2.trans hs.low.output, by rw [hsz]; exact hs.low.size, fun k hk hF => ?_⟩, fun q hq => ?_, hs.hi, hs.apart, hA (R.st w w' hs.res.2.1 (fun k hk => hne k (hRb k hk))) hRb, fun k hk => ?_, fun q hq hk => hs.rapart q hq (hR _ hk)⟩
  · rw [hne k (fun e => (hs.rhi b hbS).1.elim (fun hb => hF (by rw [e]; exact hb)) (fun hb => by omega))]; exact hs.low.block k hk hF
  · rw [hne _ (fun e => hs.rapart q hq (by rw [e]; exact hbS))]; exact hs.own q hq
  · rw [hsz]; exact hs.rhi k (hR k hk)
theorem WL_make {all : Array Oper} {l : List Oper} {d t e : Nat} {x y : Operand} {ty : TypeId} {p : String} {g : Array Edge} {k : Nat} (hd : Nat.blt d n = true) (ht : TA P t e 1 1 (.int .u8 0)) (hx : ev E x = some (.int .i64 (k : Nat))) (hy : ev E y = some (.int .i64 (k : Nat))) (hk : k ≤ 281474976710656)
    (h : ∀ b M, M.length = k → WL P n all l ((d, .slice (some ⟨b, 0, none⟩) k k) :: E) w0 F H ((blkA b M e).and R) fn Z κ) : WL P n all (⟨some d, .makeSlice t x y, ty, p, g, none⟩ :: l) E w0 F H R fn Z κ :=
  ⟨fun w hs a ha => wpList_plain rfl fun K hK => by
    obtain ⟨i, hi, hz, hsz, hb⟩ := info_parts ht.inf
    have hr := run_make (P := P) w t e i (.int .u8 0) ht.sl hi hz .i64 .i64 (k : Int) (k : Int) (by omega) (by omega) (by rw [hb]; omega) (by omega)
    have he : (execOp a.eval ⟨some d, .makeSlice t x y, ty, p, g, none⟩).run P w = .ok (.value (.slice (some ⟨w.heap.size, 0, none⟩) k k)) (w.alloc (.cells (madeCells (Value.int .u8 0).cells (k * 1)).toList.toArray e)) := by
      simp only [execOp]; rw [ha.eval hx, ha.eval hy]
      rw [hsz] at hr
      simp only [Int.toNat_natCast] at hr
      simp [hr]
    unfold Oper.wp; rw [he]
    exact hK _ _ ((h w.heap.size (madeCells (Value.int .u8 0).cells (k * 1)).toList (by rw [Array.length_toList, size_madeCells, Nat.mul_one])).go (w.alloc _) (hs.allocR _ e) _ (ha.put hd _))⟩
theorem WL_copyS {all : Array Oper} {l : List Oper} {d t u e b : Nat} {x y : Operand} {ty : TypeId} {p : String} {g : Array Edge} {s : ByteArray} {M : List Value} (hd : Nat.blt d n = true) (ht : TA P t e 1 1 (.int .u8 0)) (hx : ev E x = some (.slice (some ⟨b, 0, none⟩) s.size s.size)) (hy : ev E y = some (.string s)) (hM : M.length = s.size)
    (h : WL P n all l ((d, .int .i64 (s.size : Nat)) :: E) w0 F H ((blkA b (Go.Lib.byteCells s.data.toList) e).and R) fn Z κ) : WL P n all (⟨some d, .call ⟨.builtin .copy, #[x, y], #[t, u]⟩, ty, p, g, none⟩ :: l) E w0 F H ((blkA b M e).and R) fn Z κ :=
  ⟨fun w hs a ha => wpList_plain rfl fun K hK => by
    obtain ⟨i', hi, hz, hsz, hb⟩ := info_parts ht.inf
    have htt : w.heap[b]? = some (.cells M.toArray e (0, 0)) := hs.res.1
    have hr := Go.Lib.run_copy_row_string (P := P) w t u ty e b 0 s.size s.size s M.toArray e ht.sl (by rw [hi]; simp [hsz]) htt (Nat.le_refl _) (by simp [hM])
    have e1 : (M.toArray.toList.take 0 ++ Go.Lib.byteCells s.data.toList ++ M.toArray.toList.drop (0 + s.size)) = Go.Lib.byteCells s.data.toList := by
      rw [List.take_zero, List.nil_append, List.drop_of_length_le (by simp [hM]), List.append_nil]
    rw [e1] at hr
    have he : (execOp a.eval ⟨some d, .call ⟨.builtin .copy, #[x, y], #[t, u]⟩, ty, p, g, none⟩).run P w = .ok (.value (.int .i64 (s.size : Nat))) (w.setRow b (Go.Lib.byteCells s.data.toList).toArray) := by
      simp only [execOp, resolve, invoke, builtin]
      simp [ha.eval hx, ha.eval hy, hr, goInt]
    unfold Oper.wp; rw [he]
    refine hK _ _ (h.go _ (hs.turnR (w' := w.setRow b (Go.Lib.byteCells s.data.toList).toArray) ⟨rfl, rfl, rfl⟩ (by simp) (fun k hk => setRow_other w b k _ (fun e => hk e)) (fun k hk => hk) (fun hA hb => ⟨setRow_heap w b _ _ e _ htt, hA, fun k h1 h2 => ?_⟩)) _ (ha.put hd _))
    simp only [blkA, List.mem_singleton] at h1
    exact hb k h2 h1⟩
theorem WL_uString {all : Array Oper} {l : List Oper} {d t it e b : Nat} {x y : Operand} {ty : TypeId} {p : String} {g : Array Edge} {s : ByteArray} (hd : Nat.blt d n = true) (ht : P.underlying t = some (.pointer e)) (hc : P.cellsOf e = 1) (hx : ev E x = some (.pointer (some ⟨b, 0, none⟩))) (hy : ev E y = some (.int .i64 (s.size : Nat))) (h0 : s.size ≠ 0) (h1 : s.size ≤ 281474976710656)
    (h : WL P n all l ((d, .string s) :: E) w0 F H R fn Z κ) : WL P n all (⟨some d, .call ⟨.builtin .unsafeString, #[x, y], #[t, it]⟩, ty, p, g, none⟩ :: l) E w0 F H ((blkA b (Go.Lib.byteCells s.data.toList) e).and R) fn Z κ :=
  ⟨fun w hs a ha => wpList_plain rfl fun K hK => by
    have hg : w.heap[b]? = some (.cells (Go.Lib.byteCells s.data.toList).toArray e (0, 0)) := hs.res.1
    have hsz : s.data.toList.length = s.size := Array.length_toList
    have hr := Go.Lib.run_unsafeString_row (P := P) w t it ty e ht hc b s.size (by unfold World.shape?; rw [hg]; simp [Go.Lib.byteCells_length, hsz]) s.data.toList (fun e => h0 (by rw [← hsz, e]; rfl)) (by omega) (by omega)
      (fun j v hj => by
        rw [Addr.add_lit, Nat.zero_add]
        simp [World.cell?, hg, Go.Lib.byteCells, hj])
    have e2 : (⟨s.data.toList.toArray⟩ : ByteArray) = s := by cases s; simp
    rw [e2, hsz] at hr
    have hx' : (execOp a.eval ⟨some d, .call ⟨.builtin .unsafeString, #[x, y], #[t, it]⟩, ty, p, g, none⟩).run P w = .ok (.value (.string s)) (w.freeze ⟨b, 0, none⟩ s.size) := by
      simp only [execOp, resolve, invoke, builtin]
      simp [ha.eval hx, ha.eval hy, hr]
    unfold Oper.wp; rw [hx']
    have hne : ∀ k, k ≠ b → (w.freeze ⟨b, 0, none⟩ s.size).heap[k]? = w.heap[k]? := fun k hk => by
      unfold World.freeze
      split
      · rfl
      · simp only [Array.getElem?_modify]
        rw [if_neg (fun e => hk e.symm)]
    have hsize : (w.freeze ⟨b, 0, none⟩ s.size).heap.size = w.heap.size := by unfold World.freeze; split <;> simp
    have ho : (w.freeze ⟨b, 0, none⟩ s.size).os = w.os ∧ (w.freeze ⟨b, 0, none⟩ s.size).tape = w.tape ∧ (w.freeze ⟨b, 0, none⟩ s.size).output = w.output := by unfold World.freeze; split <;> exact ⟨rfl, rfl, rfl⟩
    exact hK _ _ (h.go _ (hs.turnR ho hsize hne (fun k hk => List.mem_append_right _ hk) (fun hA _ => hA)) _ (ha.put hd _))⟩
theorem Ex_shl {t t' : TypeId} {x y : Operand} {k k' : IntKind} {i j : Int} (hx : ev E x = some (.int k i)) (hy : ev E y = some (.int k' j)) (hj : decide (j < 0) = false) : Ex P n E w0 F H R (.binOp .shl t x y t') (.int k (k.wrap (i * 2 ^ min j.toNat k.bits))) := ⟨fun w _ a ha _ _ _ _ _ => by
  simp only [execOp]; rw [ha.eval hx, ha.eval hy, eqGuard_at_int]
  simp [binOp, Op.shift, of_decide_eq_false hj]⟩
theorem Ex_or {t t' : TypeId} {x y : Operand} {k : IntKind} {i j : Int} (hx : ev E x = some (.int k i)) (hy : ev E y = some (.int k j)) : Ex P n E w0 F H R (.binOp .or t x y t') (.int k (k.wrap ((BitVec.ofInt k.bits i ||| BitVec.ofInt k.bits j).toNat : Nat))) :=
  Ex_bin hx hy fun w => by simp [binOp, Op.intBits]
end
end Go.Proofs.YtpofmnfkdkmieaaGreat.E
