/- What is proved here: the program's reader (package wire): pieces, numbers, flags, names, types. -/
import Derived.Test.YtpofmnfkdkmieaaGreatQ09
import Derived.Test.YtpofmnfkdkmieaaGreatQ08
import Derived.Test.YtpofmnfkdkmieaaGreatQ06
import Derived.Test.YtpofmnfkdkmieaaGreatQ07
set_option linter.unusedVariables false
set_option linter.unusedSimpArgs false
namespace Go.Proofs.YtpofmnfkdkmieaaGreat
open Go.RowKit At E

def rdC (r : List UInt8) : List Value := [.string ⟨r.toArray⟩]
def RdOk {α : Type} (r : List UInt8) (p : Ps α) (rep : α → Value → Asr → Prop) : Value → List Value → Asr → Prop := fun v cs' R' => ∃ x r', p r = some (x, r') ∧ cs' = rdC r' ∧ r'.length ≤ r.length ∧ rep x v R'
def RdP {α : Type} (f : FuncId) (args : Array Value) (u : World) (b : Nat) (p : Ps α) (rep : α → Value → Asr → Prop) : Prop :=
  ∀ r : List UInt8, r.length ≤ 4000000 → RcP Tryz.prog f args u b (rdC r) (RdOk r p rep) (p r = none)
theorem rd_no {α β : Type} {P : Ps β} {p : Ps α} {f : α → Ps β} {r r1 : List UInt8} (h : Goes (some r) P (some r1) (pThen p f)) (hm : p r1 = none) : P r = none := by
  have h1 : P r = pThen p f r1 := h
  rw [h1]; unfold pThen; rw [hm]
theorem rd_next {α β : Type} {P : Ps β} {p : Ps α} {f : α → Ps β} {r r1 r2 : List UInt8} {x : α} (h : Goes (some r) P (some r1) (pThen p f)) (hm : p r1 = some (x, r2)) : Goes (some r) P (some r2) (f x) := by
  have h1 : P r = pThen p f r1 := h
  show P r = f x r2
  rw [h1]; unfold pThen; rw [hm]
theorem rd_done {β : Type} {P : Ps β} {r r1 : List UInt8} {x : β} (h : Goes (some r) P (some r1) (pRet x)) : P r = some (x, r1) := h
theorem ba_size (r : List UInt8) : (⟨r.toArray⟩ : ByteArray).size = r.length := by show r.toArray.size = r.length; simp
theorem dl_ba (r : List UInt8) : dl ⟨r.toArray⟩ = r := by unfold dl; simp
theorem ext_take (r : List UInt8) (n : Nat) : (⟨r.toArray⟩ : ByteArray).extract 0 n = ⟨(r.take n).toArray⟩ := by
  have e := seg_text (s := ⟨r.toArray⟩) (a := 0) (n := n)
  rw [Nat.zero_add] at e
  rw [e]; unfold seg; rw [dl_ba, List.drop_zero]
theorem ext_drop (r : List UInt8) (n : Nat) (h : n ≤ r.length) : (⟨r.toArray⟩ : ByteArray).extract n (⟨r.toArray⟩ : ByteArray).size = ⟨(r.drop n).toArray⟩ := by
  have e := seg_text (s := ⟨r.toArray⟩) (a := n) (n := r.length - n)
  rw [show n + (r.length - n) = r.length by omega] at e
  rw [ba_size, e]; unfold seg; rw [dl_ba, List.take_of_length_le (by rw [List.length_drop]; omega)]
def repTk : List UInt8 → Value → Asr → Prop := fun x v R' => v = .string ⟨x.toArray⟩ ∧ R' = Asr.none
theorem rdTake_any (U : World) (b n : Nat) : RdP 112 #[.pointer (some ⟨b, 0, none⟩), .int .i64 (n : Nat)] U b (pTake n) repTk := by
  intro r hrl w h0
  have hz := ba_size r
  refine opensF (h0.sat) (args := [.pointer (some ⟨b, 0, none⟩), .int .i64 (n : Nat)]) Tryz.func112 rfl Tryz.ntmps112 ?_
  refine WC_seq ?_
  refine WC_region ?_
  refine WL_op rfl (Ex_assign rfl) ?_
  refine WL_nil ?_
  refine WQ_next ?_
  refine WC_seq ?_
  refine WC_region ?_
  refine WL_op rfl (Ex_move rfl) ?_
  refine WL_op rfl (Ex_move rfl) ?_
  refine WL_op rfl (Ex_nil rfl) ?_
  refine WL_op rfl (Ex_field (ff rfl) rfl) ?_
  refine WL_op rfl (Ex_load (t1 rfl) rfl (cell_mine 0 rfl rfl)) ?_
  refine WL_op rfl (Ex_lenS (tstr rfl) rfl) ?_
  refine WL_op rfl (Ex_leq rfl rfl) ?_
  refine WL_callP fn111 rfl rfl (fun w _ => must_any _ w) ?_ ?_
  rotate_left
  · intro o1
    try (first | replace o1 := of_decide_eq_false o1 | replace o1 := of_nd_false o1)
    refine WQ_pan ?_
    refine WD_of h0.base (Rc_F h0) (WD_end ?_)
    exact pTake_no (by omega)
  intro o1
  try (first | replace o1 := of_decide_eq_true o1 | replace o1 := of_nd_true o1)
  refine WL_nil ?_
  refine WQ_next ?_
  refine WC_seq ?_
  refine WC_region ?_
  refine WL_op rfl (Ex_move rfl) ?_
  refine WL_op rfl (Ex_nil rfl) ?_
  refine WL_op rfl (Ex_field (ff rfl) rfl) ?_
  refine WL_op rfl (Ex_load (t1 rfl) rfl (cell_mine 0 rfl rfl)) ?_
  refine WL_op rfl (Ex_move rfl) ?_
  refine WL_op rfl (Ex_sliceTo (tstr rfl) rfl rfl ?_) ?_
  · omega
  refine WL_op rfl (Ex_assign rfl) ?_
  refine WL_nil ?_
  refine WQ_next ?_
  refine WC_seq ?_
  refine WC_region ?_
  refine WL_op rfl (Ex_move rfl) ?_
  refine WL_op rfl (Ex_move rfl) ?_
  refine WL_op rfl (Ex_nil rfl) ?_
  refine WL_op rfl (Ex_field (ff rfl) rfl) ?_
  refine WL_op rfl (Ex_load (t1 rfl) rfl (cell_mine 0 rfl rfl)) ?_
  refine WL_op rfl (Ex_move rfl) ?_
  refine WL_op rfl (Ex_sliceFrom (tstr rfl) rfl rfl ?_) ?_
  · omega
  refine WL_op rfl (Ex_nil rfl) ?_
  refine WL_op rfl (Ex_field (ff rfl) rfl) ?_
  refine WL_store (t1 rfl) rfl rfl 0 rfl rfl rfl rfl ?_
  refine WL_nil ?_
  refine WQ_next ?_
  refine WC_seq ?_
  refine WC_region ?_
  refine WL_op rfl (Ex_move rfl) ?_
  refine WL_op rfl (Ex_assign rfl) ?_
  refine WL_nil ?_
  refine WQ_next ?_
  refine WC_ret ?_
  refine Rc_end1 rfl rfl 0 rfl ?_
  exact ⟨r.take n, r.drop n, pTake_ok (by omega), congrArg (fun s => [Value.string s]) (ext_drop r n (by omega)), by rw [List.length_drop]; omega, congrArg Value.string (ext_take r n), rfl⟩
theorem or_step (a c i : Nat) (ha : a < 256 ^ i) (hi : i < 8) (hc : c < 256) :
    IntKind.u64.wrap (((BitVec.ofInt IntKind.u64.bits (a : Int) ||| BitVec.ofInt IntKind.u64.bits (IntKind.u64.wrap (IntKind.u64.wrap (c : Int) * 2 ^ min ((8 : Int) * (i : Int)).toNat IntKind.u64.bits))).toNat : Nat) : Int) = ((a + 256 ^ i * c : Nat) : Int) := by
  have e8 : (256 : Nat) ^ i = 2 ^ (8 * i) := by rw [show (256 : Nat) = 2 ^ 8 by decide, ← Nat.pow_mul]
  have hbits : IntKind.u64.bits = 64 := rfl
  have hmin : min ((8 : Int) * (i : Int)).toNat IntKind.u64.bits = 8 * i := by rw [hbits]; omega
  have hp : 2 ^ (8 * i) * 256 ≤ 18446744073709551616 := by
    have : 2 ^ (8 * i) * 256 = 2 ^ (8 * i + 8) := by rw [Nat.pow_add]
    rw [this]
    exact Nat.le_trans (Nat.pow_le_pow_right (by omega) (show 8 * i + 8 ≤ 64 by omega)) (by decide)
  have hcb : 2 ^ (8 * i) * c ≤ 2 ^ (8 * i) * 255 := Nat.mul_le_mul_left _ (by omega)
  rw [e8] at ha ⊢
  have hw1 : IntKind.u64.wrap (c : Int) = (c : Int) := by rw [IntKind.wrap_u64]; omega
  have hw2 : IntKind.u64.wrap ((c : Int) * 2 ^ (8 * i)) = ((2 ^ (8 * i) * c : Nat) : Int) := by
    have e : (c : Int) * 2 ^ (8 * i) = ((2 ^ (8 * i) * c : Nat) : Int) := by
      rw [Int.natCast_mul, Int.natCast_pow, Int.mul_comm]; rfl
    rw [e, IntKind.wrap_u64]; omega
  rw [hmin, hw1, hw2, hbits]
  have hA : (BitVec.ofInt 64 (a : Int)).toNat = a := by rw [BitVec.toNat_ofInt]; omega
  have hB : (BitVec.ofInt 64 ((2 ^ (8 * i) * c : Nat) : Int)).toNat = 2 ^ (8 * i) * c := by rw [BitVec.toNat_ofInt]; omega
  rw [BitVec.toNat_or, hA, hB, Nat.or_comm, ← Nat.two_pow_add_eq_or_of_lt ha, IntKind.wrap_u64]
  omega
def rep64 (k : Nat) : Nat → Value → Asr → Prop := fun n v R' => v = .int .u64 (n : Nat) ∧ n < 256 ^ k ∧ R' = Asr.none
theorem leN_take_succ (l : List UInt8) (i : Nat) (h : i < l.length) : leN (l.take (i + 1)) = leN (l.take i) + 256 ^ i * l[i].toNat := by
  rw [List.take_succ_eq_append_getElem h, leN_append]
  have : (l.take i).length = i := by rw [List.length_take]; omega
  rw [this]; simp [leN]
theorem rdNumber_any (U : World) (b k : Nat) (hk : k ≤ 8) : RdP 180 #[.pointer (some ⟨b, 0, none⟩), .int .i64 (k : Nat)] U b (pNum k) (rep64 k) := by
  intro r hrl w h0
  refine opensF (h0.sat) (args := [.pointer (some ⟨b, 0, none⟩), .int .i64 (k : Nat)]) Tryz.func180 rfl Tryz.ntmps180 ?_
  refine WC_seq ?_
  refine WC_region ?_
  refine WL_op rfl (Ex_assign rfl) ?_
  refine WL_nil ?_
  refine WQ_next ?_
  refine WC_seq ?_
  refine WC_region ?_
  refine WL_op rfl (Ex_move rfl) ?_
  refine WL_op rfl (Ex_move rfl) ?_
  refine WL_callR0 fn112 rfl rfl 0 rfl h0.base (Rc_F h0) (rdTake_any U b k r hrl) (fun hm => WD_pan (WD_end (by unfold pNum pThen; rw [hm]))) ?_
  rintro v cs' ⟨R', l, r1, hp, rfl, hr1, rfl, -⟩
  refine WL_op rfl (Ex_assign rfl) ?_
  refine WL_nil ?_
  refine WQ_next ?_
  refine WC_seq ?_
  refine WC_region ?_
  refine WL_op rfl (Ex_assign rfl) ?_
  refine WL_nil ?_
  refine WQ_next ?_
  refine WC_seq ?_
  refine WC_seq ?_
  refine WC_region ?_
  refine WL_op rfl (Ex_move rfl) ?_
  refine WL_op rfl (Ex_move rfl) ?_
  refine WL_nil ?_
  refine WQ_next ?_
  refine WC_block ?_
  obtain ⟨hl1, -, hkl⟩ := pTake_some hp
  have hll : l.length = k := by rw [hl1, List.length_take]; omega
  have hz := ba_size l
  refine WC_sub (E' := (fun i : Nat => [(0, .pointer (some ⟨b, 0, none⟩)), (5, .string ⟨l.toArray⟩), (6, .int .u64 ((leN (l.take i) : Nat) : Int)), (11, .int .i64 (k : Nat)), (12, .int .i64 (i : Nat))]) (0)) ⟨rfl, rfl, rfl, rfl, rfl, trivial⟩ (WC_loop (X := Nat) (fun i : Nat => [(0, .pointer (some ⟨b, 0, none⟩)), (5, .string ⟨l.toArray⟩), (6, .int .u64 ((leN (l.take i) : Nat) : Int)), (11, .int .i64 (k : Nat)), (12, .int .i64 (i : Nat))]) _ _ (fun i : Nat => [(b, rdC r1)]) (fun i : Nat => Asr.none) (fun i : Nat => i ≤ k) (fun i : Nat => k - i) (0) (Nat.zero_le _) ?_)
  intro i hI
  refine WC_seq ?_
  refine WC_region ?_
  refine WL_op rfl (Ex_lss rfl rfl) ?_
  refine WL_nil ?_
  refine WQ_next ?_
  refine WC_seq ?_
  refine WC_if rfl ?_ ?_  -- cond 1 read.go:42
  · intro c1
    try (first | replace c1 := of_decide_eq_true c1 | replace c1 := of_nd_true c1)
    have hi : i < l.length := by omega
    refine WC_skip ?_
    refine WQ_next ?_
    refine WC_seq ?_
    refine WC_block ?_
    refine WC_seq ?_
    refine WC_region ?_
    refine WL_op rfl (Ex_move rfl) ?_
    refine WL_op rfl (Ex_assign rfl) ?_
    refine WL_nil ?_
    refine WQ_next ?_
    refine WC_region ?_
    refine WL_op rfl (Ex_move rfl) ?_
    refine WL_op rfl (Ex_move rfl) ?_
    refine WL_op rfl (Ex_move rfl) ?_
    refine WL_op rfl (Ex_indexS (tstr rfl) rfl rfl ?_) ?_
    · omega
    refine WL_op rfl (Ex_conv (tint rfl) (tint rfl) rfl) ?_
    refine WL_op rfl (Ex_move rfl) ?_
    (first | (refine WL_op rfl (Ex_mulB rfl rfl ?_) ?_; omega) | refine WL_op rfl (Ex_mul rfl rfl) ?_)
    refine WL_op rfl (Ex_shl rfl rfl (decide_eq_false (by omega))) ?_
    refine WL_op rfl (Ex_or rfl rfl) ?_
    refine WL_op rfl (Ex_assign rfl) ?_
    refine WL_nil ?_
    refine WQ_bnext ?_
    refine WQ_next ?_
    refine WC_region ?_
    (first | (refine WL_op rfl (Ex_inc rfl rfl ?_) ?_; omega) | (refine WL_op rfl (Ex_addB rfl rfl ?_) ?_; omega) | refine WL_op rfl (Ex_add rfl rfl) ?_)
    refine WL_op rfl (Ex_move rfl) ?_
    refine WL_nil ?_
    refine WQ_same (s := 6) (v' := .int .u64 ((leN (l.take (i + 1)) : Nat) : Int)) rfl (congrArg (Value.int .u64) (by have h9 := leN_lt (l.take i); rw [List.length_take, Nat.min_eq_left (by omega)] at h9; rw [leN_take_succ l i hi]; exact or_step _ _ i h9 (by omega) (l[i].toNat_lt))) ?_
    refine WQ_again (i + 1) ?_ (by omega) 0 rfl (rfl) ⟨rfl, rfl, rfl, rfl, rfl, trivial⟩
    omega
  · intro c1
    try (first | replace c1 := of_decide_eq_false c1 | replace c1 := of_nd_false c1)
    refine WC_exit ?_
    refine WQ_exit ?_
    refine WQ_lexit ?_
    refine WQ_here ?_
    refine WQ_next ?_
    refine WC_seq ?_
    refine WC_region ?_
    refine WL_op rfl (Ex_move rfl) ?_
    refine WL_op rfl (Ex_assign rfl) ?_
    refine WL_nil ?_
    refine WQ_next ?_
    refine WC_ret ?_
    refine Rc_end1 rfl rfl 0 rfl ?_
    have h9 := leN_lt l; rw [hll] at h9; rw [show i = k by omega, List.take_of_length_le (by omega)]; exact ⟨leN l, r1, by unfold pNum pThen; rw [hp]; rfl, rfl, hr1, rfl, h9, rfl⟩
theorem rdNbyte_any (U : World) (b : Nat) : RdP 115 #[.pointer (some ⟨b, 0, none⟩)] U b (pNum 1) (repN 1) := by
  intro r hrl w h0
  have h64 : (256 : Nat) ^ 8 = 18446744073709551616 := by decide
  refine opensF (h0.sat) (args := [.pointer (some ⟨b, 0, none⟩)]) Tryz.func115 rfl Tryz.ntmps115 ?_
  refine WC_seq ?_
  refine WC_region ?_
  refine WL_op rfl (Ex_assign rfl) ?_
  refine WL_nil ?_
  refine WQ_next ?_
  refine WC_seq ?_
  refine WC_region ?_
  refine WL_op rfl (Ex_move rfl) ?_
  refine WL_callR0 fn180 rfl rfl 0 rfl h0.base (Rc_F h0) (rdNumber_any U b 1 (by omega) r hrl) (fun hm => WD_pan (WD_end hm)) ?_
  rintro v cs' ⟨R', n, r1, hp, rfl, hr1, rfl, hn, -⟩
  refine WL_op rfl (Ex_conv (tint rfl) (tint rfl) rfl) ?_
  refine WL_op rfl (Ex_assign rfl) ?_
  refine WL_nil ?_
  refine WQ_next ?_
  refine WC_ret ?_
  refine Rc_end1 rfl rfl 0 rfl ?_
  exact ⟨n, r1, hp, rfl, hr1, congrArg (Value.int .i64) (toI_wrap (by omega)), hn, rfl⟩
theorem rdNtwo_any (U : World) (b : Nat) : RdP 185 #[.pointer (some ⟨b, 0, none⟩)] U b (pNum 2) (repN 2) := by
  intro r hrl w h0
  have h64 : (256 : Nat) ^ 8 = 18446744073709551616 := by decide
  refine opensF (h0.sat) (args := [.pointer (some ⟨b, 0, none⟩)]) Tryz.func185 rfl Tryz.ntmps185 ?_
  refine WC_seq ?_
  refine WC_region ?_
  refine WL_op rfl (Ex_assign rfl) ?_
  refine WL_nil ?_
  refine WQ_next ?_
  refine WC_seq ?_
  refine WC_region ?_
  refine WL_op rfl (Ex_move rfl) ?_
  refine WL_callR0 fn180 rfl rfl 0 rfl h0.base (Rc_F h0) (rdNumber_any U b 2 (by omega) r hrl) (fun hm => WD_pan (WD_end hm)) ?_
  rintro v cs' ⟨R', n, r1, hp, rfl, hr1, rfl, hn, -⟩
  refine WL_op rfl (Ex_conv (tint rfl) (tint rfl) rfl) ?_
  refine WL_op rfl (Ex_assign rfl) ?_
  refine WL_nil ?_
  refine WQ_next ?_
  refine WC_ret ?_
  refine Rc_end1 rfl rfl 0 rfl ?_
  exact ⟨n, r1, hp, rfl, hr1, congrArg (Value.int .i64) (toI_wrap (by omega)), hn, rfl⟩
theorem rdNeight_any (U : World) (b : Nat) : RdP 285 #[.pointer (some ⟨b, 0, none⟩)] U b (pNum 8) (repN 8) := by
  intro r hrl w h0
  have h64 : (256 : Nat) ^ 8 = 18446744073709551616 := by decide
  refine opensF (h0.sat) (args := [.pointer (some ⟨b, 0, none⟩)]) Tryz.func285 rfl Tryz.ntmps285 ?_
  refine WC_seq ?_
  refine WC_region ?_
  refine WL_op rfl (Ex_assign rfl) ?_
  refine WL_nil ?_
  refine WQ_next ?_
  refine WC_seq ?_
  refine WC_region ?_
  refine WL_op rfl (Ex_move rfl) ?_
  refine WL_callR0 fn180 rfl rfl 0 rfl h0.base (Rc_F h0) (rdNumber_any U b 8 (by omega) r hrl) (fun hm => WD_pan (WD_end hm)) ?_
  rintro v cs' ⟨R', n, r1, hp, rfl, hr1, rfl, hn, -⟩
  refine WL_op rfl (Ex_conv (tint rfl) (tint rfl) rfl) ?_
  refine WL_op rfl (Ex_assign rfl) ?_
  refine WL_nil ?_
  refine WQ_next ?_
  refine WC_ret ?_
  refine Rc_end1 rfl rfl 0 rfl ?_
  exact ⟨n, r1, hp, rfl, hr1, congrArg (Value.int .i64) (toI_wrap (by omega)), hn, rfl⟩
theorem rdI_of {f : FuncId} {args : Array Value} {U : World} {b k : Nat} (hk : k ≤ 8) (h : RdP f args U b (pNum k) (repN k)) : RdP f args U b (pInt k) (repI k) := by
  intro r hrl w h0
  refine Calls.mono (h r hrl w h0) ?_
  rintro e w' (⟨v, cs', R', rfl, ⟨n, r1, hp, rfl, hr1, rfl, hn, rfl⟩, hw⟩ | ⟨hm, rfl, hb⟩)
  · have h8 : n < 18446744073709551616 := Nat.lt_of_lt_of_le hn (Nat.le_trans (Nat.pow_le_pow_right (by omega) hk) (by decide))
    refine .inl ⟨_, _, _, rfl, ⟨toI n, r1, by unfold pInt pThen; rw [hp]; rfl, rfl, hr1, rfl, toI_ok h8, fun h2 => ?_, rfl⟩, hw⟩
    have h3 : n < 65536 := Nat.lt_of_lt_of_le hn (Nat.le_trans (Nat.pow_le_pow_right (by omega) h2) (by decide))
    rw [toI_small (by omega)]; omega
  · exact .inr ⟨by unfold pInt pThen; rw [hm], rfl, hb⟩
theorem rdByte_any (U : World) (b : Nat) : RdP 115 #[.pointer (some ⟨b, 0, none⟩)] U b (pInt 1) (repI 1) := rdI_of (by omega) (rdNbyte_any U b)
theorem rdTwo_any (U : World) (b : Nat) : RdP 185 #[.pointer (some ⟨b, 0, none⟩)] U b (pInt 2) (repI 2) := rdI_of (by omega) (rdNtwo_any U b)
theorem rdEight_any (U : World) (b : Nat) : RdP 285 #[.pointer (some ⟨b, 0, none⟩)] U b (pInt 8) (repI 8) := rdI_of (by omega) (rdNeight_any U b)
theorem rdFlag_any (U : World) (b : Nat) : RdP 181 #[.pointer (some ⟨b, 0, none⟩)] U b pFlag repB := by
  intro r hrl w h0
  have hS := Goes.first (some r) pFlag
  refine opensF (h0.sat) (args := [.pointer (some ⟨b, 0, none⟩)]) Tryz.func181 rfl Tryz.ntmps181 ?_
  refine WC_seq ?_
  refine WC_region ?_
  refine WL_op rfl (Ex_assign rfl) ?_
  refine WL_nil ?_
  refine WQ_next ?_
  refine WC_seq ?_
  refine WC_region ?_
  refine WL_op rfl (Ex_move rfl) ?_
  refine WL_callR0 fn115 rfl rfl 0 rfl h0.base (Rc_F h0) (rdNbyte_any U b r hrl) (fun hm => WD_pan (WD_end (rd_no hS hm))) ?_
  rintro v cs' ⟨R', n, r1, hp, rfl, hr1, rfl, hn, -⟩
  replace hS := rd_next hS hp
  rw [toI_small (show n < 9223372036854775808 by omega)]
  refine WL_op rfl (Ex_assign rfl) ?_
  refine WL_nil ?_
  refine WQ_next ?_
  refine WC_seq ?_
  refine WC_region ?_
  refine WL_op rfl (Ex_move rfl) ?_
  refine WL_op rfl (Ex_leq rfl rfl) ?_
  refine WL_callP fn111 rfl rfl (fun w _ => must_any _ w) ?_ ?_
  rotate_left
  · intro o1
    try (first | replace o1 := of_decide_eq_false o1 | replace o1 := of_nd_false o1)
    refine WQ_pan ?_
    refine WD_of h0.base (Rc_F h0) (WD_end ?_)
    rw [if_pos (by omega)] at hS; exact hS
  intro o1
  try (first | replace o1 := of_decide_eq_true o1 | replace o1 := of_nd_true o1)
  refine WL_nil ?_
  refine WQ_next ?_
  refine WC_seq ?_
  refine WC_region ?_
  refine WL_op rfl (Ex_move rfl) ?_
  refine WL_op rfl (Ex_eql rfl rfl) ?_
  refine WL_op rfl (Ex_assign rfl) ?_
  refine WL_nil ?_
  refine WQ_next ?_
  refine WC_ret ?_
  refine Rc_end1 rfl rfl 0 rfl ?_
  rw [if_neg (by omega)] at hS; exact ⟨_, r1, rd_done hS, rfl, hr1, congrArg Value.bool (by rw [Bool.eq_iff_iff]; simp only [decide_eq_true_eq]; omega), rfl⟩
theorem t1p : Tryz.prog.underlying 403 = some (.pointer 5) := by kernel_rfl
theorem c1u8 : Tryz.prog.cellsOf 5 = 1 := by kernel_rfl
theorem litClone_any (s : ByteArray) (w : World) (hs : s.size ≤ 4000000) : Pure Tryz.prog 242 #[.string s] w (.string s) := by
  refine opens (args := [.string s]) Tryz.func242 rfl Tryz.ntmps242 ?_
  refine WC_seq ?_
  refine WC_region ?_
  refine WL_op rfl (Ex_assign rfl) ?_
  refine WL_nil ?_
  refine WQ_next ?_
  refine WC_seq ?_
  refine WC_seq ?_
  refine WC_region ?_
  refine WL_op rfl (Ex_move rfl) ?_
  refine WL_op rfl (Ex_lenS (tstr rfl) rfl) ?_
  refine WL_op rfl (Ex_eql rfl rfl) ?_
  refine WL_nil ?_
  refine WQ_next ?_
  refine WC_if rfl ?_ ?_  -- cond 1 strings.go:116
  · intro c1
    try (first | replace c1 := of_decide_eq_true c1 | replace c1 := of_nd_true c1)
    refine WC_seq ?_
    refine WC_region ?_
    refine WL_op rfl (Ex_assign rfl) ?_
    refine WL_nil ?_
    refine WQ_next ?_
    refine WC_ret ?_
    refine WQ_ret ?_
    refine P_end1 rfl rfl ?_
    have h9 : s = ⟨#[]⟩ := ByteArray.ext (Array.eq_empty_of_size_eq_zero (by show s.size = 0; omega)); rw [h9]
  · intro c1
    try (first | replace c1 := of_decide_eq_false c1 | replace c1 := of_nd_false c1)
    have hne : s.size ≠ 0 := by omega
    refine WC_skip ?_
    refine WQ_next ?_
    refine WC_seq ?_
    refine WC_region ?_
    refine WL_op rfl (Ex_move rfl) ?_
    refine WL_op rfl (Ex_lenS (tstr rfl) rfl) ?_
    refine WL_make rfl (ta rfl) rfl rfl (by omega) (fun b M hM => ?_)
    refine WL_op rfl (Ex_assign rfl) ?_
    refine WL_nil ?_
    refine WQ_next ?_
    refine WC_seq ?_
    refine WC_region ?_
    refine WL_op rfl (Ex_move rfl) ?_
    refine WL_op rfl (Ex_move rfl) ?_
    refine WL_copyS rfl (ta rfl) rfl rfl hM ?_
    refine WL_nil ?_
    refine WQ_next ?_
    refine WC_seq ?_
    refine WC_region ?_
    refine WL_op rfl (Ex_move rfl) ?_
    refine WL_op rfl (Ex_at (i := 0) (ts rfl) rfl rfl (by omega)) ?_
    refine WL_op rfl (Ex_move rfl) ?_
    refine WL_op rfl (Ex_lenL (ts rfl) rfl) ?_
    refine WL_uString rfl t1p c1u8 rfl rfl hne (by omega) ?_
    refine WL_op rfl (Ex_assign rfl) ?_
    refine WL_nil ?_
    refine WQ_next ?_
    refine WC_ret ?_
    refine P_end1 rfl rfl ?_
    rfl
theorem clone_any (s : ByteArray) (w : World) (hs : s.size ≤ 4000000) : Pure Tryz.prog 131 #[.string s] w (.string s) := by
  refine opens (args := [.string s]) Tryz.func131 rfl Tryz.ntmps131 ?_
  refine WC_seq ?_
  refine WC_region ?_
  refine WL_op rfl (Ex_assign rfl) ?_
  refine WL_nil ?_
  refine WQ_next ?_
  refine WC_seq ?_
  refine WC_region ?_
  refine WL_op rfl (Ex_move rfl) ?_
  refine WL_call fn242 rfl rfl (fun w _ => litClone_any s w hs) ?_
  refine WL_op rfl (Ex_assign rfl) ?_
  refine WL_nil ?_
  refine WQ_next ?_
  refine WC_ret ?_
  refine P_end1 rfl rfl ?_
  rfl
theorem rdName_any (U : World) (b : Nat) : RdP 113 #[.pointer (some ⟨b, 0, none⟩)] U b pName repS := by
  intro r hrl w h0
  have hS := Goes.first (some r) pName
  refine opensF (h0.sat) (args := [.pointer (some ⟨b, 0, none⟩)]) Tryz.func113 rfl Tryz.ntmps113 ?_
  refine WC_seq ?_
  refine WC_region ?_
  refine WL_op rfl (Ex_assign rfl) ?_
  refine WL_nil ?_
  refine WQ_next ?_
  refine WC_seq ?_
  refine WC_region ?_
  refine WL_op rfl (Ex_move rfl) ?_
  refine WL_op rfl (Ex_move rfl) ?_
  refine WL_callR0 fn115 rfl rfl 0 rfl h0.base (Rc_F h0) (rdNbyte_any U b r hrl) (fun hm => WD_pan (WD_end (rd_no hS hm))) ?_
  rintro v cs' ⟨R', n, r1, hp, rfl, hr1, rfl, hn, -⟩
  replace hS := rd_next hS hp
  rw [toI_small (show n < 9223372036854775808 by omega)]
  refine WL_callR0 fn112 rfl rfl 0 rfl h0.base (Rc_F h0) (rdTake_any U b n r1 (by omega)) (fun hm => WD_pan (WD_end (rd_no hS hm))) ?_
  rintro v cs' ⟨R', l, r2, hp2, rfl, hr2, rfl, -⟩
  replace hS := rd_next hS hp2
  have hl2 := (pTake_some hp2).1
  have hll : (⟨l.toArray⟩ : ByteArray).size ≤ 255 := by rw [ba_size, hl2, List.length_take]; omega
  refine WL_call fn131 rfl rfl (fun w _ => clone_any _ w (by omega)) ?_
  refine WL_op rfl (Ex_assign rfl) ?_
  refine WL_nil ?_
  refine WQ_next ?_
  refine WC_ret ?_
  refine Rc_end1 rfl rfl 0 rfl ?_
  exact ⟨_, r2, rd_done hS, rfl, by omega, rfl, hll, rfl⟩
theorem rdTyp_any (U : World) (b : Nat) : RdP 182 #[.pointer (some ⟨b, 0, none⟩)] U b (pTy false) repT := by
  intro r hrl w h0
  have hS := Goes.first (some r) (pTy false)
  refine opensF (h0.sat) (args := [.pointer (some ⟨b, 0, none⟩)]) Tryz.func182 rfl Tryz.ntmps182 ?_
  refine WC_seq ?_
  refine WC_region ?_
  refine WL_alloc rfl (tz rfl) ?_
  intro b1 hb1
  refine WL_nil ?_
  refine WQ_next ?_
  refine WC_seq ?_
  refine WC_region ?_
  refine WL_op rfl (Ex_move rfl) ?_
  refine WL_callR0 fn115 rfl rfl 1 rfl h0.base (Rc_F h0) (rdByte_any U b r hrl) (fun hm => WD_pan (WD_end (rd_no hS hm))) ?_
  rintro v cs' ⟨R', k, r1, hp, rfl, hr1, rfl, hk, -, -⟩
  replace hS := rd_next hS hp
  rw [if_neg (by simp)] at hS
  refine WL_op rfl (Ex_build (tb rfl) rfl rfl) ?_
  refine WL_alloc rfl (tz rfl) ?_
  intro b2 hb2
  refine WL_storeN (tn rfl) rfl rfl 0 rfl rfl rfl rfl ?_
  refine WL_nil ?_
  refine WQ_next ?_
  refine WC_seq ?_
  refine WC_seq ?_
  refine WC_region ?_
  refine WL_op rfl (Ex_field (ff rfl) rfl) ?_
  refine WL_op rfl (Ex_load (t1 rfl) rfl (cell_mine 0 rfl rfl)) ?_
  refine WL_op rfl (Ex_eql rfl rfl) ?_
  refine WL_nil ?_
  refine WQ_next ?_
  refine WC_if rfl ?_ ?_  -- cond 1 read.go:73
  · intro c1
    try (first | replace c1 := of_decide_eq_true c1 | replace c1 := of_nd_true c1)
    rw [if_pos c1] at hS
    refine WC_region ?_
    refine WL_op rfl (Ex_move rfl) ?_
    refine WL_callR0 fn113 rfl rfl 2 rfl h0.base (Rc_F h0) (rdName_any U b r1 (by omega)) (fun hm => WD_pan (WD_end (rd_no hS hm))) ?_
    rintro v cs' ⟨R', c, r2, hp2, rfl, hr2, rfl, hc, -⟩
    replace hS := rd_next hS hp2
    refine WL_op rfl (Ex_field (ff rfl) rfl) ?_
    refine WL_store (t1 rfl) rfl rfl 0 rfl rfl rfl rfl ?_
    refine WL_nil ?_
    refine WQ_next ?_
    refine WC_seq ?_
    refine WC_region ?_
    refine WL_op rfl (Ex_loadM (tn rfl) rfl 0 rfl rfl) ?_
    refine WL_storeN (tn rfl) rfl rfl 1 rfl rfl rfl rfl ?_
    refine WL_nil ?_
    refine WQ_next ?_
    refine WC_ret ?_
    refine Rc_endR (Res_1 rfl (RV_cellN (tn rfl) rfl (row_whole 1 rfl) rfl)) 2 rfl ?_
    first | exact ⟨⟨k, c⟩, r2, rd_done hS, rfl, by omega, rfl, ⟨hk, strOk_255 hc⟩, rfl⟩ | exact ⟨⟨k, mt⟩, r1, rd_done hS, rfl, hr1, rfl, ⟨hk, strOk_mt⟩, rfl⟩
  · intro c1
    try (first | replace c1 := of_decide_eq_false c1 | replace c1 := of_nd_false c1)
    rw [if_neg c1] at hS
    refine WC_skip ?_
    refine WQ_next ?_
    refine WC_seq ?_
    refine WC_region ?_
    refine WL_op rfl (Ex_loadM (tn rfl) rfl 0 rfl rfl) ?_
    refine WL_storeN (tn rfl) rfl rfl 1 rfl rfl rfl rfl ?_
    refine WL_nil ?_
    refine WQ_next ?_
    refine WC_ret ?_
    refine Rc_endR (Res_1 rfl (RV_cellN (tn rfl) rfl (row_whole 1 rfl) rfl)) 2 rfl ?_
    first | exact ⟨⟨k, c⟩, r2, rd_done hS, rfl, by omega, rfl, ⟨hk, strOk_255 hc⟩, rfl⟩ | exact ⟨⟨k, mt⟩, r1, rd_done hS, rfl, hr1, rfl, ⟨hk, strOk_mt⟩, rfl⟩
end Go.Proofs.YtpofmnfkdkmieaaGreat
namespace Go.Proofs.YtpofmnfkdkmieaaGreat
open Go.RowKit At E

def fdS (s : ByteArray) (f : Fld) : ByteArray := s ++ nameS f.name ++ flagS f.stat ++ oneTypeS f.ty
def topS (c : Cl) : ByteArray := ⟨#[67, 76, 65, 83]⟩ ++ nameS c.name ++ nameS c.super ++ lowS (c.fields.length : Nat) 1
def fdsS (c : Cl) : ByteArray := c.fields.foldl fdS (topS c)
def bytesS (c : Cl) : ByteArray := c.methods.foldl (fun s m => s ++ methodS m) (fdsS c ++ lowS (c.methods.length : Nat) 1)
structure ClSmall (c : Cl) : Prop where
  nm : c.name.size ≤ 12 ∧ c.super.size ≤ 12
  fl : c.fields.length ≤ 20
  ml : c.methods.length ≤ 20
  fi : ∀ f ∈ c.fields, f.name.size ≤ 12 ∧ f.ty.cls.size ≤ 12
  mi : ∀ m ∈ c.methods, MeSmall m
theorem isClassB_small {c : Cl} (h : isClassB c = true) : ClSmall c := by
  unfold isClassB at h
  simp only [Bool.and_eq_true, decide_eq_true_eq] at h
  obtain ⟨⟨⟨⟨⟨h1, h2⟩, h3⟩, h4⟩, h5⟩, h6⟩ := h
  refine ⟨⟨isNameB_size h1, isNameB_size h2⟩, by omega, by omega, fun f hf => ?_, fun m hm => ?_⟩
  · obtain ⟨k, hk⟩ := List.mem_iff_getElem?.1 hf
    have hkl : k < c.fields.length := by
      rcases Nat.lt_or_ge k c.fields.length with h' | h'
      · exact h'
      · rw [List.getElem?_eq_none h'] at hk; cases hk
    have := List.all_eq_true.1 h5 k (List.mem_range.2 hkl)
    unfold fdAt at this
    rw [hk] at this
    simp only [Bool.and_eq_true] at this
    exact ⟨isNameB_size this.1.1, isTypeB_size this.1.2⟩
  · obtain ⟨k, hk⟩ := List.mem_iff_getElem?.1 hm
    have hkl : k < c.methods.length := by
      rcases Nat.lt_or_ge k c.methods.length with h' | h'
      · exact h'
      · rw [List.getElem?_eq_none h'] at hk; cases hk
    have := List.all_eq_true.1 h6 k (List.mem_range.2 hkl)
    unfold meAt at this
    rw [hk] at this
    simp only [Bool.and_eq_true] at this
    exact isMethodB_small this.1
theorem topS_le {c : Cl} (h : ClSmall c) : (topS c).size ≤ 40 := by
  have := h.nm
  unfold topS
  have e : (⟨#[67, 76, 65, 83]⟩ : ByteArray).size = 4 := rfl
  simp only [ByteArray.size_append, lowS_size, nameS_size, e]; omega
theorem fdsS_le {c : Cl} (h : ClSmall c) (k : Nat) : ((c.fields.take k).foldl fdS (topS c)).size ≤ 1000 := by
  have := foldl_le fdS 30 (c.fields.take k) (topS c) (fun s f hf => by have h1 := h.fi f (List.mem_of_mem_take hf); have h2 := oneTypeS_le f.ty; simp only [fdS, ByteArray.size_append, nameS_size, flagS_size]; omega)
  have h1 := topS_le h
  have h2 := h.fl
  have h3 : (c.fields.take k).length ≤ 20 := by rw [List.length_take]; omega
  have h4 : (c.fields.take k).length * 30 ≤ 20 * 30 := Nat.mul_le_mul_right _ h3
  omega
theorem methodS_le {m : Me} (h : MeSmall m) : (methodS m).size ≤ 90000 := by
  have := methodTo_le h m.frames.length
  rw [List.take_length] at this; exact this
theorem bytesTo_le {c : Cl} (h : ClSmall c) (k : Nat) : ((c.methods.take k).foldl (fun s m => s ++ methodS m) (fdsS c ++ lowS (c.methods.length : Nat) 1)).size ≤ 2000000 := by
  have := foldl_le (fun s m => s ++ methodS m) 90000 (c.methods.take k) (fdsS c ++ lowS (c.methods.length : Nat) 1) (fun s m hm => by have h1 := methodS_le (h.mi m (List.mem_of_mem_take hm)); simp only [ByteArray.size_append]; omega)
  have h1 := fdsS_le h c.fields.length
  rw [List.take_length] at h1
  have h5 : (fdsS c).size ≤ 1000 := h1
  have h2 := h.ml
  have h3 : (c.methods.take k).length ≤ 20 := by rw [List.length_take]; omega
  have h4 : (c.methods.take k).length * 90000 ≤ 20 * 90000 := Nat.mul_le_mul_right _ h3
  rw [ByteArray.size_append, lowS_size] at this
  omega

end Go.Proofs.YtpofmnfkdkmieaaGreat
