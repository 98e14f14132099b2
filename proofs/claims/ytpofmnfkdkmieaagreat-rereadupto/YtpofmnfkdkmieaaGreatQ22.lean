/- What is proved here: what is read off the front of bytes is read off the front of more bytes, too; so one byte less than a class's is no class. Plain functions on lists; nothing of the program. -/
import Derived.Test.YtpofmnfkdkmieaaGreatQ09
import Derived.Test.YtpofmnfkdkmieaaGreatQ10
import Derived.Test.YtpofmnfkdkmieaaGreatQ06
set_option linter.unusedVariables false
set_option linter.unusedSimpArgs false
namespace Go.Proofs.YtpofmnfkdkmieaaGreat.At

def Mono {α : Type} (p : Ps α) : Prop := ∀ s x r u, p s = some (x, r) → p (s ++ u) = some (x, r ++ u)
section
variable {α β : Type}
theorem mono_ret (x : α) : Mono (pRet x) := fun s y r u h => by
  simp only [pRet, Option.some.injEq, Prod.mk.injEq] at h ⊢
  exact ⟨h.1, by rw [h.2]⟩
theorem mono_no : Mono (pNo : Ps α) := fun s y r u h => by cases h
theorem mono_then {p : Ps α} {f : α → Ps β} (hp : Mono p) (hf : ∀ x, Mono (f x)) : Mono (pThen p f) := fun s y r u h => by
  obtain ⟨x, s', h1, h2⟩ := pThen_some.1 h
  exact pThen_some.2 ⟨x, s' ++ u, hp s x s' u h1, hf x s' y r u h2⟩
theorem mono_if {c : Prop} [Decidable c] {p q : Ps α} (hp : Mono p) (hq : Mono q) : Mono (if c then p else q) := by split <;> assumption
theorem mono_take (n : Nat) : Mono (pTake n) := fun s y r u h => by
  unfold pTake at h ⊢
  split at h
  · rename_i hn
    simp only [Option.some.injEq, Prod.mk.injEq] at h
    rw [if_pos (by rw [List.length_append]; omega), List.take_append_of_le_length hn, List.drop_append_of_le_length hn, h.1, h.2]
  · cases h
theorem mono_num (k : Nat) : Mono (pNum k) := mono_then (mono_take k) fun _ => mono_ret _
theorem mono_int (k : Nat) : Mono (pInt k) := mono_then (mono_num k) fun _ => mono_ret _
theorem mono_name : Mono pName := mono_then (mono_num 1) fun _ => mono_then (mono_take _) fun _ => mono_ret _
theorem mono_flag : Mono pFlag := mono_then (mono_num 1) fun _ => mono_if mono_no (mono_ret _)
theorem mono_ty (chk : Bool) : Mono (pTy chk) := mono_then (mono_int 1) fun _ => mono_if mono_no (mono_if (mono_then mono_name fun _ => mono_ret _) (mono_ret _))
theorem mono_many {p : Ps α} (hp : Mono p) : ∀ n, Mono (pMany p n)
  | 0 => mono_ret _
  | n + 1 => mono_then hp fun _ => mono_then (mono_many hp n) fun _ => mono_ret _
theorem mono_list {lim : Bool} {k most : Nat} {p : Ps α} (hp : Mono p) : Mono (pList lim k most p) := mono_then (mono_num k) fun n => mono_if mono_no (mono_many hp n)
end
theorem mono_ins (chk lim : Bool) (op : Int) : Mono (insP chk lim op) := by
  unfold insP
  refine mono_if (mono_then (mono_int 8) fun _ => mono_ret _) (mono_if (mono_then (mono_int 1) fun _ => mono_ret _) (mono_if (mono_then (mono_int 2) fun _ => mono_ret _) (mono_if (mono_then mono_name fun _ => mono_ret _) (mono_if ?_ (mono_if ?_ (mono_if mono_no (mono_ret _)))))))
  · exact mono_then mono_name fun _ => mono_then mono_name fun _ => mono_then (mono_ty chk) fun _ => mono_ret _
  · exact mono_then mono_name fun _ => mono_then mono_name fun _ => mono_then (mono_list (mono_ty chk)) fun _ => mono_then (mono_ty chk) fun _ => mono_ret _
theorem mono_pIns (chk lim : Bool) : Mono (pIns chk lim) := mono_then (mono_int 1) fun _ => mono_ins chk lim _
theorem mono_hd : Mono pHd := mono_then (mono_int 2) fun _ => mono_then (mono_int 2) fun _ => mono_then (mono_int 2) fun _ => mono_then mono_name fun _ => mono_ret _
theorem mono_fr (chk lim : Bool) : Mono (pFr chk lim) := mono_then (mono_int 2) fun _ => mono_then (mono_list (mono_ty chk)) fun _ => mono_then (mono_list (mono_ty chk)) fun _ => mono_ret _
theorem mono_fd (chk : Bool) : Mono (pFd chk) := mono_then mono_name fun _ => mono_then mono_flag fun _ => mono_then (mono_ty chk) fun _ => mono_ret _
theorem mono_me (chk lim : Bool) : Mono (pMe chk lim) := mono_then mono_name fun _ => mono_then mono_flag fun _ => mono_then (mono_list (mono_ty chk)) fun _ => mono_then (mono_ty chk) fun _ => mono_then (mono_int 1) fun _ => mono_then (mono_int 1) fun _ =>
  mono_then (mono_list (mono_pIns chk lim)) fun _ => mono_then (mono_list mono_hd) fun _ => mono_then (mono_list (mono_fr chk lim)) fun _ => mono_ret _
theorem mono_cl (chk lim : Bool) : Mono (pCl chk lim) := mono_then mono_name fun _ => mono_then mono_name fun _ => mono_then (mono_list (mono_fd chk)) fun _ => mono_then (mono_list (mono_me chk lim)) fun _ => mono_ret _
theorem decL_more {chk lim : Bool} {s u : List UInt8} {c : Cl} (h : decL chk lim s = some c) (hu : u ≠ []) : decL chk lim (s ++ u) = none := by
  unfold decL at h ⊢
  split at h
  · rename_i h4
    split at h
    · rename_i c' r hc
      split at h
      · rename_i hr
        subst hr
        have hl : 4 ≤ s.length := by
          have := congrArg List.length h4
          rw [List.length_take] at this
          have e : clas.length = 4 := rfl
          omega
        have h1 := mono_cl chk lim _ _ _ u hc
        rw [List.take_append_of_le_length hl, if_pos h4, List.drop_append_of_le_length hl, h1]
        simp [hu]
      · cases h
    · cases h
  · cases h
theorem decL_less {chk lim : Bool} {s u : List UInt8} {c : Cl} (h : decL chk lim (s ++ u) = some c) (hu : u ≠ []) : decL chk lim s = none := by
  cases hs : decL chk lim s with
  | none => rfl
  | some c' => rw [decL_more hs hu] at h; cases h
end Go.Proofs.YtpofmnfkdkmieaaGreat.At
namespace Go.Proofs.YtpofmnfkdkmieaaGreat.At
open Go

theorem leN_lowL : ∀ (k u : Nat), leN (lowL u k) = u % 256 ^ k
  | 0, u => by simp [lowL, leN, Nat.mod_one]
  | k + 1, u => by
    have e : 256 ^ (k + 1) = 256 * 256 ^ k := Nat.pow_succ'
    rw [lowL, leN, leN_lowL k, UInt8.toNat_ofNat', e, Nat.mod_mul]
    omega
theorem lowL_leN : ∀ (l : List UInt8), lowL (leN l) l.length = l
  | [] => rfl
  | b :: r => by
    have hb : b.toNat < 256 := b.toNat_lt
    rw [leN, List.length_cons, lowL]
    have e1 : (b.toNat + 256 * leN r) % 256 = b.toNat := by omega
    have e2 : (b.toNat + 256 * leN r) / 256 = leN r := by omega
    rw [e1, e2, lowL_leN r]
    congr 1
    exact UInt8.toNat.inj (by simp)
theorem pTake_wr (l r : List UInt8) : pTake l.length (l ++ r) = some (l, r) := by unfold pTake; simp
theorem pTake_rd {n : Nat} {s l r : List UInt8} (h : pTake n s = some (l, r)) : s = l ++ r ∧ l.length = n := by
  unfold pTake at h
  split at h
  · rename_i hn
    simp only [Option.some.injEq, Prod.mk.injEq] at h
    obtain ⟨rfl, rfl⟩ := h
    exact ⟨(List.take_append_drop n s).symm, by rw [List.length_take]; omega⟩
  · cases h
theorem pNum_wr (k u : Nat) (r : List UInt8) (h : u < 256 ^ k) : pNum k (lowL u k ++ r) = some (u, r) := by
  have h1 := pTake_wr (lowL u k) r
  rw [lowL_length] at h1
  unfold pNum pThen
  rw [h1]
  simp only [pRet]
  rw [leN_lowL, Nat.mod_eq_of_lt h]
theorem pNum_rd {k u : Nat} {s r : List UInt8} (h : pNum k s = some (u, r)) : s = lowL u k ++ r ∧ u < 256 ^ k := by
  obtain ⟨l, s', h1, h2⟩ := pThen_some.1 h
  obtain ⟨rfl, hl⟩ := pTake_rd h1
  simp only [pRet, Option.some.injEq, Prod.mk.injEq] at h2
  obtain ⟨rfl, rfl⟩ := h2
  rw [← hl]
  refine ⟨by rw [lowL_leN], ?_⟩
  have h3 := leN_lowL l.length (leN l)
  rw [lowL_leN] at h3
  rw [h3]
  exact Nat.mod_lt _ (Nat.pow_pos (by omega))
structure Cod {α : Type} (p : Ps α) (w : α → List UInt8) (g : α → Prop) : Prop where
  wr : ∀ x r, g x → p (w x ++ r) = some (x, r)
  rd : ∀ s x r, p s = some (x, r) → g x → s = w x ++ r
def wNum (k : Nat) (n : Int) : List UInt8 := lowL (u64 n) k
theorem u64_nat {n : Int} (h : 0 ≤ n) (h' : n < 18446744073709551616) : (u64 n : Int) = n := by rw [← u64_of, IntKind.wrap_u64]; omega
theorem cod_int (k M : Nat) (hM : 256 ^ k = M) (hk : M ≤ 65536) : Cod (pInt k) (wNum k) (fun n => 0 ≤ n ∧ n < (M : Int)) := by
  refine ⟨fun n r h => ?_, fun s n r h hg => ?_⟩
  · have e := u64_nat h.1 (by have := h.2; omega)
    have hl : u64 n < 256 ^ k := by rw [hM]; have := h.2; omega
    unfold pInt pThen wNum
    rw [pNum_wr k _ r hl]
    simp only [pRet, toI]
    rw [if_pos (by omega), e]
  · obtain ⟨u, s', h1, h2⟩ := pThen_some.1 h
    simp only [pRet, Option.some.injEq, Prod.mk.injEq] at h2
    obtain ⟨rfl, rfl⟩ := h2
    obtain ⟨rfl, hu⟩ := pNum_rd h1
    rw [hM] at hu
    have e : toI u = (u : Int) := by unfold toI; rw [if_pos (by omega)]
    rw [e]
    unfold wNum
    have := u64_nat (n := (u : Int)) (by omega) (by omega)
    rw [show u64 (u : Int) = u by omega]
theorem cod_int1 : Cod (pInt 1) (wNum 1) (fun n => 0 ≤ n ∧ n < 256) := cod_int 1 256 rfl (by omega)
theorem cod_int2 : Cod (pInt 2) (wNum 2) (fun n => 0 ≤ n ∧ n < 65536) := cod_int 2 65536 rfl (by omega)
theorem cod_int8 : Cod (pInt 8) (wNum 8) (fun n => -9223372036854775808 ≤ n ∧ n < 9223372036854775808) := by
  have hM : (256 : Nat) ^ 8 = 18446744073709551616 := rfl
  refine ⟨fun n r h => ?_, fun s n r h hg => ?_⟩
  · have e : (u64 n : Int) = n % 18446744073709551616 := by rw [← u64_of, IntKind.wrap_u64]
    have hl : u64 n < 256 ^ 8 := by rw [hM]; exact u64_lt n
    unfold pInt pThen wNum
    rw [pNum_wr 8 _ r hl]
    simp only [pRet, toI]
    congr 2
    have h1 := h.1; have h2 := h.2
    split <;> omega
  · obtain ⟨u, s', h1, h2⟩ := pThen_some.1 h
    simp only [pRet, Option.some.injEq, Prod.mk.injEq] at h2
    obtain ⟨rfl, rfl⟩ := h2
    obtain ⟨rfl, hu⟩ := pNum_rd h1
    rw [hM] at hu
    have e : (u64 (toI u) : Int) = toI u % 18446744073709551616 := by rw [← u64_of, IntKind.wrap_u64]
    unfold wNum
    have : u64 (toI u) = u := by
      unfold toI at e ⊢
      split at e
      · rename_i hx; rw [if_pos hx]; omega
      · rename_i hx; rw [if_neg hx]; omega
    rw [this]
def wName (s : ByteArray) : List UInt8 := wNum 1 (s.size : Nat) ++ s.data.toList
theorem cod_name : Cod pName wName (fun s => s.size < 256) := by
  refine ⟨fun s r h => ?_, fun s x r h hg => ?_⟩
  · have e : u64 ((s.size : Nat) : Int) = s.size := by have := u64_nat (n := ((s.size : Nat) : Int)) (by omega) (by omega); omega
    unfold pName wName wNum
    rw [e, List.append_assoc]
    refine pThen_some.2 ⟨s.size, _, pNum_wr 1 _ _ (by omega), pThen_some.2 ⟨s.data.toList, r, ?_, ?_⟩⟩
    · have := pTake_wr s.data.toList r
      rw [Array.length_toList] at this
      exact this
    · simp only [pRet]
  · obtain ⟨n, s1, h1, h2⟩ := pThen_some.1 h
    obtain ⟨l, s2, h3, h4⟩ := pThen_some.1 h2
    simp only [pRet, Option.some.injEq, Prod.mk.injEq] at h4
    obtain ⟨rfl, rfl⟩ := h4
    obtain ⟨rfl, hn⟩ := pNum_rd h1
    obtain ⟨rfl, hl⟩ := pTake_rd h3
    have hs : (⟨l.toArray⟩ : ByteArray).size = n := by show l.toArray.size = n; rw [List.size_toArray, hl]
    have e : u64 ((n : Nat) : Int) = n := by have := u64_nat (n := ((n : Nat) : Int)) (by omega) (by omega); omega
    unfold wName wNum
    rw [hs, e, List.append_assoc]
end Go.Proofs.YtpofmnfkdkmieaaGreat.At
namespace Go.Proofs.YtpofmnfkdkmieaaGreat.At
open Go

theorem u64_small (n : Nat) (h : n < 65536) : u64 ((n : Nat) : Int) = n := by have := u64_nat (n := ((n : Nat) : Int)) (by omega) (by omega); omega
def wFlag (b : Bool) : List UInt8 := if b then wNum 1 1 else wNum 1 0
theorem cod_flag : Cod pFlag wFlag (fun _ => True) := by
  have e1 : wNum 1 1 = lowL 1 1 := by unfold wNum; rw [show u64 1 = 1 from u64_small 1 (by omega)]
  have e0 : wNum 1 0 = lowL 0 1 := by unfold wNum; rw [show u64 0 = 0 from u64_small 0 (by omega)]
  refine ⟨fun b r _ => ?_, fun s b r h _ => ?_⟩
  · cases b with
    | true =>
      show pFlag (wNum 1 1 ++ r) = _
      rw [e1]
      exact pThen_some.2 ⟨1, r, pNum_wr 1 1 r (by omega), rfl⟩
    | false =>
      show pFlag (wNum 1 0 ++ r) = _
      rw [e0]
      exact pThen_some.2 ⟨0, r, pNum_wr 1 0 r (by omega), rfl⟩
  · obtain ⟨n, s1, h1, h2⟩ := pThen_some.1 h
    obtain ⟨rfl, -⟩ := pNum_rd h1
    split at h2
    · cases h2
    · rename_i hn
      simp only [pRet, Option.some.injEq, Prod.mk.injEq] at h2
      obtain ⟨rfl, rfl⟩ := h2
      rcases (show n = 0 ∨ n = 1 by omega) with rfl | rfl
      · show lowL 0 1 ++ s1 = wNum 1 0 ++ s1
        rw [e0]
      · show lowL 1 1 ++ s1 = wNum 1 1 ++ s1
        rw [e1]
def wTy (t : Ty) : List UInt8 := if t.kind = 3 then wNum 1 3 ++ wName t.cls else wNum 1 t.kind
structure TyG (t : Ty) : Prop where
  k : 0 ≤ t.kind ∧ t.kind ≤ 5
  c : t.kind = 3 → t.cls.size < 256
  n : ¬ t.kind = 3 → t.cls = mt
theorem cod_ty (chk : Bool) : Cod (pTy chk) wTy TyG := by
  refine ⟨fun t r h => ?_, fun s t r h hg => ?_⟩
  · obtain ⟨k, c⟩ := t
    have h1 := h.k; have h2 := h.c; have h3 := h.n
    dsimp only at h1 h2 h3
    have hno : ¬ (chk && decide (5 < k)) = true := by
      intro hx
      rw [Bool.and_eq_true, decide_eq_true_eq] at hx
      omega
    unfold wTy
    dsimp only
    by_cases hk : k = 3
    · subst hk
      rw [if_pos rfl, List.append_assoc]
      refine pThen_some.2 ⟨3, _, cod_int1.wr 3 _ ⟨by omega, by omega⟩, ?_⟩
      rw [if_neg hno, if_pos rfl]
      exact pThen_some.2 ⟨c, r, cod_name.wr c r (h2 rfl), rfl⟩
    · rw [if_neg hk]
      refine pThen_some.2 ⟨k, _, cod_int1.wr k _ ⟨by omega, by omega⟩, ?_⟩
      rw [if_neg hno, if_neg hk, h3 hk]
      rfl
  · obtain ⟨k, s1, h1, h2⟩ := pThen_some.1 h
    split at h2
    · cases h2
    · split at h2
      · rename_i hk
        subst hk
        obtain ⟨c, s2, h3, h4⟩ := pThen_some.1 h2
        simp only [pRet, Option.some.injEq, Prod.mk.injEq] at h4
        obtain ⟨rfl, rfl⟩ := h4
        unfold wTy
        rw [if_pos rfl, List.append_assoc, ← cod_name.rd _ _ _ h3 (hg.c rfl)]
        exact cod_int1.rd _ _ _ h1 ⟨by omega, by omega⟩
      · rename_i hk
        simp only [pRet, Option.some.injEq, Prod.mk.injEq] at h2
        obtain ⟨rfl, rfl⟩ := h2
        unfold wTy
        rw [if_neg hk]
        have h9 : 0 ≤ k ∧ k ≤ 5 := hg.k
        exact cod_int1.rd _ _ _ h1 ⟨h9.1, show k < 256 by omega⟩
section
variable {α : Type} {p : Ps α} {w : α → List UInt8} {g : α → Prop}
theorem many_wr (hp : Cod p w g) : ∀ (l : List α) (r : List UInt8), (∀ x ∈ l, g x) → pMany p l.length (l.flatMap w ++ r) = some (l, r)
  | [], r, _ => rfl
  | x :: l, r, h => by
    rw [List.flatMap_cons, List.append_assoc]
    exact pThen_some.2 ⟨x, _, hp.wr x _ (h x List.mem_cons_self), pThen_some.2 ⟨l, r, many_wr hp l r (fun y hy => h y (List.mem_cons_of_mem _ hy)), rfl⟩⟩
theorem many_rd (hp : Cod p w g) : ∀ (n : Nat) (s : List UInt8) (l : List α) (r : List UInt8), pMany p n s = some (l, r) → (∀ x ∈ l, g x) → s = l.flatMap w ++ r ∧ l.length = n
  | 0, s, l, r, h, _ => by
    simp only [pMany, pRet, Option.some.injEq, Prod.mk.injEq] at h
    obtain ⟨rfl, rfl⟩ := h
    exact ⟨rfl, rfl⟩
  | n + 1, s, l, r, h, hg => by
    obtain ⟨x, s1, h1, h2⟩ := pThen_some.1 h
    obtain ⟨l', s2, h3, h4⟩ := pThen_some.1 h2
    simp only [pRet, Option.some.injEq, Prod.mk.injEq] at h4
    obtain ⟨rfl, rfl⟩ := h4
    obtain ⟨e, hn⟩ := many_rd hp n s1 l' s2 h3 (fun y hy => hg y (List.mem_cons_of_mem _ hy))
    refine ⟨?_, by rw [List.length_cons, hn]⟩
    rw [List.flatMap_cons, List.append_assoc, ← e]
    exact hp.rd _ _ _ h1 (hg x List.mem_cons_self)
def wList (k : Nat) (w : α → List UInt8) (l : List α) : List UInt8 := wNum k (l.length : Nat) ++ l.flatMap w
theorem cod_list {lim : Bool} {k most M : Nat} (hM : 256 ^ k = M) (hk : M ≤ 65536) (hm : most < M) (hp : Cod p w g) : Cod (pList lim k most p) (wList k w) (fun l => l.length ≤ most ∧ ∀ x ∈ l, g x) := by
  refine ⟨fun l r h => ?_, fun s l r h hg => ?_⟩
  · unfold wList wNum
    rw [u64_small _ (by omega), List.append_assoc]
    refine pThen_some.2 ⟨l.length, _, pNum_wr k _ _ (by omega), ?_⟩
    rw [if_neg (by intro hx; rw [Bool.and_eq_true, decide_eq_true_eq] at hx; omega)]
    exact many_wr hp l r h.2
  · obtain ⟨n, s1, h1, h2⟩ := pThen_some.1 h
    split at h2
    · cases h2
    · obtain ⟨rfl, hn⟩ := pNum_rd h1
      obtain ⟨rfl, hl⟩ := many_rd hp n s1 l r h2 hg.2
      unfold wList wNum
      rw [hl, u64_small _ (by omega), List.append_assoc]
end
end Go.Proofs.YtpofmnfkdkmieaaGreat.At
namespace Go.Proofs.YtpofmnfkdkmieaaGreat.At
open Go

theorem ret_is {α : Type} {x y : α} {s r : List UInt8} (h : pRet x s = some (y, r)) : x = y ∧ s = r := by
  simpa only [pRet, Option.some.injEq, Prod.mk.injEq] using h
abbrev In2 (n : Int) : Prop := 0 ≤ n ∧ n < 65536
abbrev In1 (n : Int) : Prop := 0 ≤ n ∧ n < 256
def wHd (h : Hd) : List UInt8 := wNum 2 h.lo ++ (wNum 2 h.hi ++ (wNum 2 h.pos ++ wName h.cls))
structure HdG (h : Hd) : Prop where
  a : In2 h.lo
  b : In2 h.hi
  c : In2 h.pos
  d : h.cls.size < 256
theorem cod_hd : Cod pHd wHd HdG := by
  refine ⟨fun x r g => ?_, fun s x r h g => ?_⟩
  · unfold wHd
    simp only [List.append_assoc]
    exact pThen_some.2 ⟨_, _, cod_int2.wr _ _ g.a, pThen_some.2 ⟨_, _, cod_int2.wr _ _ g.b, pThen_some.2 ⟨_, _, cod_int2.wr _ _ g.c, pThen_some.2 ⟨_, _, cod_name.wr _ _ g.d, rfl⟩⟩⟩⟩
  · obtain ⟨a, s1, h1, h⟩ := pThen_some.1 h
    obtain ⟨b, s2, h2, h⟩ := pThen_some.1 h
    obtain ⟨c, s3, h3, h⟩ := pThen_some.1 h
    obtain ⟨d, s4, h4, h⟩ := pThen_some.1 h
    obtain ⟨rfl, rfl⟩ := ret_is h
    rw [cod_int2.rd _ _ _ h1 g.a, cod_int2.rd _ _ _ h2 g.b, cod_int2.rd _ _ _ h3 g.c, cod_name.rd _ _ _ h4 g.d]
    simp only [wHd, List.append_assoc]
abbrev TysG (most : Nat) (l : List Ty) : Prop := l.length ≤ most ∧ ∀ x ∈ l, TyG x
theorem cod_tys (chk lim : Bool) (most : Nat) (h : most < 256) : Cod (pList lim 1 most (pTy chk)) (wList 1 wTy) (TysG most) := cod_list (M := 256) rfl (by omega) h (cod_ty chk)
def wFr (f : Fr) : List UInt8 := wNum 2 f.pos ++ (wList 1 wTy f.locals ++ wList 1 wTy f.stack)
structure FrG (f : Fr) : Prop where
  a : In2 f.pos
  b : TysG 20 f.locals
  c : TysG 20 f.stack
theorem cod_fr (chk lim : Bool) : Cod (pFr chk lim) wFr FrG := by
  refine ⟨fun x r g => ?_, fun s x r h g => ?_⟩
  · unfold wFr
    simp only [List.append_assoc]
    exact pThen_some.2 ⟨_, _, cod_int2.wr _ _ g.a, pThen_some.2 ⟨_, _, (cod_tys chk lim 20 (by omega)).wr _ _ g.b, pThen_some.2 ⟨_, _, (cod_tys chk lim 20 (by omega)).wr _ _ g.c, rfl⟩⟩⟩
  · obtain ⟨a, s1, h1, h⟩ := pThen_some.1 h
    obtain ⟨b, s2, h2, h⟩ := pThen_some.1 h
    obtain ⟨c, s3, h3, h⟩ := pThen_some.1 h
    obtain ⟨rfl, rfl⟩ := ret_is h
    rw [cod_int2.rd _ _ _ h1 g.a, (cod_tys chk lim 20 (by omega)).rd _ _ _ h2 g.b, (cod_tys chk lim 20 (by omega)).rd _ _ _ h3 g.c]
    simp only [wFr, List.append_assoc]
def wFd (f : Fld) : List UInt8 := wName f.name ++ (wFlag f.stat ++ wTy f.ty)
structure FdG (f : Fld) : Prop where
  a : f.name.size < 256
  b : TyG f.ty
theorem cod_fd (chk : Bool) : Cod (pFd chk) wFd FdG := by
  refine ⟨fun x r g => ?_, fun s x r h g => ?_⟩
  · unfold wFd
    simp only [List.append_assoc]
    exact pThen_some.2 ⟨_, _, cod_name.wr _ _ g.a, pThen_some.2 ⟨_, _, cod_flag.wr _ _ trivial, pThen_some.2 ⟨_, _, (cod_ty chk).wr _ _ g.b, rfl⟩⟩⟩
  · obtain ⟨a, s1, h1, h⟩ := pThen_some.1 h
    obtain ⟨b, s2, h2, h⟩ := pThen_some.1 h
    obtain ⟨c, s3, h3, h⟩ := pThen_some.1 h
    obtain ⟨rfl, rfl⟩ := ret_is h
    rw [cod_name.rd _ _ _ h1 g.a, cod_flag.rd _ _ _ h2 trivial, (cod_ty chk).rd _ _ _ h3 g.b]
    simp only [wFd, List.append_assoc]
end Go.Proofs.YtpofmnfkdkmieaaGreat.At
namespace Go.Proofs.YtpofmnfkdkmieaaGreat.At
open Go

def wArg (i : Ins) : List UInt8 :=
  if sortB i.op = 1 then wNum 8 i.n
  else if sortB i.op = 2 then wNum 1 i.n
  else if sortB i.op = 3 then wNum 2 i.n
  else if sortB i.op = 4 then wName i.ref.cls
  else if sortB i.op = 5 then wName i.ref.cls ++ (wName i.ref.name ++ wTy i.ref.ty)
  else if sortB i.op = 6 then wName i.ref.cls ++ (wName i.ref.name ++ (wList 1 wTy i.ref.params ++ wTy i.ref.ty))
  else []
def wIns (i : Ins) : List UInt8 := wNum 1 i.op ++ wArg i
inductive InsG : Ins → Prop
  | s1 (op n : Int) (h : In1 op) (hs : sortB op = 1) (hn : -9223372036854775808 ≤ n ∧ n < 9223372036854775808) : InsG ⟨op, n, rf0⟩
  | s2 (op n : Int) (h : In1 op) (hs : sortB op = 2) (hn : In1 n) : InsG ⟨op, n, rf0⟩
  | s3 (op n : Int) (h : In1 op) (hs : sortB op = 3) (hn : In2 n) : InsG ⟨op, n, rf0⟩
  | s4 (op : Int) (c : ByteArray) (h : In1 op) (hs : sortB op = 4) (hc : c.size < 256) : InsG ⟨op, 0, ⟨c, mt, [], ⟨0, mt⟩⟩⟩
  | s5 (op : Int) (c n : ByteArray) (t : Ty) (h : In1 op) (hs : sortB op = 5) (hc : c.size < 256) (hn : n.size < 256) (ht : TyG t) : InsG ⟨op, 0, ⟨c, n, [], t⟩⟩
  | s6 (op : Int) (c n : ByteArray) (ps : List Ty) (t : Ty) (h : In1 op) (hs : sortB op = 6) (hc : c.size < 256) (hn : n.size < 256) (hp : TysG 6 ps) (ht : TyG t) : InsG ⟨op, 0, ⟨c, n, ps, t⟩⟩
  | s0 (op : Int) (h : In1 op) (hs : sortB op = 0) : InsG ⟨op, 0, rf0⟩
theorem InsG.op {i : Ins} (h : InsG i) : In1 i.op := by cases h <;> assumption
theorem ins_wr (chk lim : Bool) {i : Ins} (h : InsG i) (r : List UInt8) : insP chk lim i.op (wArg i ++ r) = some (i, r) := by
  cases h with
  | s1 op n h hs hn =>
    rw [insP1 hs]
    unfold wArg
    rw [if_pos hs]
    exact pThen_some.2 ⟨_, _, cod_int8.wr _ _ hn, rfl⟩
  | s2 op n h hs hn =>
    rw [insP2 hs]
    unfold wArg
    rw [if_neg (by dsimp only; omega), if_pos hs]
    exact pThen_some.2 ⟨_, _, cod_int1.wr _ _ hn, rfl⟩
  | s3 op n h hs hn =>
    rw [insP3 hs]
    unfold wArg
    rw [if_neg (by dsimp only; omega), if_neg (by dsimp only; omega), if_pos hs]
    exact pThen_some.2 ⟨_, _, cod_int2.wr _ _ hn, rfl⟩
  | s4 op c h hs hc =>
    rw [insP4 hs]
    unfold wArg
    rw [if_neg (by dsimp only; omega), if_neg (by dsimp only; omega), if_neg (by dsimp only; omega), if_pos hs]
    exact pThen_some.2 ⟨_, _, cod_name.wr _ _ hc, rfl⟩
  | s5 op c n t h hs hc hn ht =>
    rw [insP5 hs]
    unfold wArg
    rw [if_neg (by dsimp only; omega), if_neg (by dsimp only; omega), if_neg (by dsimp only; omega), if_neg (by dsimp only; omega), if_pos hs]
    simp only [List.append_assoc]
    exact pThen_some.2 ⟨_, _, cod_name.wr _ _ hc, pThen_some.2 ⟨_, _, cod_name.wr _ _ hn, pThen_some.2 ⟨_, _, (cod_ty chk).wr _ _ ht, rfl⟩⟩⟩
  | s6 op c n ps t h hs hc hn hp ht =>
    rw [insP6 hs]
    unfold wArg
    rw [if_neg (by dsimp only; omega), if_neg (by dsimp only; omega), if_neg (by dsimp only; omega), if_neg (by dsimp only; omega), if_neg (by dsimp only; omega), if_pos hs]
    simp only [List.append_assoc]
    exact pThen_some.2 ⟨_, _, cod_name.wr _ _ hc, pThen_some.2 ⟨_, _, cod_name.wr _ _ hn, pThen_some.2 ⟨_, _, (cod_tys chk lim 6 (by omega)).wr _ _ hp, pThen_some.2 ⟨_, _, (cod_ty chk).wr _ _ ht, rfl⟩⟩⟩⟩
  | s0 op h hs =>
    rw [insP0 (by dsimp only; omega) (by dsimp only; omega) (by dsimp only; omega) (by dsimp only; omega) (by dsimp only; omega) (by dsimp only; omega) (fun _ => by dsimp only; omega)]
    unfold wArg
    rw [if_neg (by dsimp only; omega), if_neg (by dsimp only; omega), if_neg (by dsimp only; omega), if_neg (by dsimp only; omega), if_neg (by dsimp only; omega), if_neg (by dsimp only; omega)]
    rfl
theorem ins_rd (chk lim : Bool) {op : Int} {i : Ins} {s r : List UInt8} (h : insP chk lim op s = some (i, r)) (g : InsG i) (ho : i.op = op) : s = wArg i ++ r := by
  subst ho
  cases g with
  | s1 op n h0 hs hn =>
    rw [insP1 hs] at h
    obtain ⟨a, s1, h1, h⟩ := pThen_some.1 h
    obtain ⟨e, rfl⟩ := ret_is h
    injection e with e1 e2 e3; subst e2
    unfold wArg
    rw [if_pos hs]
    exact cod_int8.rd _ _ _ h1 hn
  | s2 op n h0 hs hn =>
    rw [insP2 hs] at h
    obtain ⟨a, s1, h1, h⟩ := pThen_some.1 h
    obtain ⟨e, rfl⟩ := ret_is h
    injection e with e1 e2 e3; subst e2
    unfold wArg
    rw [if_neg (by dsimp only; omega), if_pos hs]
    exact cod_int1.rd _ _ _ h1 hn
  | s3 op n h0 hs hn =>
    rw [insP3 hs] at h
    obtain ⟨a, s1, h1, h⟩ := pThen_some.1 h
    obtain ⟨e, rfl⟩ := ret_is h
    injection e with e1 e2 e3; subst e2
    unfold wArg
    rw [if_neg (by dsimp only; omega), if_neg (by dsimp only; omega), if_pos hs]
    exact cod_int2.rd _ _ _ h1 hn
  | s4 op c h0 hs hc =>
    rw [insP4 hs] at h
    obtain ⟨a, s1, h1, h⟩ := pThen_some.1 h
    obtain ⟨e, rfl⟩ := ret_is h
    injection e with e1 e2 e3
    injection e3 with e4; subst e4
    unfold wArg
    rw [if_neg (by dsimp only; omega), if_neg (by dsimp only; omega), if_neg (by dsimp only; omega), if_pos hs]
    exact cod_name.rd _ _ _ h1 hc
  | s5 op c n t h0 hs hc hn ht =>
    rw [insP5 hs] at h
    obtain ⟨a, s1, h1, h⟩ := pThen_some.1 h
    obtain ⟨b, s2, h2, h⟩ := pThen_some.1 h
    obtain ⟨d, s3, h3, h⟩ := pThen_some.1 h
    obtain ⟨e, rfl⟩ := ret_is h
    injection e with e1 e2 e3
    injection e3 with e4 e5 e6 e7; subst e4; subst e5; subst e7
    unfold wArg
    rw [if_neg (by dsimp only; omega), if_neg (by dsimp only; omega), if_neg (by dsimp only; omega), if_neg (by dsimp only; omega), if_pos hs]
    rw [cod_name.rd _ _ _ h1 hc, cod_name.rd _ _ _ h2 hn, (cod_ty chk).rd _ _ _ h3 ht]
    simp only [List.append_assoc]
  | s6 op c n ps t h0 hs hc hn hp ht =>
    rw [insP6 hs] at h
    obtain ⟨a, s1, h1, h⟩ := pThen_some.1 h
    obtain ⟨b, s2, h2, h⟩ := pThen_some.1 h
    obtain ⟨q, s3, h3, h⟩ := pThen_some.1 h
    obtain ⟨d, s4, h4, h⟩ := pThen_some.1 h
    obtain ⟨e, rfl⟩ := ret_is h
    injection e with e1 e2 e3
    injection e3 with e4 e5 e6 e7; subst e4; subst e5; subst e6; subst e7
    unfold wArg
    rw [if_neg (by dsimp only; omega), if_neg (by dsimp only; omega), if_neg (by dsimp only; omega), if_neg (by dsimp only; omega), if_neg (by dsimp only; omega), if_pos hs]
    rw [cod_name.rd _ _ _ h1 hc, cod_name.rd _ _ _ h2 hn, (cod_tys chk lim 6 (by omega)).rd _ _ _ h3 hp, (cod_ty chk).rd _ _ _ h4 ht]
    simp only [List.append_assoc]
  | s0 op h0 hs =>
    rw [insP0 (by dsimp only; omega) (by dsimp only; omega) (by dsimp only; omega) (by dsimp only; omega) (by dsimp only; omega) (by dsimp only; omega) (fun _ => by dsimp only; omega)] at h
    obtain ⟨-, rfl⟩ := ret_is h
    unfold wArg
    rw [if_neg (by dsimp only; omega), if_neg (by dsimp only; omega), if_neg (by dsimp only; omega), if_neg (by dsimp only; omega), if_neg (by dsimp only; omega), if_neg (by dsimp only; omega)]
    rfl
theorem insP_op {chk lim : Bool} {op : Int} {i : Ins} {s r : List UInt8} (h : insP chk lim op s = some (i, r)) : i.op = op := by
  unfold insP at h
  split at h
  · obtain ⟨a, s1, h1, h⟩ := pThen_some.1 h; obtain ⟨rfl, -⟩ := ret_is h; rfl
  split at h
  · obtain ⟨a, s1, h1, h⟩ := pThen_some.1 h; obtain ⟨rfl, -⟩ := ret_is h; rfl
  split at h
  · obtain ⟨a, s1, h1, h⟩ := pThen_some.1 h; obtain ⟨rfl, -⟩ := ret_is h; rfl
  split at h
  · obtain ⟨a, s1, h1, h⟩ := pThen_some.1 h; obtain ⟨rfl, -⟩ := ret_is h; rfl
  split at h
  · obtain ⟨a, s1, h1, h⟩ := pThen_some.1 h; obtain ⟨b, s2, h2, h⟩ := pThen_some.1 h; obtain ⟨c, s3, h3, h⟩ := pThen_some.1 h; obtain ⟨rfl, -⟩ := ret_is h; rfl
  split at h
  · obtain ⟨a, s1, h1, h⟩ := pThen_some.1 h; obtain ⟨b, s2, h2, h⟩ := pThen_some.1 h; obtain ⟨c, s3, h3, h⟩ := pThen_some.1 h; obtain ⟨d, s4, h4, h⟩ := pThen_some.1 h; obtain ⟨rfl, -⟩ := ret_is h; rfl
  split at h
  · cases h
  · obtain ⟨rfl, -⟩ := ret_is h; rfl
theorem cod_ins (chk lim : Bool) : Cod (pIns chk lim) wIns InsG := by
  refine ⟨fun x r g => ?_, fun s x r h g => ?_⟩
  · unfold wIns
    rw [List.append_assoc]
    exact pThen_some.2 ⟨_, _, cod_int1.wr _ _ g.op, ins_wr chk lim g r⟩
  · obtain ⟨a, s1, h1, h⟩ := pThen_some.1 h
    have e := insP_op h
    have h2 := ins_rd chk lim h g e
    subst e
    rw [cod_int1.rd _ _ _ h1 g.op, h2]
    simp only [wIns, List.append_assoc]
end Go.Proofs.YtpofmnfkdkmieaaGreat.At
namespace Go.Proofs.YtpofmnfkdkmieaaGreat.At
open Go

abbrev AllG {α : Type} (most : Nat) (g : α → Prop) (l : List α) : Prop := l.length ≤ most ∧ ∀ x ∈ l, g x
def wMe (m : Me) : List UInt8 := wName m.name ++ (wFlag m.stat ++ (wList 1 wTy m.params ++ (wTy m.result ++ (wNum 1 m.locals ++ (wNum 1 m.stack ++ (wList 2 wIns m.code ++ (wList 1 wHd m.handlers ++ wList 1 wFr m.frames)))))))
structure MeG (m : Me) : Prop where
  nm : m.name.size < 256
  ps : TysG 6 m.params
  rs : TyG m.result
  lo : In1 m.locals
  sk : In1 m.stack
  cs : AllG 200 InsG m.code
  hs : AllG 10 HdG m.handlers
  fs : AllG 60 FrG m.frames
theorem cod_cs (chk lim : Bool) : Cod (pList lim 2 200 (pIns chk lim)) (wList 2 wIns) (AllG 200 InsG) := cod_list (M := 65536) rfl (by omega) (by omega) (cod_ins chk lim)
theorem cod_hs (lim : Bool) : Cod (pList lim 1 10 pHd) (wList 1 wHd) (AllG 10 HdG) := cod_list (M := 256) rfl (by omega) (by omega) cod_hd
theorem cod_frs (chk lim : Bool) : Cod (pList lim 1 60 (pFr chk lim)) (wList 1 wFr) (AllG 60 FrG) := cod_list (M := 256) rfl (by omega) (by omega) (cod_fr chk lim)
theorem cod_me (chk lim : Bool) : Cod (pMe chk lim) wMe MeG := by
  refine ⟨fun x r g => ?_, fun s x r h g => ?_⟩
  · unfold wMe
    simp only [List.append_assoc]
    exact pThen_some.2 ⟨_, _, cod_name.wr _ _ g.nm, pThen_some.2 ⟨_, _, cod_flag.wr _ _ trivial, pThen_some.2 ⟨_, _, (cod_tys chk lim 6 (by omega)).wr _ _ g.ps, pThen_some.2 ⟨_, _, (cod_ty chk).wr _ _ g.rs,
      pThen_some.2 ⟨_, _, cod_int1.wr _ _ g.lo, pThen_some.2 ⟨_, _, cod_int1.wr _ _ g.sk, pThen_some.2 ⟨_, _, (cod_cs chk lim).wr _ _ g.cs, pThen_some.2 ⟨_, _, (cod_hs lim).wr _ _ g.hs, pThen_some.2 ⟨_, _, (cod_frs chk lim).wr _ _ g.fs, rfl⟩⟩⟩⟩⟩⟩⟩⟩⟩
  · obtain ⟨a1, s1, h1, h⟩ := pThen_some.1 h
    obtain ⟨a2, s2, h2, h⟩ := pThen_some.1 h
    obtain ⟨a3, s3, h3, h⟩ := pThen_some.1 h
    obtain ⟨a4, s4, h4, h⟩ := pThen_some.1 h
    obtain ⟨a5, s5, h5, h⟩ := pThen_some.1 h
    obtain ⟨a6, s6, h6, h⟩ := pThen_some.1 h
    obtain ⟨a7, s7, h7, h⟩ := pThen_some.1 h
    obtain ⟨a8, s8, h8, h⟩ := pThen_some.1 h
    obtain ⟨a9, s9, h9, h⟩ := pThen_some.1 h
    obtain ⟨rfl, rfl⟩ := ret_is h
    rw [cod_name.rd _ _ _ h1 g.nm, cod_flag.rd _ _ _ h2 trivial, (cod_tys chk lim 6 (by omega)).rd _ _ _ h3 g.ps, (cod_ty chk).rd _ _ _ h4 g.rs, cod_int1.rd _ _ _ h5 g.lo, cod_int1.rd _ _ _ h6 g.sk, (cod_cs chk lim).rd _ _ _ h7 g.cs, (cod_hs lim).rd _ _ _ h8 g.hs, (cod_frs chk lim).rd _ _ _ h9 g.fs]
    simp only [wMe, List.append_assoc]
def wCl (c : Cl) : List UInt8 := wName c.name ++ (wName c.super ++ (wList 1 wFd c.fields ++ wList 1 wMe c.methods))
structure ClG (c : Cl) : Prop where
  nm : c.name.size < 256
  sp : c.super.size < 256
  fs : AllG 20 FdG c.fields
  ms : AllG 20 MeG c.methods
theorem cod_fds (chk lim : Bool) : Cod (pList lim 1 20 (pFd chk)) (wList 1 wFd) (AllG 20 FdG) := cod_list (M := 256) rfl (by omega) (by omega) (cod_fd chk)
theorem cod_mes (chk lim : Bool) : Cod (pList lim 1 20 (pMe chk lim)) (wList 1 wMe) (AllG 20 MeG) := cod_list (M := 256) rfl (by omega) (by omega) (cod_me chk lim)
theorem cod_cl (chk lim : Bool) : Cod (pCl chk lim) wCl ClG := by
  refine ⟨fun x r g => ?_, fun s x r h g => ?_⟩
  · unfold wCl
    simp only [List.append_assoc]
    exact pThen_some.2 ⟨_, _, cod_name.wr _ _ g.nm, pThen_some.2 ⟨_, _, cod_name.wr _ _ g.sp, pThen_some.2 ⟨_, _, (cod_fds chk lim).wr _ _ g.fs, pThen_some.2 ⟨_, _, (cod_mes chk lim).wr _ _ g.ms, rfl⟩⟩⟩⟩
  · obtain ⟨a1, s1, h1, h⟩ := pThen_some.1 h
    obtain ⟨a2, s2, h2, h⟩ := pThen_some.1 h
    obtain ⟨a3, s3, h3, h⟩ := pThen_some.1 h
    obtain ⟨a4, s4, h4, h⟩ := pThen_some.1 h
    obtain ⟨rfl, rfl⟩ := ret_is h
    rw [cod_name.rd _ _ _ h1 g.nm, cod_name.rd _ _ _ h2 g.sp, (cod_fds chk lim).rd _ _ _ h3 g.fs, (cod_mes chk lim).rd _ _ _ h4 g.ms]
    simp only [wCl, List.append_assoc]
theorem decL_wr (chk lim : Bool) {c : Cl} (g : ClG c) : decL chk lim (clas ++ wCl c) = some c := by
  have h1 := (cod_cl chk lim).wr c [] g
  rw [List.append_nil] at h1
  have e1 : (clas ++ wCl c).take 4 = clas := List.take_left (l₁ := clas)
  have e2 : (clas ++ wCl c).drop 4 = wCl c := List.drop_left (l₁ := clas)
  unfold decL
  rw [e1, if_pos rfl, e2, h1]
  rfl
theorem decL_rd {chk lim : Bool} {s : List UInt8} {c : Cl} (h : decL chk lim s = some c) (g : ClG c) : s = clas ++ wCl c := by
  unfold decL at h
  split at h
  · rename_i h4
    split at h
    · rename_i c' r hc
      split at h
      · rename_i hr
        subst hr
        cases h
        have h1 := (cod_cl chk lim).rd _ _ _ hc g
        rw [List.append_nil] at h1
        rw [← h1, ← h4, List.take_append_drop]
      · cases h
    · cases h
  · cases h
end Go.Proofs.YtpofmnfkdkmieaaGreat.At
namespace Go.Proofs.YtpofmnfkdkmieaaGreat.At
open Go

def bl (s : ByteArray) : List UInt8 := s.data.toList
theorem bl_app (a b : ByteArray) : bl (a ++ b) = bl a ++ bl b := by unfold bl; rw [ByteArray.data_append, Array.toList_append]
theorem bl_low (n : Int) (k : Nat) : bl (lowS n k) = wNum k n := rfl
theorem bl_name (s : ByteArray) : bl (nameS s) = wName s := by unfold nameS wName; rw [bl_app, bl_low]; rfl
theorem bl_flag (b : Bool) : bl (flagS b) = wFlag b := by cases b <;> rfl
theorem bl_ty (t : Ty) : bl (oneTypeS t) = wTy t := by
  unfold oneTypeS wTy
  split
  · rw [bl_app, bl_low, bl_name]
  · rfl
theorem bl_fold {α : Type} (F : ByteArray → α → ByteArray) (w : α → List UInt8) (hF : ∀ s x, bl (F s x) = bl s ++ w x) : ∀ (l : List α) (s : ByteArray), bl (l.foldl F s) = bl s ++ l.flatMap w
  | [], s => by simp
  | x :: l, s => by rw [List.foldl_cons, bl_fold F w hF l, hF, List.flatMap_cons, List.append_assoc]
theorem bl_tys (l : List Ty) : bl (typesS l) = wList 1 wTy l := by
  unfold typesS wList
  rw [bl_fold _ wTy (fun s x => by rw [bl_app, bl_ty]), bl_low]
theorem bl_ins (i : Ins) : bl (instrS i) = wIns i := by
  unfold instrS wIns wArg
  repeat' split
  all_goals simp only [bl_app, bl_low, bl_name, bl_ty, bl_tys, List.append_assoc, List.append_nil]
theorem bl_hd (s : ByteArray) (h : Hd) : bl (hdS s h) = bl s ++ wHd h := by unfold hdS wHd; simp only [bl_app, bl_low, bl_name, List.append_assoc]
theorem bl_fr (s : ByteArray) (f : Fr) : bl (frS s f) = bl s ++ wFr f := by unfold frS wFr; simp only [bl_app, bl_low, bl_tys, List.append_assoc]
theorem bl_fd (s : ByteArray) (f : Fld) : bl (fdS s f) = bl s ++ wFd f := by unfold fdS wFd; simp only [bl_app, bl_name, bl_flag, bl_ty, List.append_assoc]
theorem bl_me (m : Me) : bl (methodS m) = wMe m := by
  unfold methodS hdsS codeS headS
  rw [bl_fold _ wFr bl_fr, bl_app, bl_fold _ wHd bl_hd, bl_app, bl_fold _ wIns (fun s x => by rw [bl_app, bl_ins])]
  simp only [bl_app, bl_low, bl_name, bl_flag, bl_ty, bl_tys, wMe, wList, List.append_assoc]
theorem bl_class (c : Cl) : bl (bytesS c) = clas ++ wCl c := by
  unfold bytesS fdsS topS
  rw [bl_fold _ wMe (fun s x => by rw [bl_app, bl_me]), bl_app, bl_fold _ wFd bl_fd]
  simp only [bl_app, bl_low, bl_name, wCl, wList, List.append_assoc]
  rfl
end Go.Proofs.YtpofmnfkdkmieaaGreat.At
namespace Go.Proofs.YtpofmnfkdkmieaaGreat.At
open Go

theorem name_le {s : ByteArray} (h : isNameB s = true) : s.size < 256 := by
  unfold isNameB at h
  simp only [Bool.and_eq_true, decide_eq_true_eq] at h
  omega
theorem ty_G {t : Ty} {v o : Bool} (h : isTypeB t v o = true) : TyG t := by
  obtain ⟨k, c⟩ := t
  unfold isTypeB at h
  dsimp only at h
  split at h
  · rename_i hk
    simp only [Bool.and_eq_true, decide_eq_true_eq] at h
    exact ⟨⟨by dsimp only; omega, by dsimp only; omega⟩, fun e => by dsimp only at e; omega, fun _ => h.2⟩
  split at h
  · rename_i hk
    simp only [decide_eq_true_eq] at h
    exact ⟨⟨by dsimp only; omega, by dsimp only; omega⟩, fun e => by dsimp only at e; omega, fun _ => h⟩
  split at h
  · rename_i hk
    exact ⟨⟨by dsimp only; omega, by dsimp only; omega⟩, fun _ => name_le h, fun e => absurd hk e⟩
  split at h
  · rename_i hk
    simp only [Bool.and_eq_true, decide_eq_true_eq] at h
    exact ⟨⟨by dsimp only; omega, by dsimp only; omega⟩, fun e => by dsimp only at e; omega, fun _ => h.2⟩
  · cases h
theorem tys_G {l : List Ty} {o : Bool} (h : areTypesB l o = true) : ∀ t ∈ l, TyG t := fun t ht => ty_G (List.all_eq_true.1 h t ht)
theorem sort_in {op : Int} (h : ¬ sortB op < 0) : In1 op := by
  unfold sortB at h
  constructor <;> (repeat' split at h) <;> omega
theorem rf_is {r : Rf} (h1 : r.cls = mt) (h2 : r.name = mt) (h3 : r.params = []) (h4 : r.ty.kind = 0) (h5 : r.ty.cls = mt) : r = rf0 := by
  obtain ⟨c, n, p, ⟨k, tc⟩⟩ := r
  simp_all [rf0]
theorem sort_le (op : Int) : sortB op ≤ 6 := by unfold sortB; (repeat' split) <;> omega
theorem ins_G {i : Ins} {lo : Int} {len : Nat} (h : isInstrB i lo len = true) (hlo : lo ≤ 256) (hlen : len ≤ 65536) (hn : intOk i.n) : InsG i := by
  obtain ⟨op, n, r⟩ := i
  unfold isInstrB at h
  dsimp only at h hn
  have hle := sort_le op
  split at h
  · cases h
  rename_i hs
  have hop := sort_in hs
  split at h
  · rename_i hs4
    split at h
    · cases h
    rename_i hr
    simp only [not_or, Decidable.not_not] at hr
    have e : r = rf0 := rf_is hr.1 hr.2.1 (List.length_eq_zero_iff.1 (by have := hr.2.2.1; omega)) hr.2.2.2.1 hr.2.2.2.2
    subst e
    split at h
    · rename_i h0
      simp only [decide_eq_true_eq] at h
      subst h
      exact .s0 op hop h0
    split at h
    · rename_i h2
      simp only [Bool.and_eq_true, decide_eq_true_eq] at h
      exact .s2 op n hop h2 ⟨h.1, by omega⟩
    split at h
    · rename_i h3
      simp only [Bool.and_eq_true, decide_eq_true_eq] at h
      exact .s3 op n hop h3 ⟨h.1, by omega⟩
    · unfold intOk at hn
      exact .s1 op n hop (by omega) ⟨hn.1, by omega⟩
  · rename_i hs4
    split at h
    · cases h
    rename_i hr
    simp only [not_or, Decidable.not_not, Bool.not_eq_false] at hr
    obtain ⟨rfl, hc⟩ := hr
    obtain ⟨c, nm, ps, t⟩ := r
    dsimp only at h hc
    split at h
    · rename_i h4
      simp only [Bool.and_eq_true, decide_eq_true_eq] at h
      obtain ⟨⟨⟨e1, e2⟩, e3⟩, e4⟩ := h
      obtain ⟨tk, tc⟩ := t
      dsimp only at e3 e4
      obtain rfl := e1
      obtain rfl : ps = [] := List.length_eq_zero_iff.1 (by omega)
      subst e3; subst e4
      exact .s4 op c hop h4 (name_le hc)
    split at h
    · rename_i h5
      simp only [Bool.and_eq_true, decide_eq_true_eq] at h
      obtain ⟨⟨e1, e2⟩, e3⟩ := h
      obtain rfl : ps = [] := List.length_eq_zero_iff.1 (by omega)
      exact .s5 op c nm t hop h5 (name_le hc) (name_le e1) (ty_G e3)
    · simp only [Bool.and_eq_true, decide_eq_true_eq] at h
      obtain ⟨⟨⟨e1, e2⟩, e3⟩, e4⟩ := h
      exact .s6 op c nm ps t hop (by omega) (name_le hc) (name_le e1) ⟨by omega, tys_G e3⟩ (ty_G e4)
end Go.Proofs.YtpofmnfkdkmieaaGreat.At
namespace Go.Proofs.YtpofmnfkdkmieaaGreat.At
open Go

theorem hd_G {h : Hd} {len : Nat} (hh : isHdB h len = true) (hl : len ≤ 200) : HdG h := by
  unfold isHdB at hh
  simp only [Bool.and_eq_true, Bool.or_eq_true, decide_eq_true_eq] at hh
  obtain ⟨⟨⟨⟨⟨h1, h2⟩, h3⟩, h4⟩, h5⟩, h6⟩ := hh
  refine ⟨⟨h1, by omega⟩, ⟨by omega, by omega⟩, ⟨h4, by omega⟩, ?_⟩
  rcases h6 with h6 | h6
  · exact name_le h6
  · rw [h6]; decide
theorem fr_G {f : Fr} {prev lo sk : Int} {len : Nat} (hf : isFrB prev f lo sk len = true) (hlo : lo ≤ 20) (hsk : sk ≤ 20) (hl : len ≤ 200) : FrG f := by
  unfold isFrB at hf
  simp only [Bool.and_eq_true, decide_eq_true_eq] at hf
  obtain ⟨⟨⟨⟨⟨⟨h1, h2⟩, h3⟩, h4⟩, h5⟩, h6⟩, h7⟩ := hf
  exact ⟨⟨h1, by omega⟩, ⟨by omega, tys_G h6⟩, ⟨by omega, tys_G h7⟩⟩
theorem me_G {m : Me} (h : isMethodB m = true) (hn : ∀ i ∈ m.code, intOk i.n) : MeG m := by
  unfold isMethodB isHeadB at h
  simp only [Bool.and_eq_true, decide_eq_true_eq] at h
  obtain ⟨⟨⟨⟨⟨⟨⟨⟨⟨⟨⟨⟨⟨⟨h1, h2⟩, h3⟩, h4⟩, h5⟩, h6⟩, h7⟩, h8⟩, h9⟩, h10⟩, h11⟩, h12⟩, h13⟩, h14⟩, h15⟩ := h
  have h0 : 0 ≤ leastB m := by unfold leastB; split <;> omega
  refine ⟨name_le h1, ⟨by omega, tys_G h2⟩, ty_G h3, ⟨by omega, by omega⟩, ⟨by omega, by omega⟩, ⟨by omega, fun i hi => ins_G (List.all_eq_true.1 h13 i hi) (by omega) (by omega) (hn i hi)⟩, ⟨by omega, fun x hx => hd_G (List.all_eq_true.1 h14 x hx) (by omega)⟩, ⟨by omega, fun f hf => ?_⟩⟩
  obtain ⟨k, hk, e⟩ := List.mem_iff_getElem.1 hf
  have h16 := List.all_eq_true.1 h15 k (List.mem_range.2 hk)
  unfold frAt at h16
  rw [List.getElem?_eq_getElem hk, e] at h16
  exact fr_G h16 (by omega) (by omega) (by omega)
theorem cl_G {c : Cl} (h : isClassB c = true) (hn : ∀ m ∈ c.methods, ∀ i ∈ m.code, intOk i.n) : ClG c := by
  unfold isClassB at h
  simp only [Bool.and_eq_true, decide_eq_true_eq] at h
  obtain ⟨⟨⟨⟨⟨h1, h2⟩, h3⟩, h4⟩, h5⟩, h6⟩ := h
  refine ⟨name_le h1, name_le h2, ⟨by omega, fun f hf => ?_⟩, ⟨by omega, fun m hm => ?_⟩⟩
  · obtain ⟨k, hk, e⟩ := List.mem_iff_getElem.1 hf
    have h7 := List.all_eq_true.1 h5 k (List.mem_range.2 hk)
    unfold fdAt at h7
    rw [List.getElem?_eq_getElem hk, e] at h7
    simp only [Bool.and_eq_true] at h7
    exact ⟨name_le h7.1.1, ty_G h7.1.2⟩
  · obtain ⟨k, hk, e⟩ := List.mem_iff_getElem.1 hm
    have h7 := List.all_eq_true.1 h6 k (List.mem_range.2 hk)
    unfold meAt at h7
    rw [List.getElem?_eq_getElem hk, e] at h7
    simp only [Bool.and_eq_true] at h7
    exact me_G h7.1 (hn m hm)
theorem dec_enc (chk lim : Bool) {c : Cl} (h : isClassB c = true) (hn : ∀ m ∈ c.methods, ∀ i ∈ m.code, intOk i.n) : okOnly (decL chk lim (bl (bytesS c))) = some c := by
  rw [bl_class, decL_wr chk lim (cl_G h hn)]
  show (if isClassB c = true then some c else none) = some c
  rw [if_pos h]
theorem enc_dec {chk lim : Bool} {s : List UInt8} {c : Cl} (h : okOnly (decL chk lim s) = some c) (hn : ∀ m ∈ c.methods, ∀ i ∈ m.code, intOk i.n) : bl (bytesS c) = s ∧ isClassB c = true := by
  cases hd : decL chk lim s with
  | none => rw [hd] at h; cases h
  | some c' =>
    rw [hd] at h
    have h' : (if isClassB c' = true then some c' else none) = some c := h
    split at h'
    · rename_i hc
      cases h'
      exact ⟨by rw [bl_class, decL_rd hd (cl_G hc hn)], hc⟩
    · cases h'
theorem dec_more (chk lim : Bool) {c : Cl} (h : isClassB c = true) (hn : ∀ m ∈ c.methods, ∀ i ∈ m.code, intOk i.n) (b : UInt8) : okOnly (decL chk lim (bl (bytesS c) ++ [b])) = none := by
  rw [bl_class, decL_more (decL_wr chk lim (cl_G h hn)) (by simp)]; rfl
theorem dec_less (chk lim : Bool) {c : Cl} (h : isClassB c = true) (hn : ∀ m ∈ c.methods, ∀ i ∈ m.code, intOk i.n) : okOnly (decL chk lim (bl (bytesS c)).dropLast) = none := by
  have hne : bl (bytesS c) ≠ [] := by rw [bl_class]; simp [clas]
  have h1 : decL chk lim ((bl (bytesS c)).dropLast ++ [(bl (bytesS c)).getLast hne]) = some c := by rw [List.dropLast_concat_getLast, bl_class]; exact decL_wr chk lim (cl_G h hn)
  rw [decL_less h1 (by simp)]; rfl
end Go.Proofs.YtpofmnfkdkmieaaGreat.At
