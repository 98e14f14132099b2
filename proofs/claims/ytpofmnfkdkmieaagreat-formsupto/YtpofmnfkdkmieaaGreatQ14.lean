/- What is proved here: two ways to read a class out of bytes (one asks early whether kinds and operations are any, the other one whether lists are too long) come to the same. Plain functions on lists; nothing of the program. lists of a class that a call has made and owns, each in a block of its own, and that they lie in memory as Data asks. plain facts on reading off a tape that may have gone wrong, and on numbers of several bytes. -/
import Derived.Test.YtpofmnfkdkmieaaGreatQ06
import Derived.Test.YtpofmnfkdkmieaaGreatQ03
set_option linter.unusedVariables false
set_option linter.unusedSimpArgs false
namespace Go.Proofs.YtpofmnfkdkmieaaGreat.At
/-- Something is read off the front. -/
abbrev Ps (α : Type) := List UInt8 → Option (α × List UInt8)
def pRet {α : Type} (x : α) : Ps α := fun s => some (x, s)
def pNo {α : Type} : Ps α := fun _ => none
def pThen {α β : Type} (p : Ps α) (f : α → Ps β) : Ps β := fun s => match p s with | none => none | some (x, r) => f x r
def leN : List UInt8 → Nat
 | [] => 0
 | b :: r => b.toNat + 256 * leN r
def toI (n : Nat) : Int := if n < 9223372036854775808 then (n : Int) else (n : Int) - 18446744073709551616
def pTake (n : Nat) : Ps (List UInt8) := fun s => if n ≤ s.length then some (s.take n, s.drop n) else none
def pNum (k : Nat) : Ps Nat := pThen (pTake k) fun l => pRet (leN l)
def pInt (k : Nat) : Ps Int := pThen (pNum k) fun n => pRet (toI n)
def pName : Ps ByteArray := pThen (pNum 1) fun n => pThen (pTake n) fun l => pRet ⟨l.toArray⟩
def pFlag : Ps Bool := pThen (pNum 1) fun n => if 1 < n then pNo else pRet (decide (n = 1))
def pTy (chk : Bool) : Ps Ty := pThen (pInt 1) fun k => if (chk && decide (5 < k)) = true then pNo else if k = 3 then pThen pName fun c => pRet ⟨k, c⟩ else pRet ⟨k, mt⟩
def pMany {α : Type} (p : Ps α) : Nat → Ps (List α)
 | 0 => pRet []
 | n + 1 => pThen p fun x => pThen (pMany p n) fun l => pRet (x :: l)
/-- A list: how many (k bytes), then these; lim: more than most are too many. -/
def pList {α : Type} (lim : Bool) (k most : Nat) (p : Ps α) : Ps (List α) := pThen (pNum k) fun n => if (lim && decide (most < n)) = true then pNo else pMany p n
def rf0 : Rf := ⟨mt, mt, [], ⟨0, mt⟩⟩
def insP (chk lim : Bool) (op : Int) : Ps Ins :=
 if sortB op = 1 then pThen (pInt 8) fun n => pRet ⟨op, n, rf0⟩
 else if sortB op = 2 then pThen (pInt 1) fun n => pRet ⟨op, n, rf0⟩
 else if sortB op = 3 then pThen (pInt 2) fun n => pRet ⟨op, n, rf0⟩
 else if sortB op = 4 then pThen pName fun c => pRet ⟨op, 0, ⟨c, mt, [], ⟨0, mt⟩⟩⟩
 else if sortB op = 5 then pThen pName fun c => pThen pName fun n => pThen (pTy chk) fun t => pRet ⟨op, 0, ⟨c, n, [], t⟩⟩
 else if sortB op = 6 then pThen pName fun c => pThen pName fun n => pThen (pList lim 1 6 (pTy chk)) fun ps => pThen (pTy chk) fun t => pRet ⟨op, 0, ⟨c, n, ps, t⟩⟩
 else if (chk && decide (sortB op = -1)) = true then pNo else pRet ⟨op, 0, rf0⟩
def pIns (chk lim : Bool) : Ps Ins := pThen (pInt 1) (insP chk lim)
theorem insP1 {chk lim : Bool} {op : Int} (h : sortB op = 1) : insP chk lim op = pThen (pInt 8) fun n => pRet ⟨op, n, rf0⟩ := by unfold insP; rw [if_pos h]
theorem insP2 {chk lim : Bool} {op : Int} (h : sortB op = 2) : insP chk lim op = pThen (pInt 1) fun n => pRet ⟨op, n, rf0⟩ := by unfold insP; rw [if_neg (by omega), if_pos h]
theorem insP3 {chk lim : Bool} {op : Int} (h : sortB op = 3) : insP chk lim op = pThen (pInt 2) fun n => pRet ⟨op, n, rf0⟩ := by unfold insP; rw [if_neg (by omega), if_neg (by omega), if_pos h]
theorem insP4 {chk lim : Bool} {op : Int} (h : sortB op = 4) : insP chk lim op = pThen pName fun c => pRet ⟨op, 0, ⟨c, mt, [], ⟨0, mt⟩⟩⟩ := by unfold insP; rw [if_neg (by omega), if_neg (by omega), if_neg (by omega), if_pos h]
theorem insP5 {chk lim : Bool} {op : Int} (h : sortB op = 5) : insP chk lim op = pThen pName fun c => pThen pName fun n => pThen (pTy chk) fun t => pRet ⟨op, 0, ⟨c, n, [], t⟩⟩ := by
 unfold insP; rw [if_neg (by omega), if_neg (by omega), if_neg (by omega), if_neg (by omega), if_pos h]
theorem insP6 {chk lim : Bool} {op : Int} (h : sortB op = 6) : insP chk lim op = pThen pName fun c => pThen pName fun n => pThen (pList lim 1 6 (pTy chk)) fun ps => pThen (pTy chk) fun t => pRet ⟨op, 0, ⟨c, n, ps, t⟩⟩ := by
 unfold insP; rw [if_neg (by omega), if_neg (by omega), if_neg (by omega), if_neg (by omega), if_neg (by omega), if_pos h]
theorem insPno {lim : Bool} {op : Int} (h : sortB op = -1) : insP true lim op = pNo := by
 unfold insP; rw [if_neg (by omega), if_neg (by omega), if_neg (by omega), if_neg (by omega), if_neg (by omega), if_neg (by omega), if_pos (by simp [h])]
theorem insP0 {chk lim : Bool} {op : Int} (h1 : ¬ sortB op = 1) (h2 : ¬ sortB op = 2) (h3 : ¬ sortB op = 3) (h4 : ¬ sortB op = 4) (h5 : ¬ sortB op = 5) (h6 : ¬ sortB op = 6) (h7 : chk = true → ¬ sortB op = -1) : insP chk lim op = pRet ⟨op, 0, rf0⟩ := by
 unfold insP; rw [if_neg h1, if_neg h2, if_neg h3, if_neg h4, if_neg h5, if_neg h6, if_neg (by intro h; rw [Bool.and_eq_true] at h; exact h7 h.1 (of_decide_eq_true h.2))]
def pHd : Ps Hd := pThen (pInt 2) fun a => pThen (pInt 2) fun b => pThen (pInt 2) fun c => pThen pName fun n => pRet ⟨a, b, c, n⟩
def pFr (chk lim : Bool) : Ps Fr := pThen (pInt 2) fun a => pThen (pList lim 1 20 (pTy chk)) fun l => pThen (pList lim 1 20 (pTy chk)) fun s => pRet ⟨a, l, s⟩
def pFd (chk : Bool) : Ps Fld := pThen pName fun n => pThen pFlag fun b => pThen (pTy chk) fun t => pRet ⟨n, b, t⟩
def pMe (chk lim : Bool) : Ps Me := pThen pName fun nm => pThen pFlag fun st => pThen (pList lim 1 6 (pTy chk)) fun ps => pThen (pTy chk) fun r => pThen (pInt 1) fun lo => pThen (pInt 1) fun sk =>
 pThen (pList lim 2 200 (pIns chk lim)) fun cd => pThen (pList lim 1 10 pHd) fun hs => pThen (pList lim 1 60 (pFr chk lim)) fun fs => pRet ⟨nm, st, ps, r, lo, sk, cd, hs, fs⟩
def pCl (chk lim : Bool) : Ps Cl := pThen pName fun n => pThen pName fun s => pThen (pList lim 1 20 (pFd chk)) fun fs => pThen (pList lim 1 20 (pMe chk lim)) fun ms => pRet ⟨n, s, fs, ms⟩
/-- All of it: the front, a class, nothing behind it. -/
def clas : List UInt8 := [67, 76, 65, 83]
def decL (chk lim : Bool) (s : List UInt8) : Option Cl := if s.take 4 = clas then (match pCl chk lim (s.drop 4) with | some (c, r) => if r = [] then some c else none | none => none) else none
def okOnly : Option Cl → Option Cl
 | some c => if isClassB c = true then some c else none
 | none => none
/-! ### What asks early is what asks late -/
def filt {α : Type} (g : α → Bool) (p : Ps α) : Ps α := fun s => match p s with | none => none | some (x, r) => if g x = true then some (x, r) else none
theorem pThen_some {α β : Type} {p : Ps α} {f : α → Ps β} {s r : List UInt8} {y : β} : pThen p f s = some (y, r) ↔ ∃ x s', p s = some (x, s') ∧ f x s' = some (y, r) := by
 unfold pThen
 cases h : p s with
 | none => simp
 | some q =>
  obtain ⟨x, s'⟩ := q
  refine ⟨fun h => ⟨x, s', rfl, h⟩, ?_⟩
  rintro ⟨x1, s1, h1, h2⟩
  cases h1
  exact h2
theorem pRet_some {α : Type} {x y : α} {s r : List UInt8} : pRet x s = some (y, r) ↔ x = y ∧ s = r := by simp [pRet]
theorem filt_true {α : Type} (p : Ps α) : p = filt (fun _ => true) p := by
 funext s; unfold filt
 cases p s with
 | none => rfl
 | some q => simp
theorem filt_then {α β : Type} {p p0 : Ps α} {f f0 : α → Ps β} {g : α → Bool} {ok : β → Bool} (hp : p = filt g p0) (hf : ∀ a, g a = true → f a = filt ok (f0 a))
  (hg : ∀ a s y r, f0 a s = some (y, r) → g a = false → ok y = false) : pThen p f = filt ok (pThen p0 f0) := by
 funext s
 subst hp
 simp only [pThen, filt]
 cases h : p0 s with
 | none => rfl
 | some q =>
  obtain ⟨a, s'⟩ := q
  simp only
  cases hga : g a with
  | true => simp only [if_true]; rw [hf a hga]; rfl
  | false =>
   simp only [Bool.false_eq_true, if_false]
   cases h0 : f0 a s' with
   | none => rfl
   | some q' =>
    obtain ⟨y, r⟩ := q'
    simp only
    rw [hg a s' y r h0 hga]; rfl
/-- Ahead of what is asked nothing is asked. -/
theorem filt_next {α β : Type} {p : Ps α} {f f0 : α → Ps β} {ok : β → Bool} (hf : ∀ a, f a = filt ok (f0 a)) : pThen p f = filt ok (pThen p f0) :=
 filt_then (filt_true p) (fun a _ => hf a) (fun _ _ _ _ _ h => by cases h)
theorem filt_ret {α : Type} {ok : α → Bool} {x : α} (h : ok x = true) : pRet x = filt ok (pRet x) := by
 funext s; simp [filt, pRet, h]
def okTy (chk : Bool) (t : Ty) : Bool := !(chk && decide (5 < t.kind))
theorem pTy_filt (chk : Bool) : pTy chk = filt (okTy chk) (pTy false) := by
 unfold pTy
 refine filt_next fun k => ?_
 by_cases h : (chk && decide (5 < k)) = true
 ·rw [if_pos h]
  rw [Bool.and_eq_true] at h
  have hk : 5 < k := of_decide_eq_true h.2
  rw [if_neg (show ¬ (false && decide (5 < k)) = true by intro h; cases h), if_neg (show ¬ k = 3 by omega)]
  funext s
  simp [filt, pRet, pNo, okTy, h.1, hk]
 ·have hk : ∀ c, okTy chk ⟨k, c⟩ = true := fun c => by unfold okTy; rw [Bool.eq_false_iff.2 h]; rfl
  rw [if_neg h, if_neg (show ¬ (false && decide (5 < k)) = true by intro h; cases h)]
  by_cases h3 : k = 3
  ·rw [if_pos h3]
   exact filt_next fun c => filt_ret (hk c)
  ·rw [if_neg h3]
   exact filt_ret (hk _)
theorem pMany_filt {α : Type} {p p0 : Ps α} {g : α → Bool} (hp : p = filt g p0) : ∀ n, pMany p n = filt (fun l => l.all g) (pMany p0 n)
 | 0 => by unfold pMany; exact filt_ret rfl
 | n + 1 => by
  unfold pMany
  refine filt_then hp (fun a ha => ?_) ?_
  ·refine filt_then (pMany_filt hp n) (fun l hl => filt_ret (by simp only [List.all_cons, ha, Bool.true_and]; exact hl)) ?_
   intro l s y r h hl
   obtain ⟨rfl, _⟩ := pRet_some.1 h
   simp only [List.all_cons, ha, Bool.true_and]; exact hl
  ·intro a s y r h ha
   obtain ⟨l, s', _, h2⟩ := pThen_some.1 h
   obtain ⟨rfl, _⟩ := pRet_some.1 h2
   simp [ha]
theorem pMany_length {α : Type} {p : Ps α} : ∀ (n : Nat) (s r : List UInt8) (l : List α), pMany p n s = some (l, r) → l.length = n
 | 0, s, r, l, h => by
  obtain ⟨rfl, _⟩ := pRet_some.1 h
  rfl
 | n + 1, s, r, l, h => by
  obtain ⟨x, s1, _, h2⟩ := pThen_some.1 h
  obtain ⟨l', s2, h3, h4⟩ := pThen_some.1 h2
  obtain ⟨rfl, _⟩ := pRet_some.1 h4
  rw [List.length_cons, pMany_length n s1 s2 l' h3]
def okL {α : Type} (lim : Bool) (most : Nat) (g : α → Bool) (l : List α) : Bool := !(lim && decide (most < l.length)) && l.all g
theorem pList_filt {α : Type} (lim : Bool) (k most : Nat) {p p0 : Ps α} {g : α → Bool} (hp : p = filt g p0) : pList lim k most p = filt (okL lim most g) (pList false k most p0) := by
 unfold pList
 refine filt_next fun n => ?_
 have hm := pMany_filt hp n
 funext s
 by_cases h : (lim && decide (most < n)) = true
 ·rw [if_pos h, if_neg (by simp)]
  simp only [filt, pNo]
  cases h0 : pMany p0 n s with
  | none => rfl
  | some q =>
   obtain ⟨l, r⟩ := q
   have hl := pMany_length n s r l h0
   simp only [okL, hl, h]; rfl
 ·rw [if_neg h, if_neg (by simp), hm]
  simp only [filt]
  cases h0 : pMany p0 n s with
  | none => rfl
  | some q =>
   obtain ⟨l, r⟩ := q
   have hl := pMany_length n s r l h0
   simp only [okL, hl]
   rw [Bool.eq_false_iff.2 h]; rfl
def okRf (chk lim : Bool) (r : Rf) : Bool := okL lim 6 (okTy chk) r.params && okTy chk r.ty
def okIns (chk lim : Bool) (i : Ins) : Bool := okRf chk lim i.ref && !(chk && decide (sortB i.op = -1))
theorem ok_rf0 (chk lim : Bool) (c n : ByteArray) : okRf chk lim ⟨c, n, [], ⟨0, mt⟩⟩ = true := by cases chk <;> cases lim <;> rfl
theorem okL_nil {α : Type} (lim : Bool) (most : Nat) (g : α → Bool) : okL lim most g [] = true := by cases lim <;> simp [okL]
theorem pIns_filt (chk lim : Bool) : pIns chk lim = filt (okIns chk lim) (pIns false false) := by
 unfold pIns
 refine filt_next fun op => ?_
 unfold insP
 by_cases h1 : sortB op = 1
 ·rw [if_pos h1, if_pos h1]
  exact filt_next fun n => filt_ret (by unfold okIns; rw [show okRf chk lim rf0 = true from ok_rf0 ..]; simp [h1])
 rw [if_neg h1, if_neg h1]
 by_cases h2 : sortB op = 2
 ·rw [if_pos h2, if_pos h2]
  exact filt_next fun n => filt_ret (by unfold okIns; rw [show okRf chk lim rf0 = true from ok_rf0 ..]; simp [h2])
 rw [if_neg h2, if_neg h2]
 by_cases h3 : sortB op = 3
 ·rw [if_pos h3, if_pos h3]
  exact filt_next fun n => filt_ret (by unfold okIns; rw [show okRf chk lim rf0 = true from ok_rf0 ..]; simp [h3])
 rw [if_neg h3, if_neg h3]
 by_cases h4 : sortB op = 4
 ·rw [if_pos h4, if_pos h4]
  exact filt_next fun n => filt_ret (by unfold okIns; rw [ok_rf0]; simp [h4])
 rw [if_neg h4, if_neg h4]
 by_cases h5 : sortB op = 5
 ·rw [if_pos h5, if_pos h5]
  refine filt_next fun c => filt_next fun n => filt_then (pTy_filt chk) (fun t ht => filt_ret ?_) ?_
  ·simp [okIns, okRf, okL_nil, ht, h5]
  ·intro t s y r h ht
   obtain ⟨rfl, _⟩ := pRet_some.1 h
   simp [okIns, okRf, ht]
 rw [if_neg h5, if_neg h5]
 by_cases h6 : sortB op = 6
 ·rw [if_pos h6, if_pos h6]
  refine filt_next fun c => filt_next fun n => filt_then (pList_filt lim 1 6 (pTy_filt chk)) (fun ps hps => filt_then (pTy_filt chk) (fun t ht => filt_ret ?_) ?_) ?_
  ·simp [okIns, okRf, hps, ht, h6]
  ·intro t s y r h ht
   obtain ⟨rfl, _⟩ := pRet_some.1 h
   simp [okIns, okRf, ht]
  ·intro ps s y r h hps
   obtain ⟨t, s', _, h2⟩ := pThen_some.1 h
   obtain ⟨rfl, _⟩ := pRet_some.1 h2
   simp [okIns, okRf, hps]
 rw [if_neg h6, if_neg h6]
 by_cases h7 : (chk && decide (sortB op = -1)) = true
 ·rw [if_pos h7, if_neg (by simp)]
  funext s
  simp [filt, pNo, pRet, okIns, h7]
 ·rw [if_neg h7, if_neg (by simp)]
  refine filt_ret ?_
  unfold okIns
  rw [show okRf chk lim rf0 = true from ok_rf0 .., Bool.eq_false_iff.2 h7]; rfl
def okFr (chk lim : Bool) (f : Fr) : Bool := okL lim 20 (okTy chk) f.locals && okL lim 20 (okTy chk) f.stack
theorem pFr_filt (chk lim : Bool) : pFr chk lim = filt (okFr chk lim) (pFr false false) := by
 unfold pFr
 refine filt_next fun a => filt_then (pList_filt lim 1 20 (pTy_filt chk)) (fun l hl => filt_then (pList_filt lim 1 20 (pTy_filt chk)) (fun s hs => filt_ret ?_) ?_) ?_
 ·simp [okFr, hl, hs]
 ·intro s s1 y r h hs
  obtain ⟨rfl, _⟩ := pRet_some.1 h
  simp [okFr, hs]
 ·intro l s1 y r h hl
  obtain ⟨t, s', _, h2⟩ := pThen_some.1 h
  obtain ⟨rfl, _⟩ := pRet_some.1 h2
  simp [okFr, hl]
def okFd (chk : Bool) (f : Fld) : Bool := okTy chk f.ty
theorem pFd_filt (chk : Bool) : pFd chk = filt (okFd chk) (pFd false) := by
 unfold pFd
 refine filt_next fun n => filt_next fun b => filt_then (pTy_filt chk) (fun t ht => filt_ret ?_) ?_
 ·exact ht
 ·intro s s1 y r h hs
  obtain ⟨rfl, _⟩ := pRet_some.1 h
  exact hs
theorem pHd_filt : pHd = filt (fun _ => true) pHd := filt_true _
def okMe (chk lim : Bool) (m : Me) : Bool :=
 okL lim 6 (okTy chk) m.params && okTy chk m.result && okL lim 200 (okIns chk lim) m.code && okL lim 10 (fun _ => true) m.handlers && okL lim 60 (okFr chk lim) m.frames
theorem pMe_filt (chk lim : Bool) : pMe chk lim = filt (okMe chk lim) (pMe false false) := by
 unfold pMe
 refine filt_next fun nm => filt_next fun st => ?_
 refine filt_then (pList_filt lim 1 6 (pTy_filt chk)) (fun ps hps => ?_) ?_
 ·refine filt_then (pTy_filt chk) (fun t ht => ?_) ?_
  ·refine filt_next fun lo => filt_next fun sk => ?_
   refine filt_then (pList_filt lim 2 200 (pIns_filt chk lim)) (fun cd hcd => ?_) ?_
   ·refine filt_then (pList_filt lim 1 10 pHd_filt) (fun hs hhs => ?_) ?_
    ·refine filt_then (pList_filt lim 1 60 (pFr_filt chk lim)) (fun fs hfs => filt_ret ?_) ?_
     ·simp [okMe, hps, ht, hcd, hhs, hfs]
     ·intro a s1 y r h ha
      obtain ⟨rfl, _⟩ := pRet_some.1 h
      simp [okMe, ha]
    ·intro a s1 y r h ha
     obtain ⟨_, _, _, h⟩ := pThen_some.1 h
     obtain ⟨rfl, _⟩ := pRet_some.1 h
     simp [okMe, ha]
   ·intro a s1 y r h ha
    obtain ⟨_, _, _, h⟩ := pThen_some.1 h
    obtain ⟨_, _, _, h⟩ := pThen_some.1 h
    obtain ⟨rfl, _⟩ := pRet_some.1 h
    simp [okMe, ha]
  ·intro a s1 y r h ha
   obtain ⟨_, _, _, h⟩ := pThen_some.1 h
   obtain ⟨_, _, _, h⟩ := pThen_some.1 h
   obtain ⟨_, _, _, h⟩ := pThen_some.1 h
   obtain ⟨_, _, _, h⟩ := pThen_some.1 h
   obtain ⟨_, _, _, h⟩ := pThen_some.1 h
   obtain ⟨rfl, _⟩ := pRet_some.1 h
   simp [okMe, ha]
 ·intro a s1 y r h ha
  obtain ⟨_, _, _, h⟩ := pThen_some.1 h
  obtain ⟨_, _, _, h⟩ := pThen_some.1 h
  obtain ⟨_, _, _, h⟩ := pThen_some.1 h
  obtain ⟨_, _, _, h⟩ := pThen_some.1 h
  obtain ⟨_, _, _, h⟩ := pThen_some.1 h
  obtain ⟨_, _, _, h⟩ := pThen_some.1 h
  obtain ⟨rfl, _⟩ := pRet_some.1 h
  simp [okMe, ha]
def okCl (chk lim : Bool) (c : Cl) : Bool := okL lim 20 (okFd chk) c.fields && okL lim 20 (okMe chk lim) c.methods
theorem pCl_filt (chk lim : Bool) : pCl chk lim = filt (okCl chk lim) (pCl false false) := by
 unfold pCl
 refine filt_next fun n => filt_next fun s => filt_then (pList_filt lim 1 20 (pFd_filt chk)) (fun fs hfs => filt_then (pList_filt lim 1 20 (pMe_filt chk lim)) (fun ms hms => filt_ret ?_) ?_) ?_
 ·simp [okCl, hfs, hms]
 ·intro a s1 y r h ha
  obtain ⟨rfl, _⟩ := pRet_some.1 h
  simp [okCl, ha]
 ·intro a s1 y r h ha
  obtain ⟨_, _, _, h⟩ := pThen_some.1 h
  obtain ⟨rfl, _⟩ := pRet_some.1 h
  simp [okCl, ha]
/-! ### A class asks all of it -/
theorem isTypeB_ok {chk : Bool} {t : Ty} {a b : Bool} (h : isTypeB t a b = true) : okTy chk t = true := by
 have : t.kind ≤ 5 := by
  unfold isTypeB at h
  repeat (split at h; omega)
  cases h
 have h2 : decide (5 < t.kind) = false := decide_eq_false (by omega)
 unfold okTy; rw [h2]; simp
theorem areTypesB_ok {chk : Bool} {l : List Ty} {b : Bool} (h : areTypesB l b = true) : l.all (okTy chk) = true := by
 unfold areTypesB at h
 rw [List.all_eq_true] at h ⊢
 exact fun t ht => isTypeB_ok (h t ht)
theorem okL_of {α : Type} {lim : Bool} {most : Nat} {g : α → Bool} {l : List α} (h1 : l.length ≤ most) (h2 : l.all g = true) : okL lim most g l = true := by
 unfold okL; rw [h2, decide_eq_false (show ¬ most < l.length by omega)]; simp
theorem isInstrB_ok {chk lim : Bool} {i : Ins} {lo : Int} {n : Nat} (h : isInstrB i lo n = true) : okIns chk lim i = true := by
 have hs : sortB i.op ≠ -1 := by
  intro e
  unfold isInstrB at h
  rw [if_pos (by omega)] at h; cases h
 have hr : okRf chk lim i.ref = true := by
  unfold isInstrB at h
  have hge : -1 ≤ sortB i.op := by unfold sortB; repeat (first | omega | split)
  rw [if_neg (show ¬ sortB i.op < 0 by omega)] at h
  by_cases h4 : sortB i.op < 4
  ·rw [if_pos h4] at h
   split at h
   ·cases h
   ·rename_i hn
    have h1 : i.ref.params = [] := List.eq_nil_of_length_eq_zero (by omega)
    have h2 : i.ref.ty.kind = 0 := by omega
    unfold okRf; rw [h1, okL_nil]; unfold okTy; rw [h2]; simp
  ·rw [if_neg h4] at h
   split at h
   ·cases h
   ·split at h
    ·simp only [Bool.and_eq_true, decide_eq_true_eq] at h
     have h1 : i.ref.params = [] := List.eq_nil_of_length_eq_zero (by omega)
     have h2 : i.ref.ty.kind = 0 := by omega
     unfold okRf; rw [h1, okL_nil]; unfold okTy; rw [h2]; simp
    ·split at h
     ·simp only [Bool.and_eq_true, decide_eq_true_eq] at h
      have h1 : i.ref.params = [] := List.eq_nil_of_length_eq_zero (by omega)
      unfold okRf; rw [h1, okL_nil, isTypeB_ok h.2]; rfl
     ·simp only [Bool.and_eq_true, decide_eq_true_eq] at h
      unfold okRf; rw [okL_of (by omega) (areTypesB_ok h.1.2), isTypeB_ok h.2]; rfl
 unfold okIns; rw [hr, decide_eq_false hs]; simp
theorem isMethodB_ok {chk lim : Bool} {m : Me} (h : isMethodB m = true) : okMe chk lim m = true := by
 unfold isMethodB isHeadB at h
 simp only [Bool.and_eq_true, decide_eq_true_eq] at h
 obtain ⟨⟨⟨⟨⟨⟨⟨⟨⟨⟨⟨⟨⟨⟨h1, h2⟩, h3⟩, h4⟩, h5⟩, h6⟩, h7⟩, h8⟩, h9⟩, h10⟩, h11⟩, h12⟩, h13⟩, h14⟩, h15⟩ := h
 unfold okMe
 rw [okL_of (by omega) (areTypesB_ok h2), isTypeB_ok h3, okL_of (by omega) (List.all_eq_true.2 fun i hi => isInstrB_ok (List.all_eq_true.1 h13 i hi)), okL_of (by omega) (by simp), okL_of (by omega) ?_]; rfl
 rw [List.all_eq_true]
 intro f hf
 obtain ⟨k, hk⟩ := List.mem_iff_getElem?.1 hf
 have hkl : k < m.frames.length := by
  rcases Nat.lt_or_ge k m.frames.length with h' | h'
  ·exact h'
  ·rw [List.getElem?_eq_none h'] at hk; cases hk
 have := List.all_eq_true.1 h15 k (List.mem_range.2 hkl)
 unfold frAt at this
 rw [hk] at this
 unfold isFrB at this
 simp only [Bool.and_eq_true, decide_eq_true_eq] at this
 unfold okFr
 rw [okL_of (by omega) (areTypesB_ok this.1.2), okL_of (by omega) (areTypesB_ok this.2)]; rfl
theorem isClassB_ok {chk lim : Bool} {c : Cl} (h : isClassB c = true) : okCl chk lim c = true := by
 unfold isClassB at h
 simp only [Bool.and_eq_true, decide_eq_true_eq] at h
 obtain ⟨⟨⟨⟨⟨h1, h2⟩, h3⟩, h4⟩, h5⟩, h6⟩ := h
 unfold okCl
 rw [okL_of (by omega) ?_, okL_of (by omega) ?_]; rfl
 ·rw [List.all_eq_true]
  intro f hf
  obtain ⟨k, hk⟩ := List.mem_iff_getElem?.1 hf
  have hkl : k < c.methods.length := by
   rcases Nat.lt_or_ge k c.methods.length with h' | h'
   ·exact h'
   ·rw [List.getElem?_eq_none h'] at hk; cases hk
  have := List.all_eq_true.1 h6 k (List.mem_range.2 hkl)
  unfold meAt at this
  rw [hk] at this
  simp only [Bool.and_eq_true] at this
  exact isMethodB_ok this.1
 ·rw [List.all_eq_true]
  intro f hf
  obtain ⟨k, hk⟩ := List.mem_iff_getElem?.1 hf
  have hkl : k < c.fields.length := by
   rcases Nat.lt_or_ge k c.fields.length with h' | h'
   ·exact h'
   ·rw [List.getElem?_eq_none h'] at hk; cases hk
  have := List.all_eq_true.1 h5 k (List.mem_range.2 hkl)
  unfold fdAt at this
  rw [hk] at this
  simp only [Bool.and_eq_true] at this
  exact isTypeB_ok this.1.2
/-- THE END OF IT: whatever is asked early, the same classes come out. -/
theorem decL_same (chk lim : Bool) (s : List UInt8) : okOnly (decL chk lim s) = okOnly (decL false false s) := by
 unfold decL
 split
 ·rw [pCl_filt chk lim]
  cases h : pCl false false (s.drop 4) with
  | none => simp only [filt, h]
  | some q =>
   obtain ⟨c, r⟩ := q
   simp only [filt, h]
   by_cases hc : isClassB c = true
   ·rw [if_pos (isClassB_ok hc)]
   ·by_cases hk : okCl chk lim c = true
    ·rw [if_pos hk]
    ·rw [if_neg hk]
     by_cases hr : r = []
     ·rw [if_pos hr]
      simp only [okOnly, if_neg hc]
     ·rw [if_neg hr]
 ·rfl
theorem decL_eq (s : List UInt8) : okOnly (decL true false s) = okOnly (decL false true s) := by rw [decL_same, decL_same false true]
end Go.Proofs.YtpofmnfkdkmieaaGreat.At
namespace Go.Proofs.YtpofmnfkdkmieaaGreat
open Go Go.RowKit At E
theorem flat_get {β : Type} (cell : β → List Value) (k : Nat) : ∀ (l : List β) (_ : ∀ x ∈ l, (cell x).length = k) (i j : Nat) (x : β) (u : Value), l[i]? = some x → (cell x)[j]? = some u → (l.flatMap cell)[i * k + j]? = some u
 | [], _, i, _, x, _, hi, _ => by simp at hi
 | y :: l, hl, 0, j, x, u, hi, hj => by
  simp at hi
  subst hi
  rw [List.flatMap_cons, Nat.zero_mul, Nat.zero_add]
  have : j < (cell y).length := by
   rcases Nat.lt_or_ge j (cell y).length with h | h
   ·exact h
   ·rw [List.getElem?_eq_none h] at hj; cases hj
  rw [List.getElem?_append_left this]; exact hj
 | y :: l, hl, i + 1, j, x, u, hi, hj => by
  have hy := hl y List.mem_cons_self
  rw [List.flatMap_cons, List.getElem?_append_right (by rw [hy, Nat.add_mul]; omega), hy]
  have e : (i + 1) * k + j - k = i * k + j := by rw [Nat.add_mul]; omega
  rw [e]
  exact flat_get cell k l (fun z hz => hl z (List.mem_cons_of_mem _ hz)) i j x u (by simpa using hi) hj
theorem flat_length {β : Type} (cell : β → List Value) (k : Nat) : ∀ (l : List β) (_ : ∀ x ∈ l, (cell x).length = k), (l.flatMap cell).length = l.length * k
 | [], _ => by simp
 | y :: l, hl => by
  rw [List.flatMap_cons, List.length_append, hl y List.mem_cons_self, flat_length cell k l (fun z hz => hl z (List.mem_cons_of_mem _ hz)), List.length_cons, Nat.add_mul]; omega
/-- A list of one's own lies there. -/
theorem ListAt.of_own {α β : Type} {k e : Nat} {El : World → List Value → α → Prop} {w : World} {v : Value} (f : β → α) (cell : β → List Value) (ls : List β) (h : w.ownsRow 0 e k v ls.length (ls.flatMap cell)) (hk : ∀ x ∈ ls, (cell x).length = k) (hl : ls.length ≤ 1048576)
  (hEl : ∀ x ∈ ls, El w (cell x) (f x)) : ListAt k El w v (ls.map f) := by
 rcases h.2 with ⟨rfl, h0⟩ | ⟨g, cap, cur, hv, _, hg, hnc, _⟩
 ·have : ls = [] := List.eq_nil_of_length_eq_zero h0
  subst this
  exact ⟨none, 0, rfl, ⟨by simp, by simp⟩, fun i x hi => by simp at hi⟩
 ·refine ⟨some ⟨g, 0, none⟩, cap, by rw [List.length_map]; exact hv, ⟨by rw [List.length_map]; exact hl, by rw [List.length_map]; exact hnc⟩, fun i x hi => ?_⟩
  rw [List.getElem?_map] at hi
  cases hy : ls[i]? with
  | none => rw [hy] at hi; cases hi
  | some y =>
   rw [hy] at hi
   cases hi
   have hm := List.mem_of_getElem? hy
   refine ⟨g, 0, cell y, rfl, (h.lt g (by rw [hv]; rfl)).2, hEl y hm, fun j u hj => ?_⟩
   have := h.cells (g := g) (by rw [hv]; rfl) (i * k + j) u (flat_get cell k ls hk i j y u hy hj)
   rw [Addr.add_lit] at this
   rw [Nat.zero_add]; rw [Nat.zero_add] at this; exact this
def tysOk (l : List Ty) : Prop := l.length ≤ 1048576 ∧ ∀ t ∈ l, tyOk t
def tysA (v : Value) (l : List Ty) : Asr := ownA 71 2 v l.length (l.flatMap tyV)
theorem tysA_at {w : World} {v : Value} {l : List Ty} (h : (tysA v l).A w) (ho : tysOk l) : TysAt w v l := by
 have := ListAt.of_own (El := TyEl) id tyV l h (fun _ _ => rfl) ho.1 (fun t ht => ⟨rfl, ho.2 t ht⟩)
 rw [List.map_id] at this; exact this
def insC (p : Ins × Value) : List Value := insV p.1 p.2
def inssA (v : Value) (ls : List (Ins × Value)) : Asr := (ownA 75 7 v ls.length (ls.flatMap insC)).and (bigA (ls.map fun p => tysA p.2 p.1.ref.params))
def inssOk (ls : List (Ins × Value)) : Prop := ls.length ≤ 1048576 ∧ ∀ p ∈ ls, insOk p.1 ∧ tysOk p.1.ref.params
theorem bigA_mem {β : Type} {g : β → Asr} {ls : List β} {w : World} (h : (bigA (ls.map g)).A w) : ∀ p ∈ ls, (g p).A w := by
 intro p hp
 obtain ⟨k, hk⟩ := List.mem_iff_getElem?.1 hp
 exact (bigA_take (ls.map g) k (g p) (by rw [List.getElem?_map, hk]; rfl)).a w h
theorem inssA_at {w : World} {v : Value} {ls : List (Ins × Value)} (h : (inssA v ls).A w) (ho : inssOk ls) : InssAt w v (ls.map (·.1)) :=
 ListAt.of_own (El := InsEl) (·.1) insC ls h.1 (fun _ _ => rfl) ho.1 (fun p hp => ⟨p.2, rfl, tysA_at (bigA_mem h.2.1 p hp) (ho.2 p hp).2, (ho.2 p hp).1⟩)
def hdsA (v : Value) (l : List Hd) : Asr := ownA 169 4 v l.length (l.flatMap hdV)
def hdsOk (l : List Hd) : Prop := l.length ≤ 1048576 ∧ ∀ h ∈ l, hdOk h
theorem hdsA_at {w : World} {v : Value} {l : List Hd} (h : (hdsA v l).A w) (ho : hdsOk l) : HdsAt w v l := by
 have := ListAt.of_own (El := HdEl) id hdV l h (fun _ _ => rfl) ho.1 (fun t ht => ⟨rfl, ho.2 t ht⟩)
 rw [List.map_id] at this; exact this
def fdsA (v : Value) (l : List Fld) : Asr := ownA 128 4 v l.length (l.flatMap fdV)
def fdsOk (l : List Fld) : Prop := l.length ≤ 1048576 ∧ ∀ h ∈ l, fdOk h
theorem fdsA_at {w : World} {v : Value} {l : List Fld} (h : (fdsA v l).A w) (ho : fdsOk l) : FdsAt w v l := by
 have := ListAt.of_own (El := FdEl) id fdV l h (fun _ _ => rfl) ho.1 (fun t ht => ⟨rfl, ho.2 t ht⟩)
 rw [List.map_id] at this; exact this
def frC (p : Fr × Value × Value) : List Value := frV p.1 p.2.1 p.2.2
def frA (p : Fr × Value × Value) : Asr := (tysA p.2.1 p.1.locals).and (tysA p.2.2 p.1.stack)
def frsA (v : Value) (ls : List (Fr × Value × Value)) : Asr := (ownA 176 3 v ls.length (ls.flatMap frC)).and (bigA (ls.map frA))
def frOk (f : Fr) : Prop := intOk f.pos ∧ tysOk f.locals ∧ tysOk f.stack
def frsOk (ls : List (Fr × Value × Value)) : Prop := ls.length ≤ 1048576 ∧ ∀ p ∈ ls, frOk p.1
theorem frsA_at {w : World} {v : Value} {ls : List (Fr × Value × Value)} (h : (frsA v ls).A w) (ho : frsOk ls) : FrsAt w v (ls.map (·.1)) :=
 ListAt.of_own (El := FrEl) (·.1) frC ls h.1 (fun _ _ => rfl) ho.1 (fun p hp => by
  have hb := bigA_mem h.2.1 p hp
  have hk := ho.2 p hp
  exact ⟨p.2.1, p.2.2, rfl, tysA_at hb.1 hk.2.1, tysA_at hb.2.1 hk.2.2, hk.1⟩)
/-- Where the lists of a method lie. -/
structure MeM where
 pv : Value
 cv : Value
 hv : Value
 fv : Value
 cs : List (Ins × Value)
 fs : List (Fr × Value × Value)
def meC (p : Me × MeM) : List Value := meV p.1 p.2.pv p.2.cv p.2.hv p.2.fv
def meA (p : Me × MeM) : Asr := (tysA p.2.pv p.1.params).and ((inssA p.2.cv p.2.cs).and ((hdsA p.2.hv p.1.handlers).and (frsA p.2.fv p.2.fs)))
structure MeFit (p : Me × MeM) : Prop where
 code : p.2.cs.map (·.1) = p.1.code
 frames : p.2.fs.map (·.1) = p.1.frames
 ok : meOk p.1
 ps : tysOk p.1.params
 cs : inssOk p.2.cs
 hs : hdsOk p.1.handlers
 fs : frsOk p.2.fs
theorem meA_at {w : World} {p : Me × MeM} (h : (meA p).A w) (hf : MeFit p) : MeParts w p.1 p.2.pv p.2.cv p.2.hv p.2.fv := by
 refine ⟨tysA_at h.1 hf.ps, ?_, hdsA_at h.2.1.2.1.1 hf.hs, ?_, hf.ok⟩
 ·have := inssA_at h.2.1.1 hf.cs
  rw [hf.code] at this; exact this
 ·have := frsA_at h.2.1.2.1.2.1 hf.fs
  rw [hf.frames] at this; exact this
def mesA (v : Value) (ls : List (Me × MeM)) : Asr := (ownA 134 10 v ls.length (ls.flatMap meC)).and (bigA (ls.map meA))
def mesFit (ls : List (Me × MeM)) : Prop := ls.length ≤ 1048576 ∧ ∀ p ∈ ls, MeFit p
theorem mesA_at {w : World} {v : Value} {ls : List (Me × MeM)} (h : (mesA v ls).A w) (ho : mesFit ls) : MesAt w v (ls.map (·.1)) :=
 ListAt.of_own (El := MeEl) (·.1) meC ls h.1 (fun _ _ => rfl) ho.1 (fun p hp => ⟨p.2.pv, p.2.cv, p.2.hv, p.2.fv, rfl, meA_at (bigA_mem h.2.1 p hp) (ho.2 p hp)⟩)
/-- A class with where its lists lie. -/
structure ClM where
 fv : Value
 mv : Value
 ms : List (Me × MeM)
def clA (c : Cl) (k : ClM) : Asr := (fdsA k.fv c.fields).and (mesA k.mv k.ms)
structure ClFit (c : Cl) (k : ClM) : Prop where
 ms : k.ms.map (·.1) = c.methods
 ok : strOk c.name ∧ strOk c.super
 fs : fdsOk c.fields
 mo : mesFit k.ms
theorem clA_at {w : World} {c : Cl} {k : ClM} (h : (clA c k).A w) (hf : ClFit c k) : ClAt w c k.fv k.mv := by
 refine ⟨fdsA_at h.1 hf.fs, ?_, hf.ok⟩
 have := mesA_at h.2.1 hf.mo
 rw [hf.ms] at this; exact this
end Go.Proofs.YtpofmnfkdkmieaaGreat
namespace Go.Proofs.YtpofmnfkdkmieaaGreat
open Go Go.RowKit At E
/-! ### Numbers of several bytes -/
theorem leN_lt : ∀ l : List UInt8, leN l < 256 ^ l.length
 | [] => by simp [leN]
 | b :: r => by
  have := leN_lt r
  have hb := b.toNat_lt
  rw [leN, List.length_cons, Nat.pow_succ]
  omega
theorem leN_append : ∀ l m : List UInt8, leN (l ++ m) = leN l + 256 ^ l.length * leN m
 | [], m => by simp [leN]
 | b :: r, m => by
  rw [List.cons_append, leN, leN, leN_append r m, List.length_cons, Nat.pow_succ, Nat.mul_add, ← Nat.add_assoc, ← Nat.mul_assoc, Nat.mul_comm 256 (256 ^ r.length)]
theorem toI_small {n : Nat} (h : n < 9223372036854775808) : toI n = (n : Int) := by unfold toI; rw [if_pos h]
theorem toI_wrap {n : Nat} (h : n < 18446744073709551616) : IntKind.i64.wrap (n : Int) = toI n := by
 rw [IntWalk.i64_left]; unfold wrap64 toI; split <;> omega
theorem toI_ok {n : Nat} (h : n < 18446744073709551616) : intOk (toI n) := by unfold intOk toI; split <;> omega
theorem pTake_some {n : Nat} {s l r : List UInt8} (h : pTake n s = some (l, r)) : l = s.take n ∧ r = s.drop n ∧ n ≤ s.length := by
 unfold pTake at h
 split at h
 ·cases h; exact ⟨rfl, rfl, by assumption⟩
 ·cases h
theorem pTake_ok {n : Nat} {s : List UInt8} (h : n ≤ s.length) : pTake n s = some (s.take n, s.drop n) := by unfold pTake; rw [if_pos h]
theorem pTake_no {n : Nat} {s : List UInt8} (h : ¬ n ≤ s.length) : pTake n s = none := by unfold pTake; rw [if_neg h]
theorem pNum_ok {n : Nat} {s : List UInt8} (h : n ≤ s.length) : pNum n s = some (leN (s.take n), s.drop n) := by unfold pNum pThen; rw [pTake_ok h]; rfl
theorem pNum_no {n : Nat} {s : List UInt8} (h : ¬ n ≤ s.length) : pNum n s = none := by unfold pNum pThen; rw [pTake_no h]
theorem pNum_lt {n k : Nat} {s r : List UInt8} (h : pNum n s = some (k, r)) : k < 256 ^ n := by
 rcases Nat.lt_or_ge s.length n with h' | h'
 ·rw [pNum_no (by omega)] at h; cases h
 ·rw [pNum_ok h'] at h; cases h
  have := leN_lt (s.take n)
  rw [List.length_take, Nat.min_eq_left h'] at this; exact this
/-! ### Lists, one after the other -/
def pFrom {α : Type} (p : Ps α) (xs : List α) (n : Nat) : Ps (List α) := pThen (pMany p n) fun l => pRet (xs ++ l)
theorem pFrom_zero {α : Type} (p : Ps α) (xs : List α) : pFrom p xs 0 = pRet xs := by
 funext s; simp [pFrom, pMany, pThen, pRet]
theorem pThen_assoc {α β γ : Type} (p : Ps α) (f : α → Ps β) (g : β → Ps γ) : pThen (pThen p f) g = pThen p fun x => pThen (f x) g := by
 funext s
 unfold pThen
 cases p s with
 | none => rfl
 | some q => rfl
theorem pRet_then {α β : Type} (x : α) (f : α → Ps β) : pThen (pRet x) f = f x := by funext s; rfl
theorem pFrom_succ {α : Type} (p : Ps α) (xs : List α) (n : Nat) : pFrom p xs (n + 1) = pThen p fun x => pFrom p (xs ++ [x]) n := by
 unfold pFrom
 rw [show pMany p (n + 1) = pThen p fun x => pThen (pMany p n) fun l => pRet (x :: l) from rfl, pThen_assoc]
 refine congrArg (pThen p) (funext fun x => ?_)
 rw [pThen_assoc]
 refine congrArg (pThen (pMany p n)) (funext fun l => ?_)
 rw [pRet_then, List.append_assoc]; rfl
theorem pMany_from {α : Type} (p : Ps α) (n : Nat) : pMany p n = pFrom p [] n := by
 unfold pFrom
 funext s
 simp only [List.nil_append]
 unfold pThen
 cases pMany p n s with
 | none => rfl
 | some q => rfl
/-! ### A tape: none: it went wrong -/
def TpAt (s : ByteArray) (σ : Option (List UInt8)) (cs : List Value) : Prop :=
 ∃ q : Nat, q ≤ s.size ∧ cs = [.string s, .int .i64 (q : Nat), .bool σ.isNone] ∧ ∀ r, σ = some r → r = s.data.toList.drop q
/-- What p does from σ on is x, and then σ'. -/
def TpStep {α : Type} (p : Ps α) (σ : Option (List UInt8)) (x : α) (σ' : Option (List UInt8)) : Prop := σ.bind p = σ'.map fun r => (x, r)
theorem step_then {α β : Type} {p : Ps α} {f : α → Ps β} {σ σ' : Option (List UInt8)} {x : α} (h : TpStep p σ x σ') : σ.bind (pThen p f) = σ'.bind (f x) := by
 unfold TpStep at h
 cases σ with
 | none =>
  cases σ' with
  | none => rfl
  | some r => cases h
 | some s =>
  simp only [Option.bind_some] at h ⊢
  cases σ' with
  | none => simp only [Option.map_none] at h; unfold pThen; rw [h]; rfl
  | some r => simp only [Option.map_some] at h; unfold pThen; rw [h]; rfl
/-- It goes on: what is left to be read is told by q. -/
def Wa {β : Type} (σ0 : Option (List UInt8)) (p : Ps β) (σ : Option (List UInt8)) (q : Ps β) : Prop := σ0.bind p = σ.bind q
theorem Wa.first {β : Type} (σ : Option (List UInt8)) (p : Ps β) : Wa σ p σ p := rfl
theorem Wa.next {α β : Type} {σ0 σ σ' : Option (List UInt8)} {P : Ps β} {p : Ps α} {f : α → Ps β} {x : α} (h : Wa σ0 P σ (pThen p f)) (k : TpStep p σ x σ') : Wa σ0 P σ' (f x) := by
 unfold Wa at h ⊢; rw [h, step_then k]
theorem Wa.done {β : Type} {σ0 σ : Option (List UInt8)} {P : Ps β} {x : β} (h : Wa σ0 P σ (pRet x)) : TpStep P σ0 x σ := by
 unfold Wa at h; unfold TpStep; rw [h]
 cases σ <;> rfl
theorem Wa.bad {β : Type} {σ0 : Option (List UInt8)} {P q : Ps β} (h : Wa σ0 P none q) (x : β) : TpStep P σ0 x none := by
 unfold Wa at h; unfold TpStep; rw [h]; rfl
theorem Wa.of {β : Type} {σ0 σ : Option (List UInt8)} {P q q' : Ps β} (h : Wa σ0 P σ q) (e : q = q') : Wa σ0 P σ q' := e ▸ h
/-- What went wrong by asking. -/
theorem Wa.ask {β : Type} {σ0 σ : Option (List UInt8)} {P q : Ps β} (h : Wa σ0 P σ pNo) : Wa σ0 P none q := by
 unfold Wa at h ⊢; rw [h]; cases σ <;> rfl
theorem isNone_none {σ : Option (List UInt8)} (h : σ.isNone = true) : σ = none := by cases σ <;> simp_all
theorem isNone_some {σ : Option (List UInt8)} (h : σ.isNone = false) : ∃ r, σ = some r := by cases σ <;> simp_all
end Go.Proofs.YtpofmnfkdkmieaaGreat
