/- What is proved here: the statement's book as a whole: each keeping, over all sorts of lists. rules for a row of bytes that is made, written full with a text, and taken for a text. the program's reader (package wire): pieces, numbers, flags, names, types. -/
import Derived.Test.YtpofmnfkdkmieaaGreatQ18
import Derived.Test.YtpofmnfkdkmieaaGreatQ04
import Derived.Laws.MakeOwn
import Derived.Lib.UnsafeStr
import Derived.Lib.BufferWrite
import Derived.Test.YtpofmnfkdkmieaaGreatQ15
import Derived.Test.YtpofmnfkdkmieaaGreatQ13
set_option linter.unusedVariables false
set_option linter.unusedSimpArgs false
namespace Go.Proofs.YtpofmnfkdkmieaaGreat
open Go Go.RowKit At E
theorem RkP.leads {P : Program} {f : FuncId} {args : Array Value} {b : Nat} {cs : List Value} {Rin Rin' : Asr} {ok : Value → List Value → Asr → Prop} (h : RkP P f args b cs Rin ok) (i : Rin'.Imp Rin) : RkP P f args b cs Rin' (fun v cs' R'' => ∃ R', ok v cs' R' ∧ R'' = R'.and Asr.none) := by
 intro w hs
 have hs' : Sat w (b :: Rin'.S) [(b, cs)] (Rin.and Asr.none) w := hs.leads (i.trans (Asr.addNone _))
 refine Calls.mono (h w (rk_now (i := 0) hs' rfl)) ?_
 rintro e w' ⟨v, cs', R', rfl, hok, hw⟩
 exact ⟨v, cs', _, rfl, ⟨R', hok, rfl⟩, rk_then (i := 0) hs' rfl hw⟩
theorem RkP.frame {P : Program} {f : FuncId} {args : Array Value} {b : Nat} {cs : List Value} {Rin Rx Rin' : Asr} {ok : Value → List Value → Asr → Prop} (h : RkP P f args b cs Rin ok) (i : Rin'.Imp (Rin.and Rx)) : RkP P f args b cs Rin' (fun v cs' R'' => ∃ R', ok v cs' R' ∧ R'' = R'.and Rx) := by
 intro w hs
 have hs' : Sat w (b :: Rin'.S) [(b, cs)] (Rin.and Rx) w := hs.leads i
 refine Calls.mono (h w (rk_now (i := 0) hs' rfl)) ?_
 rintro e w' ⟨v, cs', R', rfl, hok, hw⟩
 exact ⟨v, cs', _, rfl, ⟨R', hok, rfl⟩, rk_then (i := 0) hs' rfl hw⟩
theorem RkP.mono {P : Program} {f : FuncId} {args : Array Value} {b : Nat} {cs : List Value} {Rin : Asr} {ok ok' : Value → List Value → Asr → Prop} (h : RkP P f args b cs Rin ok) (k : ∀ v cs' R', ok v cs' R' → ok' v cs' R') : RkP P f args b cs Rin ok' := by
 intro w hs
 refine Calls.mono (h w hs) ?_
 rintro e w' ⟨v, cs', R', rfl, hok, hw⟩
 exact ⟨v, cs', R', rfl, k _ _ _ hok, hw⟩
/-- A book: of each sort where its row lies, and the lists. -/
structure Bk where
 vT : Value
 vI : Value
 vF : Value
 vM : Value
 vH : Value
 vR : Value
 sT : List Value
 sI : List Value
 sF : List Value
 sM : List Value
 sH : List Value
 sR : List Value
def Bk.C (k : Bk) : List Value := bkC k.vT k.vI k.vF k.vM k.vH k.vR
def six (A B C D E F : Asr) : Asr := A.and (B.and (C.and (D.and (E.and F))))
def bookA (k : Bk) : Asr := six (sortA 69 tyMk k.vT k.sT) (sortA 76 inMk k.vI k.sI) (sortA 22 fdMk k.vF k.sF) (sortA 23 meMk k.vM k.sM) (sortA 131 hdMk k.vH k.sH) (sortA 132 frMk k.vR k.sR)
structure BkOk (k : Bk) (N : Nat) : Prop where
 t : k.sT.length % 4 = 0 ∧ k.sT.length ≤ N
 i : k.sI.length % 4 = 0 ∧ k.sI.length ≤ N
 f : k.sF.length % 4 = 0 ∧ k.sF.length ≤ N
 m : k.sM.length % 4 = 0 ∧ k.sM.length ≤ N
 h : k.sH.length % 4 = 0 ∧ k.sH.length ≤ N
 r : k.sR.length % 4 = 0 ∧ k.sR.length ≤ N
section
variable (A B C D E F : Asr)
theorem out1 : (six A B C D E F).Imp (A.and (B.and (C.and (D.and (E.and F))))) := .refl _
theorem in1 : (A.and (B.and (C.and (D.and (E.and F))))).Imp (six A B C D E F) := .refl _
theorem out2 : (six A B C D E F).Imp (B.and (A.and (C.and (D.and (E.and F))))) := Asr.swap _ _ _
theorem in2 : (B.and (A.and (C.and (D.and (E.and F))))).Imp (six A B C D E F) := Asr.swap _ _ _
theorem out3 : (six A B C D E F).Imp (C.and (A.and (B.and (D.and (E.and F))))) := (Asr.Imp.right (Asr.swap _ _ _)).trans (Asr.swap _ _ _)
theorem in3 : (C.and (A.and (B.and (D.and (E.and F))))).Imp (six A B C D E F) := (Asr.swap _ _ _).trans (Asr.Imp.right (Asr.swap _ _ _))
theorem out4 : (six A B C D E F).Imp (D.and (A.and (B.and (C.and (E.and F))))) := (Asr.Imp.right (Asr.Imp.right (Asr.swap _ _ _))).trans (out3 A B D C E F)
theorem in4 : (D.and (A.and (B.and (C.and (E.and F))))).Imp (six A B C D E F) := (in3 A B D C E F).trans (Asr.Imp.right (Asr.Imp.right (Asr.swap _ _ _)))
theorem out5 : (six A B C D E F).Imp (E.and (A.and (B.and (C.and (D.and F))))) := (Asr.Imp.right (Asr.Imp.right (Asr.Imp.right (Asr.swap _ _ _)))).trans (out4 A B C E D F)
theorem in5 : (E.and (A.and (B.and (C.and (D.and F))))).Imp (six A B C D E F) := (in4 A B C E D F).trans (Asr.Imp.right (Asr.Imp.right (Asr.Imp.right (Asr.swap _ _ _))))
theorem out6 : (six A B C D E F).Imp (F.and (A.and (B.and (C.and (D.and E))))) := (Asr.Imp.right (Asr.Imp.right (Asr.Imp.right (Asr.Imp.right (Asr.comm _ _))))).trans (out5 A B C D F E)
theorem in6 : (F.and (A.and (B.and (C.and (D.and E))))).Imp (six A B C D E F) := (in5 A B C D F E).trans (Asr.Imp.right (Asr.Imp.right (Asr.Imp.right (Asr.Imp.right (Asr.comm _ _)))))
end
/-- What each keeping gives. -/
def bkOk (N : Nat) : Value → List Value → Asr → Prop := fun _ cs' R' => ∃ bk', cs' = Bk.C bk' ∧ R'.Imp (bookA bk') ∧ BkOk bk' N
theorem kpTypes (b : Nat) (bk : Bk) (N : Nat) (hN : N + 4 ≤ 1099511627776) (hbk : BkOk bk N) (l : Value) (n : Nat) (xs : List Value) (hn : n ≤ 2000000) :
  RkP Tryz.prog 81 #[.pointer (some ⟨b, 0, none⟩), l] b bk.C ((ownA 71 2 l n xs).and (bookA bk)) (bkOk (N + 4)) := by
 have h0 := hbk.t
 refine RkP.mono (RkP.frame (keepTypes_any b bk.vT bk.vI bk.vF bk.vM bk.vH bk.vR l bk.sT xs n h0.1 (by omega) hn) ((Asr.Imp.right (out1 _ _ _ _ _ _)).trans (Asr.cossa _ _ _))) ?_
 rintro v cs' R'' ⟨R', ⟨v', us, hus, rfl, hR⟩, rfl⟩
 refine ⟨{ bk with vT := v', sT := bk.sT ++ us }, rfl, (Asr.Imp.left hR).trans (in1 _ _ _ _ _ _), ?_⟩
 have h1 := hbk.t; have h2 := hbk.i; have h3 := hbk.f; have h4 := hbk.m; have h5 := hbk.h; have h6 := hbk.r
 have hl : (bk.sT ++ us).length = bk.sT.length + 4 := by rw [List.length_append, hus]
 constructor <;> dsimp only <;> (try rw [hl]) <;> omega
theorem kpInstrs (b : Nat) (bk : Bk) (N : Nat) (hN : N + 4 ≤ 1099511627776) (hbk : BkOk bk N) (l : Value) (n : Nat) (xs : List Value) (hn : n ≤ 2000000) :
  RkP Tryz.prog 82 #[.pointer (some ⟨b, 0, none⟩), l] b bk.C ((ownA 75 7 l n xs).and (bookA bk)) (bkOk (N + 4)) := by
 have h0 := hbk.i
 refine RkP.mono (RkP.frame (keepInstrs_any b bk.vT bk.vI bk.vF bk.vM bk.vH bk.vR l bk.sI xs n h0.1 (by omega) hn) ((Asr.Imp.right (out2 _ _ _ _ _ _)).trans (Asr.cossa _ _ _))) ?_
 rintro v cs' R'' ⟨R', ⟨v', us, hus, rfl, hR⟩, rfl⟩
 refine ⟨{ bk with vI := v', sI := bk.sI ++ us }, rfl, (Asr.Imp.left hR).trans (in2 _ _ _ _ _ _), ?_⟩
 have h1 := hbk.t; have h2 := hbk.i; have h3 := hbk.f; have h4 := hbk.m; have h5 := hbk.h; have h6 := hbk.r
 have hl : (bk.sI ++ us).length = bk.sI.length + 4 := by rw [List.length_append, hus]
 constructor <;> dsimp only <;> (try rw [hl]) <;> omega
theorem kpFields (b : Nat) (bk : Bk) (N : Nat) (hN : N + 4 ≤ 1099511627776) (hbk : BkOk bk N) (l : Value) (n : Nat) (xs : List Value) (hn : n ≤ 2000000) :
  RkP Tryz.prog 83 #[.pointer (some ⟨b, 0, none⟩), l] b bk.C ((ownA 128 4 l n xs).and (bookA bk)) (bkOk (N + 4)) := by
 have h0 := hbk.f
 refine RkP.mono (RkP.frame (keepFields_any b bk.vT bk.vI bk.vF bk.vM bk.vH bk.vR l bk.sF xs n h0.1 (by omega) hn) ((Asr.Imp.right (out3 _ _ _ _ _ _)).trans (Asr.cossa _ _ _))) ?_
 rintro v cs' R'' ⟨R', ⟨v', us, hus, rfl, hR⟩, rfl⟩
 refine ⟨{ bk with vF := v', sF := bk.sF ++ us }, rfl, (Asr.Imp.left hR).trans (in3 _ _ _ _ _ _), ?_⟩
 have h1 := hbk.t; have h2 := hbk.i; have h3 := hbk.f; have h4 := hbk.m; have h5 := hbk.h; have h6 := hbk.r
 have hl : (bk.sF ++ us).length = bk.sF.length + 4 := by rw [List.length_append, hus]
 constructor <;> dsimp only <;> (try rw [hl]) <;> omega
theorem kpMethods (b : Nat) (bk : Bk) (N : Nat) (hN : N + 4 ≤ 1099511627776) (hbk : BkOk bk N) (l : Value) (n : Nat) (xs : List Value) (hn : n ≤ 2000000) :
  RkP Tryz.prog 86 #[.pointer (some ⟨b, 0, none⟩), l] b bk.C ((ownA 134 10 l n xs).and (bookA bk)) (bkOk (N + 4)) := by
 have h0 := hbk.m
 refine RkP.mono (RkP.frame (keepMethods_any b bk.vT bk.vI bk.vF bk.vM bk.vH bk.vR l bk.sM xs n h0.1 (by omega) hn) ((Asr.Imp.right (out4 _ _ _ _ _ _)).trans (Asr.cossa _ _ _))) ?_
 rintro v cs' R'' ⟨R', ⟨v', us, hus, rfl, hR⟩, rfl⟩
 refine ⟨{ bk with vM := v', sM := bk.sM ++ us }, rfl, (Asr.Imp.left hR).trans (in4 _ _ _ _ _ _), ?_⟩
 have h1 := hbk.t; have h2 := hbk.i; have h3 := hbk.f; have h4 := hbk.m; have h5 := hbk.h; have h6 := hbk.r
 have hl : (bk.sM ++ us).length = bk.sM.length + 4 := by rw [List.length_append, hus]
 constructor <;> dsimp only <;> (try rw [hl]) <;> omega
theorem kpHandlers (b : Nat) (bk : Bk) (N : Nat) (hN : N + 4 ≤ 1099511627776) (hbk : BkOk bk N) (l : Value) (n : Nat) (xs : List Value) (hn : n ≤ 2000000) :
  RkP Tryz.prog 84 #[.pointer (some ⟨b, 0, none⟩), l] b bk.C ((ownA 169 4 l n xs).and (bookA bk)) (bkOk (N + 4)) := by
 have h0 := hbk.h
 refine RkP.mono (RkP.frame (keepHandlers_any b bk.vT bk.vI bk.vF bk.vM bk.vH bk.vR l bk.sH xs n h0.1 (by omega) hn) ((Asr.Imp.right (out5 _ _ _ _ _ _)).trans (Asr.cossa _ _ _))) ?_
 rintro v cs' R'' ⟨R', ⟨v', us, hus, rfl, hR⟩, rfl⟩
 refine ⟨{ bk with vH := v', sH := bk.sH ++ us }, rfl, (Asr.Imp.left hR).trans (in5 _ _ _ _ _ _), ?_⟩
 have h1 := hbk.t; have h2 := hbk.i; have h3 := hbk.f; have h4 := hbk.m; have h5 := hbk.h; have h6 := hbk.r
 have hl : (bk.sH ++ us).length = bk.sH.length + 4 := by rw [List.length_append, hus]
 constructor <;> dsimp only <;> (try rw [hl]) <;> omega
theorem kpFrames (b : Nat) (bk : Bk) (N : Nat) (hN : N + 4 ≤ 1099511627776) (hbk : BkOk bk N) (l : Value) (n : Nat) (xs : List Value) (hn : n ≤ 2000000) :
  RkP Tryz.prog 85 #[.pointer (some ⟨b, 0, none⟩), l] b bk.C ((ownA 176 3 l n xs).and (bookA bk)) (bkOk (N + 4)) := by
 have h0 := hbk.r
 refine RkP.mono (RkP.frame (keepFrames_any b bk.vT bk.vI bk.vF bk.vM bk.vH bk.vR l bk.sR xs n h0.1 (by omega) hn) ((Asr.Imp.right (out6 _ _ _ _ _ _)).trans (Asr.cossa _ _ _))) ?_
 rintro v cs' R'' ⟨R', ⟨v', us, hus, rfl, hR⟩, rfl⟩
 refine ⟨{ bk with vR := v', sR := bk.sR ++ us }, rfl, (Asr.Imp.left hR).trans (in6 _ _ _ _ _ _), ?_⟩
 have h1 := hbk.t; have h2 := hbk.i; have h3 := hbk.f; have h4 := hbk.m; have h5 := hbk.h; have h6 := hbk.r
 have hl : (bk.sR ++ us).length = bk.sR.length + 4 := by rw [List.length_append, hus]
 constructor <;> dsimp only <;> (try rw [hl]) <;> omega
end Go.Proofs.YtpofmnfkdkmieaaGreat
namespace Go.Proofs.YtpofmnfkdkmieaaGreat.E
open Go Go.RowKit
/-- A block of one's own, with the type of its elements. -/
def blkA (b : Nat) (cs : List Value) (e : TypeId) : Asr := ⟨[b], fun w => w.heap[b]? = some (.cells cs.toArray e (0, 0)), fun w w' h hk => by rw [hk b List.mem_cons_self]; exact h⟩
section
variable {P : Program} {n : Nat} {E : Env} {w0 : World} {F : List Nat} {H : Hp} {R : Asr} {fn : Func} {Z : Ending → World → Prop} {κ : List Kf}
theorem Sat.allocR {w : World} (hs : Sat w0 F H R w) (cs : List Value) (e : TypeId) : Sat w0 F H ((blkA w.heap.size cs e).and R) (w.alloc (.cells cs.toArray e)) := by
 have hk := hs.keep (w' := w.alloc (.cells cs.toArray e)) ((Below.refl _ w).alloc (Nat.le_refl _) _)
 have hn : (w.alloc (.cells cs.toArray e)).heap[w.heap.size]? = some (.cells cs.toArray e (0, 0)) := by show (w.heap.push _)[w.heap.size]? = _; rw [Array.getElem?_push, if_pos rfl]
 refine ⟨hk.low, hk.own, hk.hi, hk.apart, ⟨hn, hk.res, ?_⟩, ?_, ?_⟩
 ·intro k h1 h2
  simp only [blkA, List.mem_singleton] at h1
  have := (hs.rhi k h2).2
  omega
 ·intro k hm
  rcases List.mem_append.1 hm with hm | hm
  ·simp only [blkA, List.mem_singleton] at hm
   subst hm
   exact ⟨.inr hs.low.size, by rcases Nat.lt_or_ge w.heap.size (w.alloc (.cells cs.toArray e)).heap.size with h | h; exact h; rw [Array.getElem?_eq_none h] at hn; cases hn⟩
  ·exact hk.rhi k hm
 ·intro q hq hm
  rcases List.mem_append.1 hm with hm | hm
  ·simp only [blkA, List.mem_singleton] at hm
   have := hs.lt hq
   omega
  ·exact hk.rapart q hq hm
/-- A block of R that is turned into another, or out of R. -/
theorem Sat.turnR {w w' : World} {b : Nat} {cs : List Value} {e : TypeId} {R' : Asr} (hs : Sat w0 F H ((blkA b cs e).and R) w) (ho : w'.os = w.os ∧ w'.tape = w.tape ∧ w'.output = w.output) (hsz : w'.heap.size = w.heap.size) (hne : ∀ k, k ≠ b → w'.heap[k]? = w.heap[k]?)
  (hR : ∀ k ∈ R'.S, k ∈ ((blkA b cs e).and R).S) (hA : R.A w' → (∀ k ∈ R.S, k ≠ b) → R'.A w') : Sat w0 F H R' w' := by
 have hbS : b ∈ ((blkA b cs e).and R).S := List.mem_append_left _ List.mem_cons_self
 have hRb : ∀ k ∈ R.S, k ≠ b := fun k hk e => hs.res.2.2 k (by rw [e]; exact List.mem_cons_self) hk
 refine ⟨⟨ho.1.trans hs.low.os, ho.2.1.trans hs.low.tape, ho.2.2.trans hs.low.output, by rw [hsz]; exact hs.low.size, fun k hk hF => ?_⟩, fun q hq => ?_, hs.hi, hs.apart, hA (R.st w w' hs.res.2.1 (fun k hk => hne k (hRb k hk))) hRb, fun k hk => ?_, fun q hq hk => hs.rapart q hq (hR _ hk)⟩
 ·rw [hne k (fun e => (hs.rhi b hbS).1.elim (fun hb => hF (by rw [e]; exact hb)) (fun hb => by omega))]; exact hs.low.block k hk hF
 ·rw [hne _ (fun e => hs.rapart q hq (by rw [e]; exact hbS))]; exact hs.own q hq
 ·rw [hsz]; exact hs.rhi k (hR k hk)
theorem WL_make {all : Array Oper} {l : List Oper} {d t e : Nat} {x y : Operand} {ty : TypeId} {p : String} {g : Array Edge} {k : Nat} (hd : Nat.blt d n = true) (ht : TA P t e 1 1 (.int .u8 0)) (hx : ev E x = some (.int .i64 (k : Nat))) (hy : ev E y = some (.int .i64 (k : Nat))) (hk : k ≤ 281474976710656)
  (h : ∀ b M, M.length = k → WL P n all l ((d, .slice (some ⟨b, 0, none⟩) k k) :: E) w0 F H ((blkA b M e).and R) fn Z κ) : WL P n all (⟨some d, .makeSlice t x y, ty, p, g, none⟩ :: l) E w0 F H R fn Z κ :=
 ⟨fun w hs a ha => wpList_plain rfl fun K hK => by
  obtain ⟨i, hi, hz, hsz, hb⟩ := info_parts ht.inf
  have hr := run_make (P := P) w t e i (.int .u8 0) ht.sl hi hz .i64 .i64 (k : Int) (k : Int) (by omega) (by omega) (by rw [hb]; omega) (by omega)
  have he : (execOp a.eval ⟨some d, .makeSlice t x y, ty, p, g, none⟩).run P w = .ok (.value (.slice (some ⟨w.heap.size, 0, none⟩) k k)) (w.alloc (.cells (madeCells (Value.int .u8 0).cells (k * 1)).toList.toArray e)) := by
   simp only [execOp]; rw [ha.eval hx, ha.eval hy]
   rw [hsz] at hr
   simp only [Int.toNat_natCast] at hr
   simp [hr]
  unfold Oper.wp; rw [he]
  exact hK _ _ ((h w.heap.size (madeCells (Value.int .u8 0).cells (k * 1)).toList (by rw [Array.length_toList, size_madeCells, Nat.mul_one])).go (w.alloc _) (hs.allocR _ e) _ (ha.put hd _))⟩
theorem WL_copyS {all : Array Oper} {l : List Oper} {d t u e b : Nat} {x y : Operand} {ty : TypeId} {p : String} {g : Array Edge} {s : ByteArray} {M : List Value} (hd : Nat.blt d n = true) (ht : TA P t e 1 1 (.int .u8 0)) (hx : ev E x = some (.slice (some ⟨b, 0, none⟩) s.size s.size)) (hy : ev E y = some (.string s)) (hM : M.length = s.size)
  (h : WL P n all l ((d, .int .i64 (s.size : Nat)) :: E) w0 F H ((blkA b (Go.Lib.byteCells s.data.toList) e).and R) fn Z κ) : WL P n all (⟨some d, .call ⟨.builtin .copy, #[x, y], #[t, u]⟩, ty, p, g, none⟩ :: l) E w0 F H ((blkA b M e).and R) fn Z κ :=
 ⟨fun w hs a ha => wpList_plain rfl fun K hK => by
  obtain ⟨i', hi, hz, hsz, hb⟩ := info_parts ht.inf
  have htt : w.heap[b]? = some (.cells M.toArray e (0, 0)) := hs.res.1
  have hr := Go.Lib.run_copy_row_string (P := P) w t u ty e b 0 s.size s.size s M.toArray e ht.sl (by rw [hi]; simp [hsz]) htt (Nat.le_refl _) (by simp [hM])
  have e1 : (M.toArray.toList.take 0 ++ Go.Lib.byteCells s.data.toList ++ M.toArray.toList.drop (0 + s.size)) = Go.Lib.byteCells s.data.toList := by
   rw [List.take_zero, List.nil_append, List.drop_of_length_le (by simp [hM]), List.append_nil]
  rw [e1] at hr
  have he : (execOp a.eval ⟨some d, .call ⟨.builtin .copy, #[x, y], #[t, u]⟩, ty, p, g, none⟩).run P w = .ok (.value (.int .i64 (s.size : Nat))) (w.setRow b (Go.Lib.byteCells s.data.toList).toArray) := by
   simp only [execOp, resolve, invoke, builtin]
   simp [ha.eval hx, ha.eval hy, hr, goInt]
  unfold Oper.wp; rw [he]
  refine hK _ _ (h.go _ (hs.turnR (w' := w.setRow b (Go.Lib.byteCells s.data.toList).toArray) ⟨rfl, rfl, rfl⟩ (by simp) (fun k hk => setRow_other w b k _ (fun e => hk e)) (fun k hk => hk) (fun hA hb => ⟨setRow_heap w b _ _ e _ htt, hA, fun k h1 h2 => ?_⟩)) _ (ha.put hd _))
  simp only [blkA, List.mem_singleton] at h1
  exact hb k h2 h1⟩
theorem WL_uString {all : Array Oper} {l : List Oper} {d t it e b : Nat} {x y : Operand} {ty : TypeId} {p : String} {g : Array Edge} {s : ByteArray} (hd : Nat.blt d n = true) (ht : P.underlying t = some (.pointer e)) (hc : P.cellsOf e = 1) (hx : ev E x = some (.pointer (some ⟨b, 0, none⟩))) (hy : ev E y = some (.int .i64 (s.size : Nat))) (h0 : s.size ≠ 0) (h1 : s.size ≤ 281474976710656)
  (h : WL P n all l ((d, .string s) :: E) w0 F H R fn Z κ) : WL P n all (⟨some d, .call ⟨.builtin .unsafeString, #[x, y], #[t, it]⟩, ty, p, g, none⟩ :: l) E w0 F H ((blkA b (Go.Lib.byteCells s.data.toList) e).and R) fn Z κ :=
 ⟨fun w hs a ha => wpList_plain rfl fun K hK => by
  have hg : w.heap[b]? = some (.cells (Go.Lib.byteCells s.data.toList).toArray e (0, 0)) := hs.res.1
  have hsz : s.data.toList.length = s.size := Array.length_toList
  have hr := Go.Lib.run_unsafeString_row (P := P) w t it ty e ht hc b s.size (by unfold World.shape?; rw [hg]; simp [Go.Lib.byteCells_length, hsz]) s.data.toList (fun e => h0 (by rw [← hsz, e]; rfl)) (by omega) (by omega)
   (fun j v hj => by
    rw [Addr.add_lit, Nat.zero_add]
    simp [World.cell?, hg, Go.Lib.byteCells, hj])
  have e2 : (⟨s.data.toList.toArray⟩ : ByteArray) = s := by cases s; simp
  rw [e2, hsz] at hr
  have hx' : (execOp a.eval ⟨some d, .call ⟨.builtin .unsafeString, #[x, y], #[t, it]⟩, ty, p, g, none⟩).run P w = .ok (.value (.string s)) (w.freeze ⟨b, 0, none⟩ s.size) := by
   simp only [execOp, resolve, invoke, builtin]
   simp [ha.eval hx, ha.eval hy, hr]
  unfold Oper.wp; rw [hx']
  have hne : ∀ k, k ≠ b → (w.freeze ⟨b, 0, none⟩ s.size).heap[k]? = w.heap[k]? := fun k hk => by
   unfold World.freeze
   split
   ·rfl
   ·simp only [Array.getElem?_modify]
    rw [if_neg (fun e => hk e.symm)]
  have hsize : (w.freeze ⟨b, 0, none⟩ s.size).heap.size = w.heap.size := by unfold World.freeze; split <;> simp
  have ho : (w.freeze ⟨b, 0, none⟩ s.size).os = w.os ∧ (w.freeze ⟨b, 0, none⟩ s.size).tape = w.tape ∧ (w.freeze ⟨b, 0, none⟩ s.size).output = w.output := by unfold World.freeze; split <;> exact ⟨rfl, rfl, rfl⟩
  exact hK _ _ (h.go _ (hs.turnR ho hsize hne (fun k hk => List.mem_append_right _ hk) (fun hA _ => hA)) _ (ha.put hd _))⟩
theorem Ex_shl {t t' : TypeId} {x y : Operand} {k k' : IntKind} {i j : Int} (hx : ev E x = some (.int k i)) (hy : ev E y = some (.int k' j)) (hj : decide (j < 0) = false) : Ex P n E w0 F H R (.binOp .shl t x y t') (.int k (k.wrap (i * 2 ^ min j.toNat k.bits))) := ⟨fun w _ a ha _ _ _ _ _ => by
 simp only [execOp]; rw [ha.eval hx, ha.eval hy, eqGuard_at_int]
 simp [binOp, Op.shift, of_decide_eq_false hj]⟩
theorem Ex_or {t t' : TypeId} {x y : Operand} {k : IntKind} {i j : Int} (hx : ev E x = some (.int k i)) (hy : ev E y = some (.int k j)) : Ex P n E w0 F H R (.binOp .or t x y t') (.int k (k.wrap ((BitVec.ofInt k.bits i ||| BitVec.ofInt k.bits j).toNat : Nat))) :=
 Ex_bin hx hy fun w => by simp [binOp, Op.intBits]
end
end Go.Proofs.YtpofmnfkdkmieaaGreat.E
namespace Go.Proofs.YtpofmnfkdkmieaaGreat
open Go.RowKit At E
def rdC (r : List UInt8) : List Value := [.string ⟨r.toArray⟩]
def RdOk {α : Type} (r : List UInt8) (p : Ps α) (rep : α → Value → Asr → Prop) : Value → List Value → Asr → Prop := fun v cs' R' => ∃ x r', p r = some (x, r') ∧ cs' = rdC r' ∧ r'.length ≤ r.length ∧ rep x v R'
def RdP {α : Type} (f : FuncId) (args : Array Value) (u : World) (b : Nat) (p : Ps α) (rep : α → Value → Asr → Prop) : Prop :=
 ∀ r : List UInt8, r.length ≤ 4000000 → RcP Tryz.prog f args u b (rdC r) (RdOk r p rep) (p r = none)
theorem rd_no {α β : Type} {P : Ps β} {p : Ps α} {f : α → Ps β} {r r1 : List UInt8} (h : Wa (some r) P (some r1) (pThen p f)) (hm : p r1 = none) : P r = none := by
 have h1 : P r = pThen p f r1 := h
 rw [h1]; unfold pThen; rw [hm]
theorem rd_next {α β : Type} {P : Ps β} {p : Ps α} {f : α → Ps β} {r r1 r2 : List UInt8} {x : α} (h : Wa (some r) P (some r1) (pThen p f)) (hm : p r1 = some (x, r2)) : Wa (some r) P (some r2) (f x) := by
 have h1 : P r = pThen p f r1 := h
 show P r = f x r2
 rw [h1]; unfold pThen; rw [hm]
theorem Xy {β : Type} {P : Ps β} {r r1 : List UInt8} {x : β} (h : Wa (some r) P (some r1) (pRet x)) : P r = some (x, r1) := h
theorem ba_size (r : List UInt8) : (⟨r.toArray⟩ : ByteArray).size = r.length := by show r.toArray.size = r.length; simp
theorem dl_ba (r : List UInt8) : dl ⟨r.toArray⟩ = r := by unfold dl; simp
theorem ext_take (r : List UInt8) (n : Nat) : (⟨r.toArray⟩ : ByteArray).extract 0 n = ⟨(r.take n).toArray⟩ := by
 have e := seg_text (s := ⟨r.toArray⟩) (a := 0) (n := n)
 rw [Nat.zero_add] at e
 rw [e]; unfold seg; rw [dl_ba, List.drop_zero]
theorem ext_drop (r : List UInt8) (n : Nat) (h : n ≤ r.length) : (⟨r.toArray⟩ : ByteArray).extract n (⟨r.toArray⟩ : ByteArray).size = ⟨(r.drop n).toArray⟩ := by
 have e := seg_text (s := ⟨r.toArray⟩) (a := n) (n := r.length - n)
 rw [show n + (r.length - n) = r.length by omega] at e
 rw [ba_size, e]; unfold seg; rw [dl_ba, List.take_of_length_le (by rw [List.length_drop]; omega)]
def repTk : List UInt8 → Value → Asr → Prop := fun x v R' => v = .string ⟨x.toArray⟩ ∧ R' = Asr.none
theorem rdTake_any (U : World) (b n : Nat) : RdP 112 #[.pointer (some ⟨b, 0, none⟩), .int .i64 (n : Nat)] U b (pTake n) repTk := by
 intro r hrl w h0
 have hz := ba_size r
 refine opensF (h0.sat) (args := [.pointer (some ⟨b, 0, none⟩), .int .i64 (n : Nat)]) Tryz.func112 rfl Tryz.ntmps112 ?_
 refine Zf (Zb (Za rfl (Zg rfl) (Ze (Zc (Zf ?_)))))
 refine Zb (Za rfl (Zd rfl) (Za rfl (Zd rfl) (Za rfl (Ys rfl) (Za rfl (Zh (ff rfl) rfl) (Za rfl (Zj (t1 rfl) rfl (Zl 0 rfl rfl)) ?_)))))
 refine Za rfl (Ex_lenS (tstr rfl) rfl) (Za rfl (Ex_leq rfl rfl) (Yl fn111 rfl rfl (fun w _ => Xe _ w) ?_ ?_))
 rotate_left
 ·intro o1
  try (first | replace o1 := dFa o1 | replace o1 := Zi o1)
  refine Ye (WD_of h0.base (Rc_F h0) (WD_end ?_))
  exact pTake_no (by omega)
 intro o1
 try (first | replace o1 := dTr o1 | replace o1 := Zk o1)
 refine Ze (Zc (Zf (Zb (Za rfl (Zd rfl) (Za rfl (Ys rfl) ?_)))))
 refine Za rfl (Zh (ff rfl) rfl) (Za rfl (Zj (t1 rfl) rfl (Zl 0 rfl rfl)) (Za rfl (Zd rfl) (Za rfl (Ex_sliceTo (tstr rfl) rfl rfl ?_) ?_)))
 ·omega
 refine Za rfl (Zg rfl) (Ze (Zc (Zf (Zb (Za rfl (Zd rfl) ?_)))))
 refine Za rfl (Zd rfl) (Za rfl (Ys rfl) (Za rfl (Zh (ff rfl) rfl) (Za rfl (Zj (t1 rfl) rfl (Zl 0 rfl rfl)) (Za rfl (Zd rfl) (Za rfl (Ex_sliceFrom (tstr rfl) rfl rfl ?_) ?_)))))
 ·omega
 refine Za rfl (Ys rfl) (Za rfl (Zh (ff rfl) rfl) (Xd (t1 rfl) rfl rfl 0 rfl rfl rfl rfl (Ze (Zc (Zf ?_)))))
 refine Zb (Za rfl (Zd rfl) (Za rfl (Zg rfl) (Ze (Zc (Zv ?_)))))
 refine Rc_end1 rfl rfl 0 rfl ?_
 exact ⟨r.take n, r.drop n, pTake_ok (by omega), congrArg (fun s => [Value.string s]) (ext_drop r n (by omega)), by rw [List.length_drop]; omega, congrArg Value.string (ext_take r n), rfl⟩
theorem or_step (a c i : Nat) (ha : a < 256 ^ i) (hi : i < 8) (hc : c < 256) :
  IntKind.u64.wrap (((BitVec.ofInt IntKind.u64.bits (a : Int) ||| BitVec.ofInt IntKind.u64.bits (IntKind.u64.wrap (IntKind.u64.wrap (c : Int) * 2 ^ min ((8 : Int) * (i : Int)).toNat IntKind.u64.bits))).toNat : Nat) : Int) = ((a + 256 ^ i * c : Nat) : Int) := by
 have e8 : (256 : Nat) ^ i = 2 ^ (8 * i) := by rw [show (256 : Nat) = 2 ^ 8 by decide, ← Nat.pow_mul]
 have hbits : IntKind.u64.bits = 64 := rfl
 have hmin : min ((8 : Int) * (i : Int)).toNat IntKind.u64.bits = 8 * i := by rw [hbits]; omega
 have hp : 2 ^ (8 * i) * 256 ≤ 18446744073709551616 := by
  have : 2 ^ (8 * i) * 256 = 2 ^ (8 * i + 8) := by rw [Nat.pow_add]
  rw [this]
  exact Nat.le_trans (Nat.pow_le_pow_right (by omega) (show 8 * i + 8 ≤ 64 by omega)) (by decide)
 have hcb : 2 ^ (8 * i) * c ≤ 2 ^ (8 * i) * 255 := Nat.mul_le_mul_left _ (by omega)
 rw [e8] at ha ⊢
 have hw1 : IntKind.u64.wrap (c : Int) = (c : Int) := by rw [IntKind.wrap_u64]; omega
 have hw2 : IntKind.u64.wrap ((c : Int) * 2 ^ (8 * i)) = ((2 ^ (8 * i) * c : Nat) : Int) := by
  have e : (c : Int) * 2 ^ (8 * i) = ((2 ^ (8 * i) * c : Nat) : Int) := by
   rw [Int.natCast_mul, Int.natCast_pow, Int.mul_comm]; rfl
  rw [e, IntKind.wrap_u64]; omega
 rw [hmin, hw1, hw2, hbits]
 have hA : (BitVec.ofInt 64 (a : Int)).toNat = a := by rw [BitVec.toNat_ofInt]; omega
 have hB : (BitVec.ofInt 64 ((2 ^ (8 * i) * c : Nat) : Int)).toNat = 2 ^ (8 * i) * c := by rw [BitVec.toNat_ofInt]; omega
 rw [BitVec.toNat_or, hA, hB, Nat.or_comm, ← Nat.two_pow_add_eq_or_of_lt ha, IntKind.wrap_u64]
 omega
def rep64 (k : Nat) : Nat → Value → Asr → Prop := fun n v R' => v = .int .u64 (n : Nat) ∧ n < 256 ^ k ∧ R' = Asr.none
theorem leN_take_succ (l : List UInt8) (i : Nat) (h : i < l.length) : leN (l.take (i + 1)) = leN (l.take i) + 256 ^ i * l[i].toNat := by
 rw [List.take_succ_eq_append_getElem h, leN_append]
 have : (l.take i).length = i := by rw [List.length_take]; omega
 rw [this]; simp [leN]
theorem ba_get (l : List UInt8) (i : Nat) (h : i < (⟨l.toArray⟩ : ByteArray).size) (h' : i < l.length) : (⟨l.toArray⟩ : ByteArray)[i] = l[i] := rfl
theorem rdNumber_any (U : World) (b k : Nat) (hk : k ≤ 8) : RdP 180 #[.pointer (some ⟨b, 0, none⟩), .int .i64 (k : Nat)] U b (pNum k) (rep64 k) := by
 intro r hrl w h0
 refine opensF (h0.sat) (args := [.pointer (some ⟨b, 0, none⟩), .int .i64 (k : Nat)]) Tryz.func180 rfl Tryz.ntmps180 ?_
 refine Zf (Zb (Za rfl (Zg rfl) (Ze (Zc (Zf ?_)))))
 refine Zb (Za rfl (Zd rfl) (Za rfl (Zd rfl) ?_))
 refine Yk fn112 rfl rfl 0 rfl h0.base (Rc_F h0) (rdTake_any U b k r hrl) (fun hm => Xp (WD_end (by unfold pNum pThen; rw [hm]))) ?_
 rintro v cs' ⟨R', l, r1, hp, rfl, hr1, rfl, -⟩
 refine Za rfl (Zg rfl) (Ze (Zc (Zf (Zb (Za rfl (Zg rfl) ?_)))))
 refine Ze (Zc (Zf (Zf (Zb (Za rfl (Zd rfl) ?_)))))
 refine Za rfl (Zd rfl) (Ze (Zc (Zs ?_)))
 obtain ⟨hl1, -, hkl⟩ := pTake_some hp
 have hll : l.length = k := by rw [hl1, List.length_take]; omega
 have hz := ba_size l
 refine Xh (E' := (fun i : Nat => [(0, .pointer (some ⟨b, 0, none⟩)), (5, .string ⟨l.toArray⟩), (6, .int .u64 ((leN (l.take i) : Nat) : Int)), (11, .int .i64 (k : Nat)), (12, .int .i64 (i : Nat))]) (0)) ⟨rfl, rfl, rfl, rfl, rfl, trivial⟩ (Yy (X := Nat) (fun i : Nat => [(0, .pointer (some ⟨b, 0, none⟩)), (5, .string ⟨l.toArray⟩), (6, .int .u64 ((leN (l.take i) : Nat) : Int)), (11, .int .i64 (k : Nat)), (12, .int .i64 (i : Nat))]) _ _ (fun i : Nat => [(b, rdC r1)]) (fun i : Nat => Asr.none) (fun i : Nat => i ≤ k) (fun i : Nat => k - i) (0) (Nat.zero_le _) ?_)
 intro i hI
 refine Zf (Zb (Za rfl (Xb rfl rfl) (Ze (Zc (Zf ?_)))))
 refine Yi rfl ?_ ?_
 ·intro c1
  try (first | replace c1 := dTr c1 | replace c1 := Zk c1)
  have hi : i < l.length := by omega
  refine Zw (Zc (Zf (Zs (Zf (Zb ?_)))))
  refine Za rfl (Zd rfl) (Za rfl (Zg rfl) (Ze (Zc (Zb (Za rfl (Zd rfl) ?_)))))
  refine Za rfl (Zd rfl) (Za rfl (Zd rfl) (Za rfl (Ex_indexS (tstr rfl) rfl rfl ?_) ?_))
  ·omega
  refine Za rfl (Ex_conv (tint rfl) (tint rfl) rfl) (Za rfl (Zd rfl) ?_)
  (first | (refine Za rfl (Ex_mulB rfl rfl ?_) ?_; omega) | refine Za rfl (Ex_mul rfl rfl) ?_)
  refine Za rfl (Ex_shl rfl rfl (decide_eq_false (by omega))) ?_
  refine Za rfl (Ex_or rfl rfl) (Za rfl (Zg rfl) (Ze (Zx (Zc (Zb ?_)))))
  (first | (refine Za rfl (Xa rfl rfl ?_) ?_; omega) | (refine Za rfl (Yp rfl rfl ?_) ?_; omega) | refine Za rfl (Yz rfl rfl) ?_)
  refine Za rfl (Zd rfl) (Ze ?_)
  refine WQ_same (s := 6) (v' := .int .u64 ((leN (l.take (i + 1)) : Nat) : Int)) rfl (congrArg (Value.int .u64) (by have h9 := leN_lt (l.take i); rw [List.length_take, Nat.min_eq_left (by omega)] at h9; rw [leN_take_succ l i hi]; exact or_step _ _ i h9 (by omega) (l[i].toNat_lt))) ?_
  refine Yn (i + 1) ?_ (by omega) 0 rfl (rfl) ⟨rfl, rfl, rfl, rfl, rfl, trivial⟩
  omega
 ·intro c1
  try (first | replace c1 := dFa c1 | replace c1 := Zi c1)
  refine Yx (Yw (Yo (Yv (Zc (Zf ?_)))))
  refine Zb (Za rfl (Zd rfl) (Za rfl (Zg rfl) (Ze (Zc (Zv ?_)))))
  refine Rc_end1 rfl rfl 0 rfl ?_
  have h9 := leN_lt l; rw [hll] at h9; rw [show i = k by omega, List.take_of_length_le (by omega)]; exact ⟨leN l, r1, by unfold pNum pThen; rw [hp]; rfl, rfl, hr1, rfl, h9, rfl⟩
theorem rdNbyte_any (U : World) (b : Nat) : RdP 115 #[.pointer (some ⟨b, 0, none⟩)] U b (pNum 1) (repN 1) := by
 intro r hrl w h0
 have h64 : (256 : Nat) ^ 8 = 18446744073709551616 := by decide
 refine opensF (h0.sat) (args := [.pointer (some ⟨b, 0, none⟩)]) Tryz.func115 rfl Tryz.ntmps115 ?_
 refine Zf (Zb (Za rfl (Zg rfl) (Ze (Zc (Zf ?_)))))
 refine Zb (Za rfl (Zd rfl) (Yk fn180 rfl rfl 0 rfl h0.base (Rc_F h0) (rdNumber_any U b 1 (by omega) r hrl) (fun hm => Xp (WD_end hm)) ?_))
 rintro v cs' ⟨R', n, r1, hp, rfl, hr1, rfl, hn, -⟩
 refine Za rfl (Ex_conv (tint rfl) (tint rfl) rfl) (Za rfl (Zg rfl) (Ze (Zc (Zv (Rc_end1 rfl rfl 0 rfl ?_)))))
 exact ⟨n, r1, hp, rfl, hr1, congrArg (Value.int .i64) (toI_wrap (by omega)), hn, rfl⟩
theorem rdNtwo_any (U : World) (b : Nat) : RdP 185 #[.pointer (some ⟨b, 0, none⟩)] U b (pNum 2) (repN 2) := by
 intro r hrl w h0
 have h64 : (256 : Nat) ^ 8 = 18446744073709551616 := by decide
 refine opensF (h0.sat) (args := [.pointer (some ⟨b, 0, none⟩)]) Tryz.func185 rfl Tryz.ntmps185 ?_
 refine Zf (Zb (Za rfl (Zg rfl) (Ze (Zc (Zf ?_)))))
 refine Zb (Za rfl (Zd rfl) (Yk fn180 rfl rfl 0 rfl h0.base (Rc_F h0) (rdNumber_any U b 2 (by omega) r hrl) (fun hm => Xp (WD_end hm)) ?_))
 rintro v cs' ⟨R', n, r1, hp, rfl, hr1, rfl, hn, -⟩
 refine Za rfl (Ex_conv (tint rfl) (tint rfl) rfl) (Za rfl (Zg rfl) (Ze (Zc (Zv (Rc_end1 rfl rfl 0 rfl ?_)))))
 exact ⟨n, r1, hp, rfl, hr1, congrArg (Value.int .i64) (toI_wrap (by omega)), hn, rfl⟩
theorem rdNeight_any (U : World) (b : Nat) : RdP 285 #[.pointer (some ⟨b, 0, none⟩)] U b (pNum 8) (repN 8) := by
 intro r hrl w h0
 have h64 : (256 : Nat) ^ 8 = 18446744073709551616 := by decide
 refine opensF (h0.sat) (args := [.pointer (some ⟨b, 0, none⟩)]) Tryz.func285 rfl Tryz.ntmps285 ?_
 refine Zf (Zb (Za rfl (Zg rfl) (Ze (Zc (Zf ?_)))))
 refine Zb (Za rfl (Zd rfl) (Yk fn180 rfl rfl 0 rfl h0.base (Rc_F h0) (rdNumber_any U b 8 (by omega) r hrl) (fun hm => Xp (WD_end hm)) ?_))
 rintro v cs' ⟨R', n, r1, hp, rfl, hr1, rfl, hn, -⟩
 refine Za rfl (Ex_conv (tint rfl) (tint rfl) rfl) (Za rfl (Zg rfl) (Ze (Zc (Zv (Rc_end1 rfl rfl 0 rfl ?_)))))
 exact ⟨n, r1, hp, rfl, hr1, congrArg (Value.int .i64) (toI_wrap (by omega)), hn, rfl⟩
theorem rdI_of {f : FuncId} {args : Array Value} {U : World} {b k : Nat} (hk : k ≤ 8) (h : RdP f args U b (pNum k) (repN k)) : RdP f args U b (pInt k) (repI k) := by
 intro r hrl w h0
 refine Calls.mono (h r hrl w h0) ?_
 rintro e w' (⟨v, cs', R', rfl, ⟨n, r1, hp, rfl, hr1, rfl, hn, rfl⟩, hw⟩ | ⟨hm, rfl, hb⟩)
 ·have h8 : n < 18446744073709551616 := Nat.lt_of_lt_of_le hn (Nat.le_trans (Nat.pow_le_pow_right (by omega) hk) (by decide))
  refine .inl ⟨_, _, _, rfl, ⟨toI n, r1, by unfold pInt pThen; rw [hp]; rfl, rfl, hr1, rfl, toI_ok h8, fun h2 => ?_, rfl⟩, hw⟩
  have h3 : n < 65536 := Nat.lt_of_lt_of_le hn (Nat.le_trans (Nat.pow_le_pow_right (by omega) h2) (by decide))
  rw [toI_small (by omega)]; omega
 ·exact .inr ⟨by unfold pInt pThen; rw [hm], rfl, hb⟩
theorem rdByte_any (U : World) (b : Nat) : RdP 115 #[.pointer (some ⟨b, 0, none⟩)] U b (pInt 1) (repI 1) := rdI_of (by omega) (rdNbyte_any U b)
theorem rdTwo_any (U : World) (b : Nat) : RdP 185 #[.pointer (some ⟨b, 0, none⟩)] U b (pInt 2) (repI 2) := rdI_of (by omega) (rdNtwo_any U b)
theorem rdEight_any (U : World) (b : Nat) : RdP 285 #[.pointer (some ⟨b, 0, none⟩)] U b (pInt 8) (repI 8) := rdI_of (by omega) (rdNeight_any U b)
theorem rdFlag_any (U : World) (b : Nat) : RdP 181 #[.pointer (some ⟨b, 0, none⟩)] U b pFlag repB := by
 intro r hrl w h0
 have hS := Wa.first (some r) pFlag
 refine opensF (h0.sat) (args := [.pointer (some ⟨b, 0, none⟩)]) Tryz.func181 rfl Tryz.ntmps181 ?_
 refine Zf (Zb (Za rfl (Zg rfl) (Ze (Zc (Zf ?_)))))
 refine Zb (Za rfl (Zd rfl) (Yk fn115 rfl rfl 0 rfl h0.base (Rc_F h0) (rdNbyte_any U b r hrl) (fun hm => Xp (WD_end (rd_no hS hm))) ?_))
 rintro v cs' ⟨R', n, r1, hp, rfl, hr1, rfl, hn, -⟩
 replace hS := rd_next hS hp
 rw [toI_small (show n < 9223372036854775808 by omega)]
 refine Za rfl (Zg rfl) (Ze (Zc (Zf (Zb (Za rfl (Zd rfl) ?_)))))
 refine Za rfl (Ex_leq rfl rfl) (Yl fn111 rfl rfl (fun w _ => Xe _ w) ?_ ?_)
 rotate_left
 ·intro o1
  try (first | replace o1 := dFa o1 | replace o1 := Zi o1)
  refine Ye (WD_of h0.base (Rc_F h0) (WD_end ?_))
  rw [if_pos (by omega)] at hS; exact hS
 intro o1
 try (first | replace o1 := dTr o1 | replace o1 := Zk o1)
 refine Ze (Zc (Zf (Zb (Za rfl (Zd rfl) (Za rfl (Xc rfl rfl) ?_)))))
 refine Za rfl (Zg rfl) (Ze (Zc (Zv (Rc_end1 rfl rfl 0 rfl ?_))))
 rw [if_neg (by omega)] at hS; exact ⟨_, r1, Xy hS, rfl, hr1, congrArg Value.bool (by rw [Bool.eq_iff_iff]; simp only [decide_eq_true_eq]; omega), rfl⟩
theorem t1p : Tryz.prog.underlying 403 = some (.pointer 5) := by kernel_rfl
theorem c1u8 : Tryz.prog.cellsOf 5 = 1 := by kernel_rfl
theorem litClone_any (s : ByteArray) (w : World) (hs : s.size ≤ 4000000) : Pure Tryz.prog 242 #[.string s] w (.string s) := by
 refine opens (args := [.string s]) Tryz.func242 rfl Tryz.ntmps242 ?_
 refine Zf (Zb (Za rfl (Zg rfl) (Ze (Zc (Zf ?_)))))
 refine Zf (Zb (Za rfl (Zd rfl) (Za rfl (Ex_lenS (tstr rfl) rfl) (Za rfl (Xc rfl rfl) (Ze ?_)))))
 refine Zc (Yi rfl ?_ ?_)
 ·intro c1
  try (first | replace c1 := dTr c1 | replace c1 := Zk c1)
  refine Zf (Zb (Za rfl (Zg rfl) (Ze (Zc (Zv ?_)))))
  refine Zq (Yh rfl rfl ?_)
  have h9 : s = ⟨#[]⟩ := ByteArray.ext (Array.eq_empty_of_size_eq_zero (by show s.size = 0; omega)); rw [h9]
 ·intro c1
  try (first | replace c1 := dFa c1 | replace c1 := Zi c1)
  have hne : s.size ≠ 0 := by omega
  refine Zw (Zc (Zf (Zb (Za rfl (Zd rfl) (Za rfl (Ex_lenS (tstr rfl) rfl) ?_)))))
  refine WL_make rfl (ta rfl) rfl rfl (by omega) (fun b M hM => ?_)
  refine Za rfl (Zg rfl) (Ze (Zc (Zf (Zb (Za rfl (Zd rfl) ?_)))))
  refine Za rfl (Zd rfl) (WL_copyS rfl (ta rfl) rfl rfl hM (Ze (Zc (Zf (Zb ?_)))))
  refine Za rfl (Zd rfl) (Za rfl (Xk (i := 0) (ts rfl) rfl rfl (by omega)) ?_)
  refine Za rfl (Zd rfl) (Za rfl (Yg (ts rfl) rfl) (WL_uString rfl t1p c1u8 rfl rfl hne (by omega) ?_))
  refine Za rfl (Zg rfl) (Ze (Zc (Zv (Yh rfl rfl ?_))))
  rfl
theorem clone_any (s : ByteArray) (w : World) (hs : s.size ≤ 4000000) : Pure Tryz.prog 131 #[.string s] w (.string s) := by
 refine opens (args := [.string s]) Tryz.func131 rfl Tryz.ntmps131 ?_
 refine Zf (Zb (Za rfl (Zg rfl) (Ze (Zc (Zf ?_)))))
 refine Zb (Za rfl (Zd rfl) (Xi fn242 rfl rfl (fun w _ => litClone_any s w hs) ?_))
 refine Za rfl (Zg rfl) (Ze (Zc (Zv (Yh rfl rfl ?_))))
 rfl
theorem rdName_any (U : World) (b : Nat) : RdP 113 #[.pointer (some ⟨b, 0, none⟩)] U b pName repS := by
 intro r hrl w h0
 have hS := Wa.first (some r) pName
 refine opensF (h0.sat) (args := [.pointer (some ⟨b, 0, none⟩)]) Tryz.func113 rfl Tryz.ntmps113 ?_
 refine Zf (Zb (Za rfl (Zg rfl) (Ze (Zc (Zf ?_)))))
 refine Zb (Za rfl (Zd rfl) (Za rfl (Zd rfl) (Yk fn115 rfl rfl 0 rfl h0.base (Rc_F h0) (rdNbyte_any U b r hrl) (fun hm => Xp (WD_end (rd_no hS hm))) ?_)))
 rintro v cs' ⟨R', n, r1, hp, rfl, hr1, rfl, hn, -⟩
 replace hS := rd_next hS hp
 rw [toI_small (show n < 9223372036854775808 by omega)]
 refine Yk fn112 rfl rfl 0 rfl h0.base (Rc_F h0) (rdTake_any U b n r1 (by omega)) (fun hm => Xp (WD_end (rd_no hS hm))) ?_
 rintro v cs' ⟨R', l, r2, hp2, rfl, hr2, rfl, -⟩
 replace hS := rd_next hS hp2
 have hl2 := (pTake_some hp2).1
 have hll : (⟨l.toArray⟩ : ByteArray).size ≤ 255 := by rw [ba_size, hl2, List.length_take]; omega
 refine Xi fn131 rfl rfl (fun w _ => clone_any _ w (by omega)) ?_
 refine Za rfl (Zg rfl) (Ze (Zc (Zv (Rc_end1 rfl rfl 0 rfl ?_))))
 exact ⟨_, r2, Xy hS, rfl, by omega, rfl, hll, rfl⟩
theorem rdTyp_any (U : World) (b : Nat) : RdP 182 #[.pointer (some ⟨b, 0, none⟩)] U b (pTy false) repT := by
 intro r hrl w h0
 have hS := Wa.first (some r) (pTy false)
 refine opensF (h0.sat) (args := [.pointer (some ⟨b, 0, none⟩)]) Tryz.func182 rfl Tryz.ntmps182 ?_
 refine Zf (Zb (Xg rfl (tz rfl) ?_))
 intro b1 hb1
 refine Ze (Zc (Zf (Zb (Za rfl (Zd rfl) (Yk fn115 rfl rfl 1 rfl h0.base (Rc_F h0) (rdByte_any U b r hrl) (fun hm => Xp (WD_end (rd_no hS hm))) ?_)))))
 rintro v cs' ⟨R', k, r1, hp, rfl, hr1, rfl, hk, -, -⟩
 replace hS := rd_next hS hp
 rw [if_neg (by simp)] at hS
 refine Za rfl (Xs (tb rfl) rfl rfl) (Xg rfl (tz rfl) ?_)
 intro b2 hb2
 refine Yd (tn rfl) rfl rfl 0 rfl rfl rfl rfl (Ze (Zc (Zf (Zf (Zb ?_)))))
 refine Za rfl (Zh (ff rfl) rfl) (Za rfl (Zj (t1 rfl) rfl (Zl 0 rfl rfl)) (Za rfl (Xc rfl rfl) (Ze (Zc (Yi rfl ?_ ?_)))))
 ·intro c1
  try (first | replace c1 := dTr c1 | replace c1 := Zk c1)
  rw [if_pos c1] at hS
  refine Zb (Za rfl (Zd rfl) (Yk fn113 rfl rfl 2 rfl h0.base (Rc_F h0) (rdName_any U b r1 (by omega)) (fun hm => Xp (WD_end (rd_no hS hm))) ?_))
  rintro v cs' ⟨R', c, r2, hp2, rfl, hr2, rfl, hc, -⟩
  replace hS := rd_next hS hp2
  refine Za rfl (Zh (ff rfl) rfl) (Xd (t1 rfl) rfl rfl 0 rfl rfl rfl rfl (Ze (Zc (Zf (Zb ?_)))))
  refine Za rfl (Yb (tn rfl) rfl 0 rfl rfl) (Yd (tn rfl) rfl rfl 1 rfl rfl rfl rfl (Ze (Zc (Zv (Rc_endR (Res_1 rfl (Xo (tn rfl) rfl (Yj 1 rfl) rfl)) 2 rfl ?_)))))
  first | exact ⟨⟨k, c⟩, r2, Xy hS, rfl, by omega, rfl, ⟨hk, Zr hc⟩, rfl⟩ | exact ⟨⟨k, mt⟩, r1, Xy hS, rfl, hr1, rfl, ⟨hk, Xt⟩, rfl⟩
 ·intro c1
  try (first | replace c1 := dFa c1 | replace c1 := Zi c1)
  rw [if_neg c1] at hS
  refine Zw (Zc (Zf (Zb (Za rfl (Yb (tn rfl) rfl 0 rfl rfl) (Yd (tn rfl) rfl rfl 1 rfl rfl rfl rfl ?_)))))
  refine Ze (Zc (Zv (Rc_endR (Res_1 rfl (Xo (tn rfl) rfl (Yj 1 rfl) rfl)) 2 rfl ?_)))
  first | exact ⟨⟨k, c⟩, r2, Xy hS, rfl, by omega, rfl, ⟨hk, Zr hc⟩, rfl⟩ | exact ⟨⟨k, mt⟩, r1, Xy hS, rfl, hr1, rfl, ⟨hk, Xt⟩, rfl⟩
end Go.Proofs.YtpofmnfkdkmieaaGreat
