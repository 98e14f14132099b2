/- What is proved here: a copy of a class, with all its lists, lies in memory as the class does. the statement's book keeps all lists of a copy. -/
import Derived.Test.YtpofmnfkdkmieaaGreatQ35
set_option linter.unusedVariables false
set_option linter.unusedSimpArgs false
namespace Go.Proofs.YtpofmnfkdkmieaaGreat
open Go Go.RowKit At E
/-- Lists that are not too long for two more. -/
def tysOk' (l : List Ty) : Prop := l.length ≤ 1000000 ∧ ∀ t ∈ l, tyOk t
structure MeGood (m : Me) : Prop where
 ok : meOk m
 ps : tysOk' m.params
 cs : m.code.length ≤ 1000000 ∧ ∀ i ∈ m.code, insOk i ∧ tysOk' i.ref.params
 hs : m.handlers.length ≤ 1000000 ∧ ∀ h ∈ m.handlers, hdOk h
 fs : m.frames.length ≤ 1000000 ∧ ∀ f ∈ m.frames, intOk f.pos ∧ tysOk' f.locals ∧ tysOk' f.stack
structure ClGood (c : Cl) : Prop where
 ok : strOk c.name ∧ strOk c.super
 fs : c.fields.length ≤ 1000000 ∧ ∀ f ∈ c.fields, fdOk f
 ms : c.methods.length ≤ 1000000 ∧ ∀ m ∈ c.methods, MeGood m
 n : (c.methods.flatMap mT).length ≤ 1048576
theorem intOk_77 : intOk 77 := by unfold intOk; omega
theorem strOk_behind : strOk behind := by unfold strOk behind; decide
theorem tyOk_77 : tyOk ⟨77, mt⟩ := ⟨intOk_77, Xt⟩
theorem insOk_77 : insOk ins77 := ⟨intOk_77, Yc, Xt, Xt, tyOk_0⟩
theorem hdOk_77 : hdOk hd77 := ⟨Yc, Yc, intOk_77, Xt⟩
theorem fdOk_77 : fdOk fd77 := ⟨strOk_behind, tyOk_0⟩
theorem meOk_77 : meOk me77 := ⟨strOk_behind, tyOk_0, Yc, Yc⟩
theorem two_all {β : Type} {p : β → Prop} {a b : β} (ha : p a) (hb : p b) : ∀ x ∈ [a, b], p x := by
 intro x hx
 simp only [List.mem_cons, List.not_mem_nil, or_false] at hx
 rcases hx with rfl | rfl
 ·exact ha
 ·exact hb
theorem tyRow_ok {l : List Ty} (h : tysOk' l) : tysOk (tyRow l) :=
 ⟨by have := h.1; simp only [tyRow, tyX, List.length_append, List.length_cons, List.length_nil]; omega, app_all h.2 (two_all tyOk_77 tyOk_77)⟩
theorem mT_ok {m : Me} (h : MeGood m) : ∀ l ∈ mT m, tysOk l := by
 intro l hl
 simp only [mT, List.mem_cons, List.mem_append, List.mem_map, List.mem_flatMap] at hl
 rcases hl with rfl | ⟨i, hi, rfl⟩ | ⟨f, hf, hl⟩
 ·exact tyRow_ok h.ps
 ·exact tyRow_ok (h.cs.2 i hi).2
 ·simp only [frRows, List.mem_cons, List.not_mem_nil, or_false] at hl
  rcases hl with rfl | rfl
  ·exact tyRow_ok (h.fs.2 f hf).2.1
  ·exact tyRow_ok (h.fs.2 f hf).2.2
theorem ListAt.pre {α : Type} {k : Nat} {El : World → List Value → α → Prop} {w : World} {p : Option Addr} {n m c : Nat} {l x : List α} (h : ListAt k El w (.slice p m c) (l ++ x)) (hn : n = l.length) : ListAt k El w (.slice p n c) l := by
 obtain ⟨p', c', hv, hl, hr⟩ := h.is
 cases hv
 subst hn
 rw [List.length_append] at hl
 refine ⟨p, c, rfl, ⟨by omega, by omega⟩, fun i y hi => hr i y ?_⟩
 rw [List.getElem?_append_left]
 ·exact hi
 ·rcases Nat.lt_or_ge i l.length with h' | h'
  ·exact h'
  ·rw [List.getElem?_eq_none h'] at hi; cases hi
theorem Pre.at {α β : Type} {k : Nat} {El : World → List Value → α → Prop} {w : World} (f : β → α) {X ps : List β} {T : List (List β × Value)} {qv : Value} (h : Pre X T ps qv) (hT : ∀ r ∈ T, ListAt k El w r.2 (r.1.map f)) : ListAt k El w qv (ps.map f) := by
 rcases h with ⟨rfl, rfl⟩ | ⟨p, c, rfl, hm⟩
 ·exact ⟨none, 0, rfl, ⟨by simp, by simp⟩, fun i x hi => by simp at hi⟩
 ·have := hT _ hm
  rw [List.map_append] at this
  exact ListAt.pre this (by rw [List.length_map])
structure RowsIn (w : World) (k : Lx) : Prop where
 t : ∀ r ∈ k.sT, TysAt w r.2 r.1
 i : ∀ r ∈ k.sI, InssAt w r.2 (r.1.map (·.1))
 f : ∀ r ∈ k.sF, FdsAt w r.2 r.1
 m : ∀ r ∈ k.sM, MesAt w r.2 (r.1.map (·.1))
 h : ∀ r ∈ k.sH, HdsAt w r.2 r.1
 r : ∀ r ∈ k.sR, FrsAt w r.2 (r.1.map (·.1))
theorem rows_own {β : Type} {w : World} {e' e sz : Nat} {cell : β → List Value} {v : Value} {rows : List (List β × Value)} (h : (rowsA e' e sz cell v rows).A w) : ∀ r ∈ rows, w.ownsRow 0 e sz r.2 r.1.length (r.1.flatMap cell) := fun r hr => bigA_mem h.2.1 r hr
theorem mem_of_map {β γ : Type} {g : β → γ} {l : List β} {l' : List γ} (h : l.map g = l') {x : β} (hx : x ∈ l) : g x ∈ l' := h ▸ List.mem_map_of_mem hx
theorem TysAt.pre {w : World} {T : List (List Ty × Value)} {ps : List Ty} {qv : Value} (hT : ∀ r ∈ T, TysAt w r.2 r.1) (h : Pre tyX T ps qv) : TysAt w qv ps := by
 have := h.at (El := TyEl) (k := 2) (w := w) id (fun r hr => by rw [List.map_id]; exact hT r hr)
 rw [List.map_id] at this; exact this
theorem rowsIn_of {w : World} {c : Cl} {k : Lx} (h : (lxA k).A w) (ho : LxOf c k) (hg : ClGood c) : RowsIn w k := by
 have oT := rows_own h.1
 have oI := rows_own h.2.1.1
 have oF := rows_own h.2.1.2.1.1
 have oM := rows_own h.2.1.2.1.2.1.1
 have oH := rows_own h.2.1.2.1.2.1.2.1.1
 have oR := rows_own h.2.1.2.1.2.1.2.1.2.1
 have aT : ∀ r ∈ k.sT, TysAt w r.2 r.1 := fun r hr => by
  obtain ⟨m, hm, hl⟩ := List.mem_flatMap.1 (mem_of_map ho.T hr)
  exact tysA_at (oT r hr) (mT_ok (hg.ms.2 m hm) _ hl)
 have aI : ∀ r ∈ k.sI, InssAt w r.2 (r.1.map (·.1)) := fun r hr => by
  obtain ⟨m, hm, hl⟩ := List.mem_map.1 (mem_of_map ho.I hr)
  have hgm := hg.ms.2 m hm
  have hln : r.1.length = m.code.length + 2 := by have := congrArg List.length hl; simp only [List.length_map, List.length_append, List.length_cons, List.length_nil] at this; omega
  refine ListAt.of_own (El := InsEl) (·.1) insC r.1 (oI r hr) (fun _ _ => rfl) (by have := hgm.cs.1; omega) (fun x hx => ⟨x.2, rfl, TysAt.pre aT (ho.li r hr x hx), ?_⟩)
  have hx' : x.1 ∈ m.code ++ [ins77, ins77] := by rw [hl]; exact List.mem_map_of_mem hx
  exact app_all (p := insOk) (fun i hi => (hgm.cs.2 i hi).1) (two_all insOk_77 insOk_77) _ hx'
 have aR : ∀ r ∈ k.sR, FrsAt w r.2 (r.1.map (·.1)) := fun r hr => by
  obtain ⟨m, hm, hl⟩ := List.mem_map.1 (mem_of_map ho.R hr)
  have hgm := hg.ms.2 m hm
  have hln : r.1.length = m.frames.length + 2 := by have := congrArg List.length hl; simp only [List.length_map, List.length_append, List.length_cons, List.length_nil] at this; omega
  refine ListAt.of_own (El := FrEl) (·.1) frC r.1 (oR r hr) (fun _ _ => rfl) (by have := hgm.fs.1; omega) (fun x hx => ⟨x.2.1, x.2.2, rfl, TysAt.pre aT (ho.lr r hr x hx).1, TysAt.pre aT (ho.lr r hr x hx).2, ?_⟩)
  have hx' : x.1 ∈ m.frames ++ [fr77, fr77] := by rw [hl]; exact List.mem_map_of_mem hx
  exact app_all (p := fun f : Fr => intOk f.pos) (fun i hi => (hgm.fs.2 i hi).1) (two_all intOk_77 intOk_77) _ hx'
 have aH : ∀ r ∈ k.sH, HdsAt w r.2 r.1 := fun r hr => by
  obtain ⟨m, hm, hl⟩ := List.mem_map.1 (mem_of_map ho.H hr)
  have hgm := hg.ms.2 m hm
  refine hdsA_at (oH r hr) ⟨?_, ?_⟩
  ·rw [← hl, List.length_append]; have := hgm.hs.1; simp only [hdX, List.length_cons, List.length_nil]; omega
  ·rw [← hl]; exact app_all hgm.hs.2 (two_all hdOk_77 hdOk_77)
 have aF : ∀ r ∈ k.sF, FdsAt w r.2 r.1 := fun r hr => by
  have hl := List.mem_singleton.1 (mem_of_map ho.F hr)
  refine fdsA_at (oF r hr) ⟨?_, ?_⟩
  ·rw [hl, List.length_append]; have := hg.fs.1; simp only [fdX, List.length_cons, List.length_nil]; omega
  ·rw [hl]; exact app_all hg.fs.2 (two_all fdOk_77 fdOk_77)
 have aM : ∀ r ∈ k.sM, MesAt w r.2 (r.1.map (·.1)) := fun r hr => by
  have hl := List.mem_singleton.1 (mem_of_map ho.M hr)
  have hln : r.1.length = c.methods.length + 2 := by have := congrArg List.length hl; simp only [List.length_map, List.length_append, List.length_cons, List.length_nil] at this; omega
  refine ListAt.of_own (El := MeEl) (·.1) meC r.1 (oM r hr) (fun _ _ => rfl) (by have := hg.ms.1; omega) (fun x hx => ⟨_, _, _, _, rfl, ?_⟩)
  have hx' : x.1 ∈ c.methods ++ [me77, me77] := by rw [← hl]; exact List.mem_map_of_mem hx
  have hok : meOk x.1 := app_all (p := meOk) (fun i hi => (hg.ms.2 i hi).ok) (two_all meOk_77 meOk_77) _ hx'
  have lk := ho.lm r hr x hx
  refine ⟨TysAt.pre aT lk.p, ?_, ?_, ?_, hok⟩
  ·rw [← lk.cm]; exact lk.c.at (El := InsEl) (·.1) aI
  ·have := lk.h.at (El := HdEl) (k := 4) (w := w) id (fun r hr => by rw [List.map_id]; exact aH r hr)
   rw [List.map_id] at this; exact this
  ·rw [← lk.fm]; exact lk.f.at (El := FrEl) (·.1) aR
 exact ⟨aT, aI, aF, aM, aH, aR⟩
theorem clAt_of {w : World} {c : Cl} {k : Lx} {fv mv : Value} {ms : List (Me × MeM)} (h : RowsIn w k) (hg : ClGood c) (hf : Pre fdX k.sF c.fields fv) (hms : ms.map (·.1) = c.methods) (hm : Pre meX k.sM ms mv) : ClAt w c fv mv := by
 refine ⟨?_, ?_, hg.ok⟩
 ·have := hf.at (El := FdEl) (k := 4) (w := w) id (fun r hr => by rw [List.map_id]; exact h.f r hr)
  rw [List.map_id] at this; exact this
 ·rw [← hms]; exact hm.at (El := MeEl) (·.1) h.m
theorem lsAt_of {w0 w : World} {F : List Nat} {H : Hp} {R : Asr} {b i : Nat} {k : Lx} {c : Cl} (hs : Sat w0 F H R w) (hp : H[i]? = some (b, k.C)) (h : (lxA k).A w) (ho : LxOf c k) (hg : ClGood c) :
  LsAt w b k (c.methods.flatMap mT) (c.methods.map fun m => m.code ++ [ins77, ins77]) [c.fields ++ fdX] [c.methods ++ [me77, me77]] (c.methods.map fun m => m.handlers ++ hdX) (c.methods.map fun m => m.frames ++ [fr77, fr77]) := by
 have hc := own_cells hs hp
 have hr := rowsIn_of h ho hg
 have n1 := congrArg List.length ho.T; have n2 := congrArg List.length ho.I; have n3 := congrArg List.length ho.F; have n4 := congrArg List.length ho.M; have n5 := congrArg List.length ho.H; have n6 := congrArg List.length ho.R
 simp only [List.length_map, List.length_cons, List.length_nil] at n1 n2 n3 n4 n5 n6
 have hn := hg.n; have hm := hg.ms.1
 refine ⟨hc.1, hc.2, ?_, ?_, ?_, ?_, ?_, ?_⟩
 ·rw [← ho.T]; exact rowsAt_of (fun l => l) h.1 (by omega) (fun r hr' _ => hr.t r hr')
 ·rw [← ho.I]; exact rowsAt_of (fun l => l.map (·.1)) h.2.1.1 (by omega) (fun r hr' _ => hr.i r hr')
 ·rw [← ho.F]; exact rowsAt_of (fun l => l) h.2.1.2.1.1 (by omega) (fun r hr' _ => hr.f r hr')
 ·rw [← ho.M]; exact rowsAt_of (fun l => l.map (·.1)) h.2.1.2.1.2.1.1 (by omega) (fun r hr' _ => hr.m r hr')
 ·rw [← ho.H]; exact rowsAt_of (fun l => l) h.2.1.2.1.2.1.2.1.1 (by omega) (fun r hr' _ => hr.h r hr')
 ·rw [← ho.R]; exact rowsAt_of (fun l => l.map (·.1)) h.2.1.2.1.2.1.2.1.2.1 (by omega) (fun r hr' _ => hr.r r hr')
end Go.Proofs.YtpofmnfkdkmieaaGreat
namespace Go.Proofs.YtpofmnfkdkmieaaGreat.E
open Go Go.RowKit
section
variable {P : Program} {n : Nat} {E : Env} {w0 : World} {F : List Nat} {H : Hp} {R : Asr} {fn : Func} {Z : Ending → World → Prop} {κ : List Kf}
/-- A method that owns its receiver's block and Rin, in a world of which C is said. -/
def RcC (P : Program) (f : FuncId) (args : Array Value) (b : Nat) (cs : List Value) (Rin : Asr) (C : World → Prop) (ok : Value → List Value → Asr → Prop) : Prop := ∀ w, Sat w (b :: Rin.S) [(b, cs)] Rin w → C w → Calls P f args w (RkZ b w Rin ok)
theorem WL_callKC {all : Array Oper} {l : List Oper} {d f b : Nat} {xs : List Operand} {vs : List Value} {ts : Array TypeId} {t : TypeId} {p : String} {e : Array Edge} {cs : List Value} {Rin : Asr} {C : World → Prop} {ok : Value → List Value → Asr → Prop} (hf : IsFn P f)
  (hd : Nat.blt d n = true) (hx : args E xs = some vs) (i : Nat) (hp : H[i]? = some (b, cs)) (hc : RcC P f vs.toArray b cs Rin C ok) (hC : ∀ w, Sat w0 F H (Rin.and R) w → C w)
  (h : ∀ v cs' R', ok v cs' R' → WL P n all l ((d, v) :: E) w0 F (H.set i (b, cs')) (R'.and R) fn Z κ) :
  WL P n all (⟨some d, .call ⟨.value (.func f), xs.toArray, ts⟩, t, p, e, none⟩ :: l) E w0 F H (Rin.and R) fn Z κ :=
 ⟨fun w hs a ha => wpList_plain rfl fun K hK => by
  unfold Oper.wp; rw [run_call rfl hf, args_map ha xs vs hx]
  refine Calls.mono (hc w (rk_now hs hp) (hC w hs)) ?_
  rintro e w' ⟨v, cs', R', rfl, hok, hw⟩
  exact hK _ _ ((h v cs' R' hok).go w' (rk_then hs hp hw) _ (ha.put hd _))⟩
theorem cell_row {e m cap g i : Nat} {xs : List Value} {v : Value} (h : ∀ w, Sat w0 F H R w → w.ownsRow 0 e 1 (.slice (some ⟨g, 0, none⟩) m cap) m xs) (hi : xs[i]? = some v) : Cell w0 F H R ⟨g, 0 + i * 1, none⟩ v :=
 ⟨fun w hs => by
  have h1 := (h w hs).cells (g := g) rfl i v hi
  rw [Addr.add_lit] at h1
  rw [Nat.mul_one]; exact h1⟩
end
end Go.Proofs.YtpofmnfkdkmieaaGreat.E
namespace Go.Proofs.YtpofmnfkdkmieaaGreat
open Go Go.RowKit At E
structure LxLen (k : Lx) : Prop where
 t : ∀ r ∈ k.sT, r.1.length ≤ 2000000
 i : ∀ r ∈ k.sI, r.1.length ≤ 2000000
 f : ∀ r ∈ k.sF, r.1.length ≤ 2000000
 m : ∀ r ∈ k.sM, r.1.length ≤ 2000000
 h : ∀ r ∈ k.sH, r.1.length ≤ 2000000
 r : ∀ r ∈ k.sR, r.1.length ≤ 2000000
theorem rows_split {β : Type} (e' e sz : Nat) (cell : β → List Value) (v : Value) (rows : List (List β × Value)) (D : Asr) : ((rowsA e' e sz cell v rows).and D).Imp ((ownA e' 1 v rows.length (rows.map (·.2))).and ((bigA ((rows.drop 0).map fun p => ownA e sz p.2 p.1.length (p.1.flatMap cell))).and D)) := Asr.assoc _ _ _
def lxN (k : Lx) : Nat := k.sT.length + k.sI.length + k.sF.length + k.sM.length + k.sH.length + k.sR.length
theorem kl1 (B O X Y D : Asr) : (B.and (O.and ((X.and Y).and D))).Imp ((X.and B).and (O.and (Y.and D))) :=
 (Asr.Imp.right ((Asr.Imp.right (Asr.assoc _ _ _)).trans (Asr.swap _ _ _))).trans ((Asr.swap _ _ _).trans (Asr.cossa _ _ _))
theorem kl2 (B O Y D : Asr) : (B.and (O.and (Y.and D))).Imp (B.and D) := Asr.Imp.right ((Asr.snd _ _).trans (Asr.snd _ _))
theorem map_at {β : Type} {rows : List (List β × Value)} {i : Nat} {l : List β} {v : Value} (h : rows[i]? = some (l, v)) : (rows.map (·.2))[i]? = some v := by rw [List.getElem?_map, h]; rfl
set_option maxHeartbeats 8000000 in
theorem keepLists_any (b a : Nat) (bk : Bk) (k : Lx) (N M : Nat) (hbk : BkOk bk N) (hM : N + 4 * lxN k ≤ M) (hMM : M ≤ 1099511627776) (hk : LxLen k) :
  RcC Tryz.prog 47 #[.pointer (some ⟨b, 0, none⟩), .pointer (some ⟨a, 0, none⟩)] b bk.C ((bookA bk).and (lxA k)) (fun w => (∀ j x, k.C[j]? = some x → w.cell? ⟨a, j, none⟩ = some x) ∧ a ∉ b :: ((bookA bk).and (lxA k)).S) (bkOk M) := by
 intro w hs0 hC
 have forms : (∃ p c, k.vT = .slice p k.sT.length c ∧ (0 < k.sT.length → ∃ g, p = some ⟨g, 0, none⟩)) ∧ (∃ p c, k.vI = .slice p k.sI.length c ∧ (0 < k.sI.length → ∃ g, p = some ⟨g, 0, none⟩)) ∧ (∃ p c, k.vF = .slice p k.sF.length c ∧ (0 < k.sF.length → ∃ g, p = some ⟨g, 0, none⟩)) ∧ (∃ p c, k.vM = .slice p k.sM.length c ∧ (0 < k.sM.length → ∃ g, p = some ⟨g, 0, none⟩)) ∧ (∃ p c, k.vH = .slice p k.sH.length c ∧ (0 < k.sH.length → ∃ g, p = some ⟨g, 0, none⟩)) ∧ (∃ p c, k.vR = .slice p k.sR.length c ∧ (0 < k.sR.length → ∃ g, p = some ⟨g, 0, none⟩)) :=
  have h := hs0.res.2.1
  ⟨owns_form h.1.1, owns_form h.2.1.1.1, owns_form h.2.1.2.1.1.1, owns_form h.2.1.2.1.2.1.1.1, owns_form h.2.1.2.1.2.1.2.1.1.1, owns_form h.2.1.2.1.2.1.2.1.2.1.1⟩
 obtain ⟨hC1, hC2⟩ := hC
 obtain ⟨hkT, hkI, hkF, hkM, hkH, hkR⟩ := hk
 unfold lxN at hM
 obtain ⟨vT, vI, vF, vM, vH, vR, sT, sI, sF, sM, sH, sR⟩ := k
 obtain ⟨⟨pT, cT, heT, hpT⟩, ⟨pI, cI, heI, hpI⟩, ⟨pF, cF, heF, hpF⟩, ⟨pM, cM, heM, hpM⟩, ⟨pH, cH, heH, hpH⟩, ⟨pR, cR, heR, hpR⟩⟩ := forms
 dsimp only at heT heI heF heM heH heR hpT hpI hpF hpM hpH hpR hkT hkI hkF hkM hkH hkR hM
 subst heT; subst heI; subst heF; subst heM; subst heH; subst heR
 replace hpT : Hid _ := hpT
 replace hkT : Hid _ := hkT
 replace hpI : Hid _ := hpI
 replace hkI : Hid _ := hkI
 replace hpF : Hid _ := hpF
 replace hkF : Hid _ := hkF
 replace hpM : Hid _ := hpM
 replace hkM : Hid _ := hkM
 replace hpH : Hid _ := hpH
 replace hkH : Hid _ := hkH
 replace hpR : Hid _ := hpR
 replace hkR : Hid _ := hkR
 replace hC1 : ∀ j x, (bkC (.slice pT sT.length cT) (.slice pI sI.length cI) (.slice pF sF.length cF) (.slice pM sM.length cM) (.slice pH sH.length cH) (.slice pR sR.length cR))[j]? = some x → w.cell? ⟨a, j, none⟩ = some x := hC1
 refine opensF (hs0) (args := [.pointer (some ⟨b, 0, none⟩), .pointer (some ⟨a, 0, none⟩)]) Tryz.func47 rfl Tryz.ntmps47 ?_
 refine Zf (Zf (Zb (Za rfl (Zg rfl) (Ze (Zc ?_)))))
 refine Zs (WC_imp ((Asr.Imp.right (out1 _ _ _ _ _ _)).trans (Asr.Imp.right (rows_split _ _ _ _ _ _ _))) ?_)
 refine Xh (E' := (fun xT : KcL => [(0, .pointer (some ⟨b, 0, none⟩)), (1, .pointer (some ⟨a, 0, none⟩)), (4, .int .i64 (xT.i : Nat))]) (⟨0, bk, N⟩)) ⟨rfl, rfl, rfl, trivial⟩ (Yy (X := KcL) (fun xT : KcL => [(0, .pointer (some ⟨b, 0, none⟩)), (1, .pointer (some ⟨a, 0, none⟩)), (4, .int .i64 (xT.i : Nat))]) _ _ (fun xT : KcL => [(b, xT.bk.C)]) (fun xT : KcL => (bookA xT.bk).and ((ownA 69 1 (.slice pT sT.length cT) sT.length (sT.map (·.2))).and ((bigA ((sT.drop xT.i).map fun p => ownA 71 2 p.2 p.1.length (p.1.flatMap tyV))).and ((rowsA 76 75 7 insC (.slice pI sI.length cI) sI).and ((rowsA 22 128 4 fdV (.slice pF sF.length cF) sF).and ((rowsA 23 134 10 meC (.slice pM sM.length cM) sM).and ((rowsA 131 169 4 hdV (.slice pH sH.length cH) sH).and (rowsA 132 176 3 frC (.slice pR sR.length cR) sR)))))))) (fun xT : KcL => xT.i ≤ sT.length ∧ BkOk xT.bk xT.N ∧ xT.N + 4 * (sT.length - xT.i + (sI.length + sF.length + sH.length + sR.length + sM.length)) ≤ M) (fun xT : KcL => sT.length - xT.i) (⟨0, bk, N⟩) (⟨Nat.zero_le _, hbk, by show N + _ ≤ M; omega⟩) ?_)
 intro xT hI
 refine Zf (Zf (Zb (Za rfl (Zd rfl) (Za rfl (Zd rfl) (Za rfl (Ys rfl) ?_)))))
 refine Za rfl (Zh (ff rfl) rfl) (Za rfl (Zj (t1 rfl) rfl (cell_oldF (hC1 0 _ rfl) hC2)) (Za rfl (Yg (ts rfl) rfl) (Za rfl (Xb rfl rfl) (Ze (Zc ?_)))))
 refine Yi rfl ?_ ?_
 ·intro c1
  try (first | replace c1 := dTr c1 | replace c1 := Zk c1)
  have hxT : xT.i < sT.length := by omega
  obtain ⟨⟨lT, vT⟩, hlT⟩ : ∃ p, sT[xT.i]? = some p := ⟨_, List.getElem?_eq_getElem hxT⟩
  obtain ⟨gT, hgT⟩ := hpT.out (by omega)
  subst hgT
  refine Zw (Zc (Zf (Zs (Zb (Za rfl (Zd rfl) ?_)))))
  refine Za rfl (Zd rfl) (Za rfl (Ys rfl) (Za rfl (Zh (ff rfl) rfl) ?_))
  (first | refine Za rfl (Zj (t1 rfl) rfl (cell_oldF (hC1 0 _ rfl) hC2)) ?_ | refine Za rfl (Zj (t1 rfl) rfl (cell_row (fun w hs => hs.res.2.1.1) (map_at hlT))) ?_)
  refine Za rfl (Zd rfl) (Za rfl (Xk (ts rfl) rfl rfl ?_) ?_)
  ·omega
  (first | refine Za rfl (Zj (t1 rfl) rfl (cell_oldF (hC1 0 _ rfl) hC2)) ?_ | refine Za rfl (Zj (t1 rfl) rfl (cell_row (fun w hs => hs.res.2.1.1) (map_at hlT))) ?_)
  rw [drop_one hlT]; refine Xm (kl1 _ _ _ _ _) ?_; refine WL_callK fn81 rfl rfl 0 rfl (kpTypes b _ xT.N (by have h9 := hI.2.2; omega) hI.2.1 _ _ _ (hkT.out _ (List.mem_of_getElem? hlT))) ?_; rintro v cs' R' ⟨bk1, rfl, hR1, hbk1⟩; refine Xm hR1.left ?_
  refine Ze (Zx (Zc (Zb (Za rfl (Zd rfl) ?_))))
  (first | (refine Za rfl (Xa rfl rfl ?_) ?_; omega) | (refine Za rfl (Yp rfl rfl ?_) ?_; omega) | refine Za rfl (Yz rfl rfl) ?_)
  refine Za rfl (Zg rfl) (Ze ?_)
  refine Yn (⟨xT.i + 1, bk1, xT.N + 4⟩) ?_ (⟨by show xT.i + 1 ≤ sT.length; omega, hbk1, by show xT.N + 4 + 4 * (sT.length - (xT.i + 1) + (sI.length + sF.length + sH.length + sR.length + sM.length)) ≤ M; have h9 := hI.2.2; omega⟩) 0 rfl (rfl) ⟨rfl, rfl, rfl, trivial⟩
  show sT.length - (xT.i + 1) < sT.length - xT.i; omega
 ·intro c1
  try (first | replace c1 := dFa c1 | replace c1 := Zi c1)
  refine Yx (Yw (Yo (Yv (Zc (Zf ?_)))))
  refine Zf (Zb (Za rfl (Zg rfl) (Ze (Zc (Zs ?_)))))
  have hT9 := hI
  have hT8 : xT.i = sT.length := by omega
  refine WC_imp (kl2 _ _ _ _) (WC_imp ((Asr.Imp.refl _).trans (Asr.Imp.right (rows_split _ _ _ _ _ _ _))) ?_)
  refine Xh (E' := (fun xI : KcL => [(0, .pointer (some ⟨b, 0, none⟩)), (1, .pointer (some ⟨a, 0, none⟩)), (5, .int .i64 (xI.i : Nat))]) (⟨0, xT.bk, xT.N⟩)) ⟨rfl, rfl, rfl, trivial⟩ (Yy (X := KcL) (fun xI : KcL => [(0, .pointer (some ⟨b, 0, none⟩)), (1, .pointer (some ⟨a, 0, none⟩)), (5, .int .i64 (xI.i : Nat))]) _ _ (fun xI : KcL => [(b, xI.bk.C)]) (fun xI : KcL => (bookA xI.bk).and ((ownA 76 1 (.slice pI sI.length cI) sI.length (sI.map (·.2))).and ((bigA ((sI.drop xI.i).map fun p => ownA 75 7 p.2 p.1.length (p.1.flatMap insC))).and ((rowsA 22 128 4 fdV (.slice pF sF.length cF) sF).and ((rowsA 23 134 10 meC (.slice pM sM.length cM) sM).and ((rowsA 131 169 4 hdV (.slice pH sH.length cH) sH).and (rowsA 132 176 3 frC (.slice pR sR.length cR) sR))))))) (fun xI : KcL => xI.i ≤ sI.length ∧ BkOk xI.bk xI.N ∧ xI.N + 4 * (sI.length - xI.i + (sF.length + sH.length + sR.length + sM.length)) ≤ M) (fun xI : KcL => sI.length - xI.i) (⟨0, xT.bk, xT.N⟩) (⟨Nat.zero_le _, hT9.2.1, by have h9 := hT9.2.2; show xT.N + 4 * (sI.length - 0 + (sF.length + sH.length + sR.length + sM.length)) ≤ M; omega⟩) ?_)
  intro xI hI
  refine Zf (Zf (Zb (Za rfl (Zd rfl) (Za rfl (Zd rfl) (Za rfl (Ys rfl) ?_)))))
  refine Za rfl (Zh (ff rfl) rfl) (Za rfl (Zj (t1 rfl) rfl (cell_oldF (hC1 1 _ rfl) hC2)) (Za rfl (Yg (ts rfl) rfl) (Za rfl (Xb rfl rfl) (Ze (Zc ?_)))))
  refine Yi rfl ?_ ?_
  ·intro c2
   try (first | replace c2 := dTr c2 | replace c2 := Zk c2)
   have hxI : xI.i < sI.length := by omega
   obtain ⟨⟨lI, vI⟩, hlI⟩ : ∃ p, sI[xI.i]? = some p := ⟨_, List.getElem?_eq_getElem hxI⟩
   obtain ⟨gI, hgI⟩ := hpI.out (by omega)
   subst hgI
   refine Zw (Zc (Zf (Zs (Zb (Za rfl (Zd rfl) ?_)))))
   refine Za rfl (Zd rfl) (Za rfl (Ys rfl) (Za rfl (Zh (ff rfl) rfl) ?_))
   (first | refine Za rfl (Zj (t1 rfl) rfl (cell_oldF (hC1 1 _ rfl) hC2)) ?_ | refine Za rfl (Zj (t1 rfl) rfl (cell_row (fun w hs => hs.res.2.1.1) (map_at hlI))) ?_)
   refine Za rfl (Zd rfl) (Za rfl (Xk (ts rfl) rfl rfl ?_) ?_)
   ·omega
   (first | refine Za rfl (Zj (t1 rfl) rfl (cell_oldF (hC1 1 _ rfl) hC2)) ?_ | refine Za rfl (Zj (t1 rfl) rfl (cell_row (fun w hs => hs.res.2.1.1) (map_at hlI))) ?_)
   rw [drop_one hlI]; refine Xm (kl1 _ _ _ _ _) ?_; refine WL_callK fn82 rfl rfl 0 rfl (kpInstrs b _ xI.N (by have h9 := hI.2.2; omega) hI.2.1 _ _ _ (hkI.out _ (List.mem_of_getElem? hlI))) ?_; rintro v cs' R' ⟨bk1, rfl, hR1, hbk1⟩; refine Xm hR1.left ?_
   refine Ze (Zx (Zc (Zb (Za rfl (Zd rfl) ?_))))
   (first | (refine Za rfl (Xa rfl rfl ?_) ?_; omega) | (refine Za rfl (Yp rfl rfl ?_) ?_; omega) | refine Za rfl (Yz rfl rfl) ?_)
   refine Za rfl (Zg rfl) (Ze ?_)
   refine Yn (⟨xI.i + 1, bk1, xI.N + 4⟩) ?_ (⟨by show xI.i + 1 ≤ sI.length; omega, hbk1, by show xI.N + 4 + 4 * (sI.length - (xI.i + 1) + (sF.length + sH.length + sR.length + sM.length)) ≤ M; have h9 := hI.2.2; omega⟩) 0 rfl (rfl) ⟨rfl, rfl, rfl, trivial⟩
   show sI.length - (xI.i + 1) < sI.length - xI.i; omega
  ·intro c2
   try (first | replace c2 := dFa c2 | replace c2 := Zi c2)
   refine Yx (Yw (Yo (Yv (Zc (Zf ?_)))))
   refine Zf (Zb (Za rfl (Zg rfl) (Ze (Zc (Zs ?_)))))
   have hI9 := hI
   have hI8 : xI.i = sI.length := by omega
   refine WC_imp (kl2 _ _ _ _) (WC_imp ((Asr.Imp.refl _).trans (Asr.Imp.right (rows_split _ _ _ _ _ _ _))) ?_)
   refine Xh (E' := (fun xF : KcL => [(0, .pointer (some ⟨b, 0, none⟩)), (1, .pointer (some ⟨a, 0, none⟩)), (6, .int .i64 (xF.i : Nat))]) (⟨0, xI.bk, xI.N⟩)) ⟨rfl, rfl, rfl, trivial⟩ (Yy (X := KcL) (fun xF : KcL => [(0, .pointer (some ⟨b, 0, none⟩)), (1, .pointer (some ⟨a, 0, none⟩)), (6, .int .i64 (xF.i : Nat))]) _ _ (fun xF : KcL => [(b, xF.bk.C)]) (fun xF : KcL => (bookA xF.bk).and ((ownA 22 1 (.slice pF sF.length cF) sF.length (sF.map (·.2))).and ((bigA ((sF.drop xF.i).map fun p => ownA 128 4 p.2 p.1.length (p.1.flatMap fdV))).and ((rowsA 23 134 10 meC (.slice pM sM.length cM) sM).and ((rowsA 131 169 4 hdV (.slice pH sH.length cH) sH).and (rowsA 132 176 3 frC (.slice pR sR.length cR) sR)))))) (fun xF : KcL => xF.i ≤ sF.length ∧ BkOk xF.bk xF.N ∧ xF.N + 4 * (sF.length - xF.i + (sH.length + sR.length + sM.length)) ≤ M) (fun xF : KcL => sF.length - xF.i) (⟨0, xI.bk, xI.N⟩) (⟨Nat.zero_le _, hI9.2.1, by have h9 := hI9.2.2; show xI.N + 4 * (sF.length - 0 + (sH.length + sR.length + sM.length)) ≤ M; omega⟩) ?_)
   intro xF hI
   refine Zf (Zf (Zb (Za rfl (Zd rfl) (Za rfl (Zd rfl) (Za rfl (Ys rfl) ?_)))))
   refine Za rfl (Zh (ff rfl) rfl) (Za rfl (Zj (t1 rfl) rfl (cell_oldF (hC1 2 _ rfl) hC2)) (Za rfl (Yg (ts rfl) rfl) (Za rfl (Xb rfl rfl) (Ze (Zc ?_)))))
   refine Yi rfl ?_ ?_
   ·intro c3
    try (first | replace c3 := dTr c3 | replace c3 := Zk c3)
    have hxF : xF.i < sF.length := by omega
    obtain ⟨⟨lF, vF⟩, hlF⟩ : ∃ p, sF[xF.i]? = some p := ⟨_, List.getElem?_eq_getElem hxF⟩
    obtain ⟨gF, hgF⟩ := hpF.out (by omega)
    subst hgF
    refine Zw (Zc (Zf (Zs (Zb (Za rfl (Zd rfl) ?_)))))
    refine Za rfl (Zd rfl) (Za rfl (Ys rfl) (Za rfl (Zh (ff rfl) rfl) ?_))
    (first | refine Za rfl (Zj (t1 rfl) rfl (cell_oldF (hC1 2 _ rfl) hC2)) ?_ | refine Za rfl (Zj (t1 rfl) rfl (cell_row (fun w hs => hs.res.2.1.1) (map_at hlF))) ?_)
    refine Za rfl (Zd rfl) (Za rfl (Xk (ts rfl) rfl rfl ?_) ?_)
    ·omega
    (first | refine Za rfl (Zj (t1 rfl) rfl (cell_oldF (hC1 2 _ rfl) hC2)) ?_ | refine Za rfl (Zj (t1 rfl) rfl (cell_row (fun w hs => hs.res.2.1.1) (map_at hlF))) ?_)
    rw [drop_one hlF]; refine Xm (kl1 _ _ _ _ _) ?_; refine WL_callK fn83 rfl rfl 0 rfl (kpFields b _ xF.N (by have h9 := hI.2.2; omega) hI.2.1 _ _ _ (hkF.out _ (List.mem_of_getElem? hlF))) ?_; rintro v cs' R' ⟨bk1, rfl, hR1, hbk1⟩; refine Xm hR1.left ?_
    refine Ze (Zx (Zc (Zb (Za rfl (Zd rfl) ?_))))
    (first | (refine Za rfl (Xa rfl rfl ?_) ?_; omega) | (refine Za rfl (Yp rfl rfl ?_) ?_; omega) | refine Za rfl (Yz rfl rfl) ?_)
    refine Za rfl (Zg rfl) (Ze ?_)
    refine Yn (⟨xF.i + 1, bk1, xF.N + 4⟩) ?_ (⟨by show xF.i + 1 ≤ sF.length; omega, hbk1, by show xF.N + 4 + 4 * (sF.length - (xF.i + 1) + (sH.length + sR.length + sM.length)) ≤ M; have h9 := hI.2.2; omega⟩) 0 rfl (rfl) ⟨rfl, rfl, rfl, trivial⟩
    show sF.length - (xF.i + 1) < sF.length - xF.i; omega
   ·intro c3
    try (first | replace c3 := dFa c3 | replace c3 := Zi c3)
    refine Yx (Yw (Yo (Yv (Zc (Zf ?_)))))
    refine Zf (Zb (Za rfl (Zg rfl) (Ze (Zc (Zs ?_)))))
    have hF9 := hI
    have hF8 : xF.i = sF.length := by omega
    refine WC_imp (kl2 _ _ _ _) (WC_imp ((Asr.Imp.right (Asr.swap _ _ _)).trans (Asr.Imp.right (rows_split _ _ _ _ _ _ _))) ?_)
    refine Xh (E' := (fun xH : KcL => [(0, .pointer (some ⟨b, 0, none⟩)), (1, .pointer (some ⟨a, 0, none⟩)), (7, .int .i64 (xH.i : Nat))]) (⟨0, xF.bk, xF.N⟩)) ⟨rfl, rfl, rfl, trivial⟩ (Yy (X := KcL) (fun xH : KcL => [(0, .pointer (some ⟨b, 0, none⟩)), (1, .pointer (some ⟨a, 0, none⟩)), (7, .int .i64 (xH.i : Nat))]) _ _ (fun xH : KcL => [(b, xH.bk.C)]) (fun xH : KcL => (bookA xH.bk).and ((ownA 131 1 (.slice pH sH.length cH) sH.length (sH.map (·.2))).and ((bigA ((sH.drop xH.i).map fun p => ownA 169 4 p.2 p.1.length (p.1.flatMap hdV))).and ((rowsA 23 134 10 meC (.slice pM sM.length cM) sM).and (rowsA 132 176 3 frC (.slice pR sR.length cR) sR))))) (fun xH : KcL => xH.i ≤ sH.length ∧ BkOk xH.bk xH.N ∧ xH.N + 4 * (sH.length - xH.i + (sR.length + sM.length)) ≤ M) (fun xH : KcL => sH.length - xH.i) (⟨0, xF.bk, xF.N⟩) (⟨Nat.zero_le _, hF9.2.1, by have h9 := hF9.2.2; show xF.N + 4 * (sH.length - 0 + (sR.length + sM.length)) ≤ M; omega⟩) ?_)
    intro xH hI
    refine Zf (Zf (Zb (Za rfl (Zd rfl) (Za rfl (Zd rfl) (Za rfl (Ys rfl) ?_)))))
    refine Za rfl (Zh (ff rfl) rfl) (Za rfl (Zj (t1 rfl) rfl (cell_oldF (hC1 4 _ rfl) hC2)) (Za rfl (Yg (ts rfl) rfl) (Za rfl (Xb rfl rfl) (Ze (Zc ?_)))))
    refine Yi rfl ?_ ?_
    ·intro c4
     try (first | replace c4 := dTr c4 | replace c4 := Zk c4)
     have hxH : xH.i < sH.length := by omega
     obtain ⟨⟨lH, vH⟩, hlH⟩ : ∃ p, sH[xH.i]? = some p := ⟨_, List.getElem?_eq_getElem hxH⟩
     obtain ⟨gH, hgH⟩ := hpH.out (by omega)
     subst hgH
     refine Zw (Zc (Zf (Zs (Zb (Za rfl (Zd rfl) ?_)))))
     refine Za rfl (Zd rfl) (Za rfl (Ys rfl) (Za rfl (Zh (ff rfl) rfl) ?_))
     (first | refine Za rfl (Zj (t1 rfl) rfl (cell_oldF (hC1 4 _ rfl) hC2)) ?_ | refine Za rfl (Zj (t1 rfl) rfl (cell_row (fun w hs => hs.res.2.1.1) (map_at hlH))) ?_)
     refine Za rfl (Zd rfl) (Za rfl (Xk (ts rfl) rfl rfl ?_) ?_)
     ·omega
     (first | refine Za rfl (Zj (t1 rfl) rfl (cell_oldF (hC1 4 _ rfl) hC2)) ?_ | refine Za rfl (Zj (t1 rfl) rfl (cell_row (fun w hs => hs.res.2.1.1) (map_at hlH))) ?_)
     rw [drop_one hlH]; refine Xm (kl1 _ _ _ _ _) ?_; refine WL_callK fn84 rfl rfl 0 rfl (kpHandlers b _ xH.N (by have h9 := hI.2.2; omega) hI.2.1 _ _ _ (hkH.out _ (List.mem_of_getElem? hlH))) ?_; rintro v cs' R' ⟨bk1, rfl, hR1, hbk1⟩; refine Xm hR1.left ?_
     refine Ze (Zx (Zc (Zb (Za rfl (Zd rfl) ?_))))
     (first | (refine Za rfl (Xa rfl rfl ?_) ?_; omega) | (refine Za rfl (Yp rfl rfl ?_) ?_; omega) | refine Za rfl (Yz rfl rfl) ?_)
     refine Za rfl (Zg rfl) (Ze ?_)
     refine Yn (⟨xH.i + 1, bk1, xH.N + 4⟩) ?_ (⟨by show xH.i + 1 ≤ sH.length; omega, hbk1, by show xH.N + 4 + 4 * (sH.length - (xH.i + 1) + (sR.length + sM.length)) ≤ M; have h9 := hI.2.2; omega⟩) 0 rfl (rfl) ⟨rfl, rfl, rfl, trivial⟩
     show sH.length - (xH.i + 1) < sH.length - xH.i; omega
    ·intro c4
     try (first | replace c4 := dFa c4 | replace c4 := Zi c4)
     refine Yx (Yw (Yo (Yv (Zc (Zf ?_)))))
     refine Zf (Zb (Za rfl (Zg rfl) (Ze (Zc (Zs ?_)))))
     have hH9 := hI
     have hH8 : xH.i = sH.length := by omega
     refine WC_imp (kl2 _ _ _ _) (WC_imp ((Asr.Imp.right (Asr.comm _ _)).trans (Asr.Imp.right (rows_split _ _ _ _ _ _ _))) ?_)
     refine Xh (E' := (fun xR : KcL => [(0, .pointer (some ⟨b, 0, none⟩)), (1, .pointer (some ⟨a, 0, none⟩)), (8, .int .i64 (xR.i : Nat))]) (⟨0, xH.bk, xH.N⟩)) ⟨rfl, rfl, rfl, trivial⟩ (Yy (X := KcL) (fun xR : KcL => [(0, .pointer (some ⟨b, 0, none⟩)), (1, .pointer (some ⟨a, 0, none⟩)), (8, .int .i64 (xR.i : Nat))]) _ _ (fun xR : KcL => [(b, xR.bk.C)]) (fun xR : KcL => (bookA xR.bk).and ((ownA 132 1 (.slice pR sR.length cR) sR.length (sR.map (·.2))).and ((bigA ((sR.drop xR.i).map fun p => ownA 176 3 p.2 p.1.length (p.1.flatMap frC))).and (rowsA 23 134 10 meC (.slice pM sM.length cM) sM)))) (fun xR : KcL => xR.i ≤ sR.length ∧ BkOk xR.bk xR.N ∧ xR.N + 4 * (sR.length - xR.i + (sM.length)) ≤ M) (fun xR : KcL => sR.length - xR.i) (⟨0, xH.bk, xH.N⟩) (⟨Nat.zero_le _, hH9.2.1, by have h9 := hH9.2.2; show xH.N + 4 * (sR.length - 0 + (sM.length)) ≤ M; omega⟩) ?_)
     intro xR hI
     refine Zf (Zf (Zb (Za rfl (Zd rfl) (Za rfl (Zd rfl) (Za rfl (Ys rfl) ?_)))))
     refine Za rfl (Zh (ff rfl) rfl) (Za rfl (Zj (t1 rfl) rfl (cell_oldF (hC1 5 _ rfl) hC2)) (Za rfl (Yg (ts rfl) rfl) (Za rfl (Xb rfl rfl) (Ze (Zc ?_)))))
     refine Yi rfl ?_ ?_
     ·intro c5
      try (first | replace c5 := dTr c5 | replace c5 := Zk c5)
      have hxR : xR.i < sR.length := by omega
      obtain ⟨⟨lR, vR⟩, hlR⟩ : ∃ p, sR[xR.i]? = some p := ⟨_, List.getElem?_eq_getElem hxR⟩
      obtain ⟨gR, hgR⟩ := hpR.out (by omega)
      subst hgR
      refine Zw (Zc (Zf (Zs (Zb (Za rfl (Zd rfl) ?_)))))
      refine Za rfl (Zd rfl) (Za rfl (Ys rfl) (Za rfl (Zh (ff rfl) rfl) ?_))
      (first | refine Za rfl (Zj (t1 rfl) rfl (cell_oldF (hC1 5 _ rfl) hC2)) ?_ | refine Za rfl (Zj (t1 rfl) rfl (cell_row (fun w hs => hs.res.2.1.1) (map_at hlR))) ?_)
      refine Za rfl (Zd rfl) (Za rfl (Xk (ts rfl) rfl rfl ?_) ?_)
      ·omega
      (first | refine Za rfl (Zj (t1 rfl) rfl (cell_oldF (hC1 5 _ rfl) hC2)) ?_ | refine Za rfl (Zj (t1 rfl) rfl (cell_row (fun w hs => hs.res.2.1.1) (map_at hlR))) ?_)
      rw [drop_one hlR]; refine Xm (kl1 _ _ _ _ _) ?_; refine WL_callK fn85 rfl rfl 0 rfl (kpFrames b _ xR.N (by have h9 := hI.2.2; omega) hI.2.1 _ _ _ (hkR.out _ (List.mem_of_getElem? hlR))) ?_; rintro v cs' R' ⟨bk1, rfl, hR1, hbk1⟩; refine Xm hR1.left ?_
      refine Ze (Zx (Zc (Zb (Za rfl (Zd rfl) ?_))))
      (first | (refine Za rfl (Xa rfl rfl ?_) ?_; omega) | (refine Za rfl (Yp rfl rfl ?_) ?_; omega) | refine Za rfl (Yz rfl rfl) ?_)
      refine Za rfl (Zg rfl) (Ze ?_)
      refine Yn (⟨xR.i + 1, bk1, xR.N + 4⟩) ?_ (⟨by show xR.i + 1 ≤ sR.length; omega, hbk1, by show xR.N + 4 + 4 * (sR.length - (xR.i + 1) + (sM.length)) ≤ M; have h9 := hI.2.2; omega⟩) 0 rfl (rfl) ⟨rfl, rfl, rfl, trivial⟩
      show sR.length - (xR.i + 1) < sR.length - xR.i; omega
     ·intro c5
      try (first | replace c5 := dFa c5 | replace c5 := Zi c5)
      refine Yx (Yw (Yo (Yv (Zc (Zf ?_)))))
      refine Zb (Za rfl (Zg rfl) (Ze (Zc (Zs ?_))))
      have hR9 := hI
      have hR8 : xR.i = sR.length := by omega
      refine WC_imp (kl2 _ _ _ _) (WC_imp ((Asr.Imp.right (Asr.addNone _)).trans (Asr.Imp.right (rows_split _ _ _ _ _ _ _))) ?_)
      refine Xh (E' := (fun xM : KcL => [(0, .pointer (some ⟨b, 0, none⟩)), (1, .pointer (some ⟨a, 0, none⟩)), (9, .int .i64 (xM.i : Nat))]) (⟨0, xR.bk, xR.N⟩)) ⟨rfl, rfl, rfl, trivial⟩ (Yy (X := KcL) (fun xM : KcL => [(0, .pointer (some ⟨b, 0, none⟩)), (1, .pointer (some ⟨a, 0, none⟩)), (9, .int .i64 (xM.i : Nat))]) _ _ (fun xM : KcL => [(b, xM.bk.C)]) (fun xM : KcL => (bookA xM.bk).and ((ownA 23 1 (.slice pM sM.length cM) sM.length (sM.map (·.2))).and ((bigA ((sM.drop xM.i).map fun p => ownA 134 10 p.2 p.1.length (p.1.flatMap meC))).and Asr.none))) (fun xM : KcL => xM.i ≤ sM.length ∧ BkOk xM.bk xM.N ∧ xM.N + 4 * (sM.length - xM.i + (0)) ≤ M) (fun xM : KcL => sM.length - xM.i) (⟨0, xR.bk, xR.N⟩) (⟨Nat.zero_le _, hR9.2.1, by have h9 := hR9.2.2; show xR.N + 4 * (sM.length - 0 + (0)) ≤ M; omega⟩) ?_)
      intro xM hI
      refine Zf (Zf (Zb (Za rfl (Zd rfl) (Za rfl (Zd rfl) (Za rfl (Ys rfl) ?_)))))
      refine Za rfl (Zh (ff rfl) rfl) (Za rfl (Zj (t1 rfl) rfl (cell_oldF (hC1 3 _ rfl) hC2)) (Za rfl (Yg (ts rfl) rfl) (Za rfl (Xb rfl rfl) (Ze (Zc ?_)))))
      refine Yi rfl ?_ ?_
      ·intro c6
       try (first | replace c6 := dTr c6 | replace c6 := Zk c6)
       have hxM : xM.i < sM.length := by omega
       obtain ⟨⟨lM, vM⟩, hlM⟩ : ∃ p, sM[xM.i]? = some p := ⟨_, List.getElem?_eq_getElem hxM⟩
       obtain ⟨gM, hgM⟩ := hpM.out (by omega)
       subst hgM
       refine Zw (Zc (Zf (Zs (Zb (Za rfl (Zd rfl) ?_)))))
       refine Za rfl (Zd rfl) (Za rfl (Ys rfl) (Za rfl (Zh (ff rfl) rfl) ?_))
       (first | refine Za rfl (Zj (t1 rfl) rfl (cell_oldF (hC1 3 _ rfl) hC2)) ?_ | refine Za rfl (Zj (t1 rfl) rfl (cell_row (fun w hs => hs.res.2.1.1) (map_at hlM))) ?_)
       refine Za rfl (Zd rfl) (Za rfl (Xk (ts rfl) rfl rfl ?_) ?_)
       ·omega
       (first | refine Za rfl (Zj (t1 rfl) rfl (cell_oldF (hC1 3 _ rfl) hC2)) ?_ | refine Za rfl (Zj (t1 rfl) rfl (cell_row (fun w hs => hs.res.2.1.1) (map_at hlM))) ?_)
       rw [drop_one hlM]; refine Xm (kl1 _ _ _ _ _) ?_; refine WL_callK fn86 rfl rfl 0 rfl (kpMethods b _ xM.N (by have h9 := hI.2.2; omega) hI.2.1 _ _ _ (hkM.out _ (List.mem_of_getElem? hlM))) ?_; rintro v cs' R' ⟨bk1, rfl, hR1, hbk1⟩; refine Xm hR1.left ?_
       refine Ze (Zx (Zc (Zb (Za rfl (Zd rfl) ?_))))
       (first | (refine Za rfl (Xa rfl rfl ?_) ?_; omega) | (refine Za rfl (Yp rfl rfl ?_) ?_; omega) | refine Za rfl (Yz rfl rfl) ?_)
       refine Za rfl (Zg rfl) (Ze ?_)
       refine Yn (⟨xM.i + 1, bk1, xM.N + 4⟩) ?_ (⟨by show xM.i + 1 ≤ sM.length; omega, hbk1, by show xM.N + 4 + 4 * (sM.length - (xM.i + 1) + (0)) ≤ M; have h9 := hI.2.2; omega⟩) 0 rfl (rfl) ⟨rfl, rfl, rfl, trivial⟩
       show sM.length - (xM.i + 1) < sM.length - xM.i; omega
      ·intro c6
       try (first | replace c6 := dFa c6 | replace c6 := Zi c6)
       refine Yx (Yw (Yo (Yv (WQ_imp (Asr.fst _ _) (Rk_end0 rfl 0 rfl ?_)))))
       exact ⟨xM.bk, rfl, .refl _, hI.2.1.mono (by have h9 := hI.2.2; omega)⟩
end Go.Proofs.YtpofmnfkdkmieaaGreat
