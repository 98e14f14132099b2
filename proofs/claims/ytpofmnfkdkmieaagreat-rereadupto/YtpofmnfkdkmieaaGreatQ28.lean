/- What is proved here: code that is gone through over memory that is told by places does what was reckoned: rounds, ranges over functions, calls. Nothing of one program. -/
import Derived.Test.YtpofmnfkdkmieaaGreatQ27
set_option linter.unusedVariables false
set_option linter.unusedSimpArgs false
namespace Go.Proofs.YtpofmnfkdkmieaaGreat.S
open Go Go.RowKit E
section
variable {P : Program} {n : Nat} {w0 w w' : World} {F : List Nat} {B : Nm} {σ : St} {a : Act} {E : SE} {D : List SD} {o : Oper} {rec : Rec}
theorem Sx.loopAt (hs : Sx w0 F B σ w) {b : Nat} {st : LoopState} {pd : Option Code} {E0 : SE} {n0 : Nat} {ps : Array Tmp} {x y : Code} {p : Nat × Nat} (hb : σ.get b = some (.loop st pd E0 n0 ps x y)) (hp : B b = some p) :
    ∃ r : Loop, w.heap[p.1]? = some (.loop r) ∧ r.state = st ∧ r.pending = pd ∧ Tm B E0 n0 r.tmps ∧ r.params = ps ∧ r.assign = x ∧ r.body = y := by
  obtain ⟨q, hq, hk, _⟩ := hs.own b _ hb
  rw [hp] at hq; cases hq
  exact hk
theorem grown_put (w : World) (b : Nat) (o : Obj) : w.grownBy (w.putObj b o) (some b) := ⟨rfl, rfl, rfl, by rw [World.putObj_size]; exact Nat.le_refl _, fun k _ hk => World.putObj_heap_other (fun e => hk (by rw [e]))⟩
/-! ### Rounds -/
theorem putPs_ok : ∀ {ps : List Tmp} {args : List SV} {vs : List Value} {E E' : SE} {t : Array Value}, putPs n ps args E = some E' → denL B args = some vs → Tm B E n t → vs.length = ps.length ∧ Tm B E' n ((ps.zip vs).foldl (fun tmps (x : Tmp × Value) => tmps.setIfInBounds x.1 x.2) t)
  | [], [], vs, E, E', t, h, hd, ht => by
    simp only [denL] at hd; cases hd
    simp only [putPs] at h; cases h
    exact ⟨rfl, ht⟩
  | [], _ :: _, vs, E, E', t, h, hd, ht => by simp [putPs] at h
  | _ :: _, [], vs, E, E', t, h, hd, ht => by simp [putPs] at h
  | p :: ps, v :: args, vs, E, E', t, h, hd, ht => by
    obtain ⟨x, xs, hx, hxs, rfl⟩ := denL_cons.1 hd
    simp only [putPs] at h
    cases hb : Nat.blt p n with
    | false => rw [hb] at h; cases h
    | true =>
      rw [hb] at h
      have := putPs_ok h hxs (ht.put hb hx)
      exact ⟨by simp [this.1], by simpa using this.2⟩
theorem setLoop_some {b : Nat} {st : LoopState} {pd : Option Code} {q : Option SB} {τ : St} (h : setLoop σ b st pd q = some τ) : ∃ st0 pd0 E0 n0 ps x y, q = some (.loop st0 pd0 E0 n0 ps x y) ∧ τ = σ.set b (some (.loop st pd E0 n0 ps x y)) := by
  unfold setLoop at h
  split at h
  · cases h; exact ⟨_, _, _, _, _, _, _, rfl, rfl⟩
  · cases h
theorem setLoop_n {b : Nat} {st : LoopState} {pd : Option Code} {q : Option SB} {τ : St} (h : setLoop σ b st pd q = some τ) : τ.n = σ.n := by
  obtain ⟨_, _, _, _, _, _, _, _, rfl⟩ := setLoop_some h
  rfl
theorem set_loop {b : Nat} {st : LoopState} {pd : Option Code} {τ : St} {p : Nat × Nat} (hs : Sx w0 F B σ w) (hp : B b = some p) (h : setLoop σ b st pd (σ.get b) = some τ) (jump : Option Code) (hst : st = if jump.isNone then .ready else .done) (hpd : pd = jump) :
    ∃ w', (Instr.endRound p.1 jump).run P w = .ok (.bool jump.isNone) w' ∧ Sx w0 F B τ w' := by
  obtain ⟨st0, pd0, E0, n0, ps, x, y, hg, rfl⟩ := setLoop_some h
  obtain ⟨r, hr, h1, h2, h3, h4, h5, h6⟩ := hs.loopAt hg hp
  refine ⟨_, run_endRound jump hr, hs.putObj hg hp _ _ ?_⟩
  exact ⟨_, rfl, by rw [hst], by rw [hpd], h3, h4, h5, h6⟩
theorem round_ok (hrec : RecOk P rec) {b : Nat} {args : List SV} {r : Rs} (h : stepRound rec b args σ = some r) : Ok P (.round b args σ) r := by
  unfold stepRound at h
  split at h
  · rename_i pd E0 n0 ps x y hb
    split at h
    · rename_i E1 hE1
      unfold beginK at h
      split at h
      · rename_i E2 σ1 h1
        split at h
        · rename_i pd1 E01 n01 ps1 x1 y1 hb1
          have k1 := hrec _ _ h1
          unfold endK at h
          have key : ∀ (e : Xt) (E3 : SE) (σ2 τ : St) (q : Bool) (st : LoopState) (jump : Option Code), rec (.code true n0 y E2 [] (σ1.set b (some (.loop .busy pd1 E01 n01 ps1 x1 y1)))) = some (.code e E3 [] σ2) → setLoop σ2 b st jump (σ2.get b) = some τ →
              st = (if jump.isNone then .ready else .done) → q = jump.isNone → (e = .normal ∧ jump = none ∨ e = .ret ∧ jump = some .ret ∨ ∃ id, e = .exit id ∧ jump = some (.exit id)) → Ok P (.round b args σ) (.val (.v (.bool q)) τ) := by
            intro e E3 σ2 τ q st jump h2 h3 hst hq hej
            have k2 := hrec _ _ h2
            intro w0 F B w vs p hs hd hp
            obtain ⟨rl, hr, hst0, _, htm, hps, hx, hy⟩ := hs.loopAt hb hp
            obtain ⟨hlen, htm1⟩ := putPs_ok hE1 hd htm
            subst hx; subst hy; subst hps
            have hsz : vs.toArray.size = rl.params.size := by simpa using hlen
            refine ⟨_, _, _, _, run_yield hr hsz, ?_⟩
            refine roundIn_of_wpIn trivial ?_
            have htm2 : Tm B E1 n0 ((rl.params.zip vs.toArray).foldl (fun tmps (t, a) => tmps.setIfInBounds t a) rl.tmps) := by
              rw [← Array.foldl_toList]
              simpa using htm1
            refine wpIn_mono (k1 (some p.1) w0 F B w { tmps := _, defers := [] } rfl hs ⟨htm2, rfl⟩) ?_
            rintro e1 a1 w1 ⟨rfl, B1, hp1, hs1, ha1⟩
            have hpb1 := hp1.1 b p hp
            obtain ⟨r1, hr1, hst1, hpd1, htm1', hps1, hx1, hy1⟩ := hs1.loopAt hb1 hpb1
            refine ⟨_, run_beginRound hr1 hst1, ?_⟩
            have hs2 : Sx w0 F B1 (σ1.set b (some (.loop .busy pd1 E01 n01 ps1 x1 y1))) (w1.putObj p.1 (.loop { r1 with state := .busy })) := hs1.putObj hb1 hpb1 _ _ ⟨_, rfl, rfl, hpd1, htm1', hps1, hx1, hy1⟩
            refine wpIn_mono (k2 (some p.1) w0 F B1 _ a1 rfl hs2 ha1) ?_
            rintro e2 a2 w2 ⟨rfl, B2, hp2, hs3, ha2⟩
            obtain ⟨w3, hend, hs4⟩ := set_loop (P := P) hs3 (hp2.1 b p hpb1) h3 jump hst rfl
            have hfin : ∃ v w', (Instr.endRound p.1 jump).run P w2 = .ok v w' ∧ ∃ x B', Ending.returned v = .returned x ∧ Gr σ.n τ.n B B' ∧ den B' (.v (.bool q)) = some x ∧ Sx w0 F B' τ w' := ⟨_, w3, hend, _, B2, rfl, by rw [setLoop_n h3]; exact hp1.trans hp2, by rw [hq]; rfl, hs4⟩
            rcases hej with ⟨rfl, rfl⟩ | ⟨rfl, rfl⟩ | ⟨id, rfl, rfl⟩ <;> exact hfin
          split at h
          · rename_i E3 σ2 h2
            cases h3 : setLoop σ2 b .ready none (σ2.get b) with
            | none => rw [h3] at h; cases h
            | some τ => rw [h3] at h; cases h; exact key .normal E3 σ2 τ true .ready none h2 h3 rfl rfl (.inl ⟨rfl, rfl⟩)
          · rename_i E3 σ2 h2
            cases h3 : setLoop σ2 b .done (some .ret) (σ2.get b) with
            | none => rw [h3] at h; cases h
            | some τ => rw [h3] at h; cases h; exact key .ret E3 σ2 τ false .done (some .ret) h2 h3 rfl rfl (.inr (.inl ⟨rfl, rfl⟩))
          · rename_i id E3 σ2 h2
            cases h3 : setLoop σ2 b .done (some (.exit id)) (σ2.get b) with
            | none => rw [h3] at h; cases h
            | some τ => rw [h3] at h; cases h; exact key (.exit id) E3 σ2 τ false .done (some (.exit id)) h2 h3 rfl rfl (.inr (.inr ⟨id, rfl, rfl⟩))
          · cases h
        · cases h
      · cases h
    · cases h
  · cases h
/-! ### Ranges over functions -/
theorem range_ok (hng : NoNG P) (hrec : RecOk P rec) {g : Operand} {ps : Array Tmp} {x y : Code} {r : Rs} (h : rangeS rec n ps x y E D σ (sev E g) = some r) : Ok P (.code false n (.rangeFunc g ps x y) E D σ) r := by
  unfold rangeS at h
  split at h
  · rename_i f u c hg
    cases hb : Nat.blt σ.n 15998 with
    | false => rw [hb] at h; cases h
    | true =>
      rw [hb] at h
      simp only [cond_true] at h
      have hlt : σ.n < 15998 := by simpa using hb
      split at h
      · rename_i v σ' hcall
        have k1 := hrec _ _ (valOf_some hcall)
        have key : ∀ (r' : Rs) (st : LoopState) (pd : Option Code) (E0 : SE) (n0 : Nat) (ps0 : Array Tmp) (x0 y0 : Code), σ'.get (σ.n + 1) = some (.loop st pd E0 n0 ps0 x0 y0) → st ≠ .busy → pendK rec n E (.mark σ.n :: D) (σ'.set (σ.n + 1) none) pd = some r' → Ok P (.code false n (.rangeFunc g ps x y) E D σ) r' := by
          intro r' st pd E0 n0 ps0 x0 y0 hl hst hpend
          have hr' : ∃ e E2 D2 σ2, r' = .code e E2 D2 σ2 := by
            cases pd with
            | none => cases hpend; exact ⟨_, _, _, _, rfl⟩
            | some cc => exact ok_code (hrec _ _ hpend)
          obtain ⟨e, E2, D2, σ2, rfl⟩ := hr'
          intro l w0 F B w a hro hs ha
          have hl0 : l = none := by
            cases l with
            | none => rfl
            | some _ => cases hro
          subst hl0
          obtain ⟨us, vs, hus, hvs, hfe⟩ := den_fn (ha.eval hg)
          refine wpIn_rangeFunc fun fn _ => ?_
          -- the record
          have hB0 : B σ.n = none := (hs.new σ.n (Nat.le_refl _)).1
          have he := hs.ext 2 (by unfold lim; omega)
          have s1 := he.alloc (r := σ.n) (by show σ.n < σ.n + 2; omega) hB0 (.deferred (some [])) 0 .defd rfl
          have hB1 : upd B σ.n (w.heap.size, 0) (σ.n + 1) = none := by unfold upd; rw [if_neg (by omega)]; exact (hs.new (σ.n + 1) (by omega)).1
          have hpre1 : Pre B (upd B σ.n (w.heap.size, 0)) := Pre.upd hB0 _
          have hsz1 : (w.alloc (.deferred (some []))).heap.size = w.heap.size + 1 := World.size_alloc ..
          have s2 := s1.alloc (r := σ.n + 1) (by show σ.n + 1 < σ.n + 2; omega) hB1 (.loop { state := .ready, pending := none, fn, tmps := a.tmps, params := ps, assign := x, body := y, defers := w.heap.size }) 0 (.loop .ready none E n ps x y)
            ⟨_, rfl, rfl, rfl, ha.tm.mono (hpre1.trans (Pre.upd hB1 _)), rfl, rfl, rfl⟩
          rw [hsz1] at s2
          have hpre2 : Pre B (upd (upd B σ.n (w.heap.size, 0)) (σ.n + 1) (w.heap.size + 1, 0)) := hpre1.trans (Pre.upd hB1 _)
          have hen := run_enterLoop_outer (P := P) (w := w) fn a.tmps ps x y
          generalize (w.alloc (.deferred (some []))).alloc (.loop { state := .ready, pending := none, fn, tmps := a.tmps, params := ps, assign := x, body := y, defers := w.heap.size }) = W at s2 hen
          refine ⟨w.heap.size + 1, [{ target := .collected w.heap.size, args := #[] }], W, { target := .fn (.func f) vs.toArray, args := (us ++ [Value.func (.yield (w.heap.size + 1)) #[] #[]]).toArray }, W, f, (us ++ [Value.func (.yield (w.heap.size + 1)) #[] #[]] ++ vs).toArray, W, hen, ?_, fun _ _ => trivial, ?_, fun h => (by cases h), ?_⟩
          · simp only [resolve, rangeCall, hfe, Deferred.ofValue]
            simp
            rfl
          · obtain ⟨fn', hfn, hbody⟩ := k1.1
            have hn := hng f fn' hfn
            have hp : (program : Sem Program).run P W = .ok P W := rfl
            simp only [invoke, callFunc, Sem.run_bind]
            rw [hp]
            simp only [Result.andThen_ok, hfn, hn, hbody, Bool.false_eq_true, if_false, Sem.run_pure]
            simp
          · have hargs : denL (upd (upd B σ.n (w.heap.size, 0)) (σ.n + 1) (w.heap.size + 1, 0)) (u ++ [.yd (σ.n + 1)] ++ c) = some (us ++ [Value.func (.yield (w.heap.size + 1)) #[] #[]] ++ vs) :=
              denL_append (denL_append (denL_mono hpre2 _ _ hus) (by simp [denL, den, upd_same])) (denL_mono hpre2 _ _ hvs)
            refine CallsIn.mono (k1.2 w0 F _ _ _ s2 hargs) ?_
            rintro e' w3 ⟨z, B3, rfl, hp3, hdz, hs3⟩
            have hpl : B3 (σ.n + 1) = some (w.heap.size + 1, 0) := hp3.1 _ _ (upd_same ..)
            have hpm : B3 σ.n = some (w.heap.size, 0) := hp3.1 _ _ (by unfold upd; rw [if_neg (by omega), if_pos rfl])
            obtain ⟨rl, hrl, hst1, hpd1, _⟩ := hs3.loopAt hl hpl
            refine ⟨_, _, run_endLoop hrl (by rw [hst1]; exact hst), ?_⟩
            have hs4 : Sx w0 F B3 (σ'.set (σ.n + 1) none) (w3.putObj (w.heap.size + 1) (.loop { rl with state := .exhausted })) := hs3.loose hl hpl (grown_put _ _ _)
            have hg2 : Gr σ.n (σ.n + 2) B (upd (upd B σ.n (w.heap.size, 0)) (σ.n + 1) (w.heap.size + 1, 0)) := ⟨hpre2, by omega, fun i hi => by unfold upd; rw [if_neg (by omega), if_neg (by omega)]⟩
            have hg3 : Gr σ.n σ'.n B B3 := hg2.trans hp3
            have hpre3 : Pre B B3 := hg3.1
            have ha3 : Ags n { a with defers := [{ target := .collected w.heap.size, args := #[] }] ++ a.defers } E (.mark σ.n :: D) B3 := ⟨ha.tm.mono hpre3, denDs_cons.2 ⟨_, _, by simp [denD, hpm], denDs_mono hpre3 _ _ ha.df, rfl⟩⟩
            rw [hpd1] at hs4 ⊢
            cases pd with
            | none =>
              cases hpend
              exact ⟨rfl, B3, hg3, hs4, ha3⟩
            | some cc =>
              have k2 := hrec _ _ hpend
              refine wpIn_mono (k2 none w0 F B3 _ _ rfl hs4 ha3) ?_
              rintro e2 a2 w4 ⟨he2, B4, hp4, hs5, ha5⟩
              exact ⟨he2, B4, hg3.trans hp4, hs5, ha5⟩
        unfold rangeK at h
        split at h
        · rename_i hl; exact key r .ready _ _ _ _ _ _ hl (by simp) h
        · rename_i hl; exact key r .done _ _ _ _ _ _ hl (by simp) h
        · cases h
      · cases h
  · cases h
/-! ### Statements -/
theorem code_ok (hng : NoNG P) (hrec : RecOk P rec) {draw : Bool → Draw} (hdraw : DrOk P draw) {ro : Bool} {c : Code} {r : Rs} (h : stepCode P rec (draw ro) ro n E D σ c = some r) : Ok P (.code ro n c E D σ) r := by
  cases c with
  | skip =>
    cases h
    exact fun l w0 F B w a hl hs ha => wpIn_skip ⟨rfl, B, Gr.refl _ B, hs, ha⟩
  | ret =>
    cases h
    exact fun l w0 F B w a hl hs ha => wpIn_ret ⟨rfl, B, Gr.refl _ B, hs, ha⟩
  | exit id =>
    cases h
    exact fun l w0 F B w a hl hs ha => wpIn_exit ⟨rfl, B, Gr.refl _ B, hs, ha⟩
  | seq x y => exact seq_ok hrec h _ (fun l Q a w _ hx => wpIn_seq hx)
  | loop x => exact seq_ok hrec h _ (fun l Q a w hQ hx => loop_once hQ hx)
  | cond c x y =>
    simp only [stepCode] at h
    unfold condK at h
    split at h
    · rename_i hc
      have k := hrec _ _ h
      obtain ⟨e, E', D', σ', rfl⟩ := ok_code k
      intro l w0 F B w a hl hs ha
      exact wpIn_cond_true (den_v (ha.eval hc)) (k l w0 F B w a hl hs ha)
    · rename_i hc
      have k := hrec _ _ h
      obtain ⟨e, E', D', σ', rfl⟩ := ok_code k
      intro l w0 F B w a hl hs ha
      exact wpIn_cond_false (den_v (ha.eval hc)) (k l w0 F B w a hl hs ha)
    · cases h
  | block id x =>
    simp only [stepCode] at h
    cases h1 : rec (.code ro n x E D σ) with
    | none => rw [h1] at h; cases h
    | some r1 =>
      rw [h1] at h
      have k := hrec _ _ h1
      obtain ⟨e, E', D', σ', rfl⟩ := ok_code k
      cases e with
      | normal =>
        simp only [blockK] at h
        cases h
        intro l w0 F B w a hl hs ha
        refine wpIn_block (wpIn_mono (k l w0 F B w a hl hs ha) ?_)
        rintro e a1 w1 ⟨rfl, h1⟩
        exact ⟨rfl, h1⟩
      | ret =>
        simp only [blockK] at h
        cases h
        intro l w0 F B w a hl hs ha
        refine wpIn_block (wpIn_mono (k l w0 F B w a hl hs ha) ?_)
        rintro e a1 w1 ⟨rfl, h1⟩
        exact ⟨rfl, h1⟩
      | exit i =>
        simp only [blockK] at h
        cases hb : Nat.beq i id with
        | true =>
          rw [hb] at h
          cases h
          have hi := Nat.eq_of_beq_eq_true hb
          subst hi
          intro l w0 F B w a hl hs ha
          refine wpIn_block (wpIn_mono (k l w0 F B w a hl hs ha) ?_)
          rintro e a1 w1 ⟨rfl, h1⟩
          simp only [xt, Exit.inBlock, if_true]
          exact ⟨trivial, h1⟩
        | false =>
          rw [hb] at h
          cases h
          have hi : i ≠ id := fun e => by rw [e, Nat.beq_refl] at hb; cases hb
          intro l w0 F B w a hl hs ha
          refine wpIn_block (wpIn_mono (k l w0 F B w a hl hs ha) ?_)
          rintro e a1 w1 ⟨rfl, h1⟩
          simp only [xt, Exit.inBlock, if_neg hi]
          exact ⟨trivial, h1⟩
  | region id ops dr =>
    simp only [stepCode] at h
    cases dr with
    | true =>
      simp only [cond_true] at h
      cases hd : draw ro n ops E D σ with
      | none => rw [hd] at h; cases h
      | some q =>
        obtain ⟨E', D', σ'⟩ := q
        rw [hd] at h
        cases h
        exact hdraw ro n id ops E D σ E' D' σ' hd
    | false =>
      simp only [cond_false] at h
      cases hd : opers P rec ro n ops ops.toList E D σ with
      | none => rw [hd] at h; cases h
      | some q =>
        obtain ⟨E', D', σ'⟩ := q
        rw [hd] at h
        cases h
        intro l w0 F B w a hl hs ha
        have := wpIn_region_lit (id := id) (opers_ok hng hrec hl (all := ops) (Q := fun e' a' w' => e' = xt .normal ∧ ∃ B', Gr σ.n σ'.n B B' ∧ Sx w0 F B' σ' w' ∧ Ags n a' E' D' B') ops.toList hd (fun B' a' w' hp hs' ha' => ⟨rfl, B', hp, hs', ha'⟩) hs ha |> fun h => by simpa using h)
        simpa using this
  | rangeFunc g ps x y =>
    simp only [stepCode] at h
    cases ro with
    | true => cases h
    | false => exact range_ok hng hrec h
  | _ => cases h
end
end Go.Proofs.YtpofmnfkdkmieaaGreat.S
namespace Go.Proofs.YtpofmnfkdkmieaaGreat.S
open Go Go.RowKit E
section
variable {P : Program} {n : Nat} {w0 w w' : World} {F : List Nat} {B : Nm} {σ : St} {a : Act} {E : SE} {D : List SD} {o : Oper} {rec : Rec}
theorem leaves_n {dc : FuncId → Bool} : ∀ {D : List SD} {σ σ' : St}, leaves dc D σ = some σ' → σ'.n = σ.n
  | [], σ, σ', h => by simp only [leaves] at h; cases h; rfl
  | .mark b :: D, σ, σ', h => by
    simp only [leaves] at h
    split at h
    · exact leaves_n (σ := σ.set b none) h
    · cases h
  | .clo f c :: D, σ, σ', h => by
    simp only [leaves] at h
    cases hf : dc f with
    | false => rw [hf] at h; cases h
    | true =>
      rw [hf] at h
      simp only [cond_true] at h
      split at h
      · split at h
        · rename_i b k _ l hb
          cases hk : Nat.blt k l.length with
          | false => rw [hk] at h; cases h
          | true =>
            rw [hk] at h
            exact leaves_n (σ := σ.set b (some (.cells (sput l k [.v .nilIface])))) h
        · cases h
      · cases h
theorem leaves_ok {dc : FuncId → Bool} (hng : NoNG P) (hdc : DcOk P dc) {fn : Func} {tmps : Array Value} {R : Ending → World → Prop} : ∀ (D : List SD) {σ σ' : St} {w : World} {ds : List Deferred}, leaves dc D σ = some σ' → Sx w0 F B σ w → denDs B D = some ds →
    (∀ w', Sx w0 F B σ' w' → LeavesIn (Wz none) 0 P fn tmps R [] .returning w') → LeavesInM (Wz none) 0 P fn tmps R ds .returning w
  | [], σ, σ', w, ds, h, hs, hd, hR => by
    simp only [leaves] at h; cases h
    simp only [denDs] at hd; cases hd
    exact hR w hs
  | .mark b :: D, σ, σ', w, ds, h, hs, hd, hR => by
    obtain ⟨d, ds', hd1, hd2, rfl⟩ := denDs_cons.1 hd
    simp only [leaves] at h
    split at h
    · rename_i hb
      simp only [denD, Option.map_eq_some_iff] at hd1
      obtain ⟨p, hp, rfl⟩ := hd1
      obtain ⟨q, hq, hk, _⟩ := hs.own b _ hb
      rw [hp] at hq; cases hq
      have hob : w.heap[p.1]? = some (.deferred (some [])) := hk
      refine ⟨by simp, .inl ⟨p.1, _, rfl, run_takeDeferred hob, ?_⟩⟩
      exact leaves_ok hng hdc D h (hs.loose hb hp (grown_put _ _ _)) hd2 hR
    · cases h
  | .clo f c :: D, σ, σ', w, ds, h, hs, hd, hR => by
    obtain ⟨d, ds', hd1, hd2, rfl⟩ := denDs_cons.1 hd
    simp only [leaves] at h
    cases hf : dc f with
    | false => rw [hf] at h; cases h
    | true =>
      rw [hf] at h
      simp only [cond_true] at h
      split at h
      · rename_i b k
        split at h
        · rename_i l hb
          cases hk : Nat.blt k l.length with
          | false => rw [hk] at h; cases h
          | true =>
            rw [hk] at h
            simp only [cond_true] at h
            have hkl : k < l.length := by simpa using hk
            simp only [denD, Option.map_eq_some_iff] at hd1
            obtain ⟨ys, hys, rfl⟩ := hd1
            obtain ⟨y, ys', hy, hys', rfl⟩ := denL_cons.1 hys
            simp only [denL] at hys'
            cases hys'
            obtain ⟨p, hp, rfl⟩ := den_ptr hy
            obtain ⟨q, hq, ⟨us, t, hus, hob⟩, _⟩ := hs.own b _ hb
            rw [hp] at hq; cases hq
            obtain ⟨⟨fn', hfn, hbody⟩, hcall⟩ := hdc f hf
            have hn := hng f fn' hfn
            refine ⟨by simp, .inr ⟨fun h => (by cases h), .func f, _, f, #[.pointer (some ⟨p.1, k, none⟩)], rfl, ?_, fun _ _ => trivial, ?_⟩⟩
            · have hpg : (program : Sem Program).run P w = .ok P w := rfl
              simp only [invoke, callFunc, Sem.run_bind]
              rw [hpg]
              simp only [Result.andThen_ok, hfn, hn, hbody, Bool.false_eq_true, if_false, Sem.run_pure]
              simp
            · refine CallsDIn.mono (hcall w p.1 k us t hob (by rw [denL_length hus]; exact hkl)) ?_
              rintro e u w1 ⟨⟨v, rfl⟩, rfl, rfl⟩
              refine leaves_ok hng hdc D h ?_ hd2 hR
              refine hs.turn (w' := w.setRow p.1 (put us k [.nilIface]).toArray) hb hp ⟨rfl, rfl, rfl⟩ (by simp) (fun j hj => setRow_other w p.1 j _ hj) _ ?_
              exact ⟨_, t, denL_put hus (c := [.v .nilIface]) (vs := [.nilIface]) rfl k, setRow_heap w p.1 _ _ t _ hob⟩
        · cases h
      · cases h
def rvS (tmps : Array Value) : ResultVar → Sem Value
  | .tmp t => pure (tmps.getD t undef)
  | .cell y t => do loadVar t (← asAddr (tmps.getD y undef))
theorem results_eq (fn : Func) (tmps : Array Value) : results fn tmps = (do let vs ← fn.results.mapM (rvS tmps); pure (if h : vs.size = 1 then vs[0] else .tuple vs)) := by
  unfold results
  congr 1
theorem res_one {r : ResultVar} {v : SV} (hs : Sx w0 F B σ w) (ha : Tm B E n a.tmps) (h : resOf P E σ r = some v) : ∃ x, den B v = some x ∧ (rvS a.tmps r).run P w = .ok x w := by
  cases r with
  | tmp t =>
    obtain ⟨x, hx, ht⟩ := ha.2 t v h
    refine ⟨x, hx, ?_⟩
    simp only [rvS, Sem.run_pure]
    rw [Array.getD_eq_getD_getElem?, ht]; rfl
  | cell y t =>
    simp only [resOf] at h
    cases hy : slook E y with
    | none => rw [hy] at h; cases h
    | some u =>
      rw [hy] at h
      obtain ⟨x, hx, ht⟩ := ha.2 y u hy
      cases u with
      | ptr b k =>
        obtain ⟨p, hp, rfl⟩ := den_ptr hx
        obtain ⟨z, hz, hr⟩ := run_load hs hp h
        refine ⟨z, hz, ?_⟩
        have e : a.tmps.getD y undef = .pointer (some ⟨p.1, k, none⟩) := by rw [Array.getD_eq_getD_getElem?, ht]; rfl
        simp only [rvS, e]
        simp [asAddr, hr]
      | _ => cases h
theorem res_all (hs : Sx w0 F B σ w) (ha : Tm B E n a.tmps) : ∀ {rs : List ResultVar} {l : List SV}, resL P E σ rs = some l → ∃ xs, denL B l = some xs ∧ (rs.mapM (rvS a.tmps)).run P w = .ok xs w
  | [], l, h => by simp only [resL] at h; cases h; exact ⟨[], rfl, rfl⟩
  | r :: rs, l, h => by
    simp only [resL] at h
    cases h1 : resOf P E σ r with
    | none => rw [h1] at h; cases h
    | some v =>
      rw [h1] at h
      cases h2 : resL P E σ rs with
      | none => rw [h2] at h; cases h
      | some m =>
        rw [h2] at h
        cases h
        obtain ⟨x, hx, hr⟩ := res_one (P := P) (a := a) hs ha h1
        obtain ⟨xs, hxs, hrs⟩ := res_all hs ha h2
        refine ⟨x :: xs, denL_cons.2 ⟨x, xs, hx, hxs, rfl⟩, ?_⟩
        rw [List.mapM_cons, Sem.run_bind, hr]
        simp only [Result.andThen_ok]
        rw [Sem.run_bind, hrs]
        rfl
theorem res_ok {fn : Func} {l : List SV} (hs : Sx w0 F B σ w) (ha : Tm B E n a.tmps) (h : resL P E σ fn.results.toList = some l) : ∃ x, den B (resV l) = some x ∧ (results fn a.tmps).run P w = .ok x w := by
  obtain ⟨xs, hxs, hr⟩ := res_all (P := P) (a := a) hs ha h
  have hr' : (fn.results.mapM (rvS a.tmps)).run P w = .ok xs.toArray w := by
    rw [Array.mapM_eq_mapM_toList]
    show (List.toArray <$> _ : Sem (Array Value)).run P w = _
    rw [← bind_pure_comp, Sem.run_bind, hr]
    rfl
  rw [results_eq, Sem.run_bind, hr']
  simp only [Result.andThen_ok, Sem.run_pure]
  cases l with
  | nil =>
    simp only [denL] at hxs; cases hxs
    exact ⟨_, rfl, rfl⟩
  | cons v l =>
    obtain ⟨x, xs', hx, hxs', rfl⟩ := denL_cons.1 hxs
    cases l with
    | nil =>
      simp only [denL] at hxs'; cases hxs'
      exact ⟨x, hx, rfl⟩
    | cons u l =>
      obtain ⟨y, ys, hy, hys, rfl⟩ := denL_cons.1 hxs'
      refine ⟨.tuple (x :: y :: ys).toArray, by simp only [resV, den]; rw [hxs]; rfl, ?_⟩
      rw [dif_neg (by simp)]
theorem look_snumber : ∀ (l : List SV) (k i : Nat) (v : SV), slook (snumber k l) i = some v → k ≤ i ∧ l[i - k]? = some v
  | [], _, _, _, h => by simp [snumber, slook_nil] at h
  | u :: r, k, i, v, h => by
    simp only [snumber, slook_cons] at h
    cases hb : Nat.beq i k with
    | true =>
      rw [hb] at h
      have e := Nat.eq_of_beq_eq_true hb
      subst e
      cases h
      simp
    | false =>
      rw [hb] at h
      have ⟨h1, h2⟩ := look_snumber r (k + 1) i v h
      refine ⟨by omega, ?_⟩
      have e : i - k = (i - (k + 1)) + 1 := by omega
      rw [e, List.getElem?_cons_succ]; exact h2
theorem body_some {f : FuncId} {fn : Func} {c : Code} (h : bodyOf P f = some (fn, c)) : P.funcs[f]? = some fn ∧ fn.body = some c := by
  unfold bodyOf at h
  split at h
  · rename_i fn' hf
    split at h
    · rename_i c' hc; cases h; exact ⟨hf, hc⟩
    · cases h
  · cases h
theorem call_ok {X : Ext} {dc : FuncId → Bool} (hng : NoNG P) (hX : XOk P X) (hdc : DcOk P dc) (hrec : RecOk P rec) {f : FuncId} {args : List SV} {r : Rs} (h : stepCall P X dc rec f args σ = some r) : Ok P (.call f args σ) r := by
  unfold stepCall at h
  cases hx : X f with
  | some g =>
    rw [hx] at h
    simp only at h
    cases hg : g args σ with
    | none => rw [hg] at h; cases h
    | some q =>
      obtain ⟨v, σ'⟩ := q
      rw [hg] at h
      cases h
      exact hX f g args σ v σ' hx hg
  | none =>
    rw [hx] at h
    simp only at h
    cases hb : bodyOf P f with
    | none => rw [hb] at h; cases h
    | some q =>
      obtain ⟨fn, c⟩ := q
      rw [hb] at h
      simp only at h
      obtain ⟨hf, hbody⟩ := body_some hb
      cases hl : Nat.ble args.length fn.ntmps with
      | false => rw [hl] at h; cases h
      | true =>
        rw [hl] at h
        simp only [cond_true] at h
        have key : ∀ (e : Xt) (E' : SE) (D' : List SD) (σ1 σ2 : St) (l : List SV), (e = .normal ∨ e = .ret) → rec (.code false fn.ntmps c (snumber 0 args) [] σ) = some (.code e E' D' σ1) → leaves dc D' σ1 = some σ2 → resL P E' σ2 fn.results.toList = some l → Ok P (.call f args σ) (.val (resV l) σ2) := by
          intro e E' D' σ1 σ2 l he h1 h2 h3
          have k1 := hrec _ _ h1
          refine ⟨⟨fn, hf, by rw [hbody]; rfl⟩, fun w0 F B w vs hs hd => ?_⟩
          refine callsIn_of_wp_marks hf hbody trivial ?_
          have hag : Ags fn.ntmps { tmps := vs.toArray ++ Array.replicate (fn.ntmps - vs.toArray.size) undef, defers := [] } (snumber 0 args) [] B := by
            refine ⟨⟨by simp only [Array.size_append, Array.size_replicate]; omega, fun i v hv => ?_⟩, rfl⟩
            obtain ⟨_, hv⟩ := look_snumber args 0 i v hv
            rw [Nat.sub_zero] at hv
            obtain ⟨x, hx, hdx⟩ := denL_get hd hv
            refine ⟨x, hdx, ?_⟩
            have hlt : i < vs.length := (List.getElem?_eq_some_iff.1 hx).1
            rw [Array.getElem?_append_left (by simpa using hlt)]
            simpa using hx
          refine wpIn_mono (k1 none w0 F B w _ rfl hs hag) ?_
          rintro e' a' w1 ⟨rfl, B1, hp1, hs1, ha1⟩
          have hlv : LeavesInM (Wz none) 0 P fn a'.tmps (fun e w' => ∃ x B', e = .returned x ∧ Gr σ.n σ2.n B B' ∧ den B' (resV l) = some x ∧ Sx w0 F B' σ2 w') a'.defers .returning w1 := by
            refine leaves_ok hng hdc D' h2 hs1 ha1.df fun w2 hs2 => ?_
            obtain ⟨x, hx, hr⟩ := res_ok (P := P) (a := a') hs2 ha1.tm h3
            exact ⟨x, hr, x, B1, rfl, by rw [leaves_n h2]; exact hp1, hx, hs2⟩
          rcases he with rfl | rfl
          · exact hlv
          · exact hlv
        have key2 : ∀ (e : Xt) (E' : SE) (D' : List SD) (σ1 : St), (e = .normal ∨ e = .ret) → rec (.code false fn.ntmps c (snumber 0 args) [] σ) = some (.code e E' D' σ1) → resK P E' fn.results.toList (leaves dc D' σ1) = some r → Ok P (.call f args σ) r := by
          intro e E' D' σ1 he h1 h2
          cases h3 : leaves dc D' σ1 with
          | none => rw [h3] at h2; cases h2
          | some σ2 =>
            rw [h3] at h2
            simp only [resK] at h2
            cases h4 : resL P E' σ2 fn.results.toList with
            | none => rw [h4] at h2; cases h2
            | some l =>
              rw [h4] at h2
              cases h2
              exact key e E' D' σ1 σ2 l he h1 h3 h4
        unfold bodyK at h
        split at h
        · rename_i E' D' σ1 h1; exact key2 .normal E' D' σ1 (.inl rfl) h1 h
        · rename_i E' D' σ1 h1; exact key2 .ret E' D' σ1 (.inr rfl) h1 h
        · cases h
end
/-! ### The whole -/
noncomputable def step1 (P : Program) (X : Ext) (dc : FuncId → Bool) (draw : Rec → Bool → Draw) (rec : Rec) : Rec
  | .code ro n c E D σ => stepCode P rec (draw rec ro) ro n E D σ c
  | .call f args σ => stepCall P X dc rec f args σ
  | .round b args σ => stepRound rec b args σ
noncomputable def run (P : Program) (X : Ext) (dc : FuncId → Bool) (draw : Rec → Bool → Draw) (k : Nat) : Rec := Nat.rec (fun _ => none) (fun _ ih => step1 P X dc draw ih) k
theorem run_ok {P : Program} {X : Ext} {dc : FuncId → Bool} {draw : Rec → Bool → Draw} (hng : NoNG P) (hX : XOk P X) (hdc : DcOk P dc) (hdraw : ∀ rec, RecOk P rec → DrOk P (draw rec)) : ∀ k, RecOk P (run P X dc draw k)
  | 0 => fun t r h => by cases h
  | k + 1 => fun t r h => by
    have ih := run_ok hng hX hdc hdraw k
    cases t with
    | code ro n c E D σ => exact code_ok hng ih (hdraw _ ih) h
    | call f args σ => exact call_ok hng hX hdc ih h
    | round b args σ => exact round_ok ih h
end Go.Proofs.YtpofmnfkdkmieaaGreat.S
