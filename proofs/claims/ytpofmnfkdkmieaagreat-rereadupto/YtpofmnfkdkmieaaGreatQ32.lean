/- What is proved here: what is known of sendIfOut and hasRunOut. -/
import Derived.Test.YtpofmnfkdkmieaaGreatQ31
set_option linter.unusedVariables false
set_option linter.unusedSimpArgs false
namespace Go.Proofs.YtpofmnfkdkmieaaGreat.S
open Go Go.RowKit E

noncomputable def R0 (k : Nat) : Rec := run Tryz.prog (fun _ => none) (fun _ => false) (drawF Tryz.prog) k
theorem R0_ok (k : Nat) : RecOk Tryz.prog (R0 k) := run_ok noNG (none_ok _) (nodc_ok _) (fun _ h => draw_ok mixed noNG h) k
/-- What the two blocks hold. -/
theorem duo {w0 w : World} {F : List Nat} {B : Nm} {σ : St} (hs : Sx w0 F B σ w) {b c : Nat} {x y : Int} {cap k : Nat} {vs : List Value} (hb : σ.get b = some (.cells [.v (.int .i64 x), .v (.int .i64 y), .ch c])) (hc : σ.get c = some (.chan cap k)) (hd : denL B [.ptr b 0] = some vs) :
    ∃ p q buf s r, B b = some p ∧ B c = some q ∧ vs = [.pointer (some ⟨p.1, 0, none⟩)] ∧ w.heap[q.1]? = some (.chan cap buf false s r false) ∧ buf.size = k ∧ Sx w [p.1, q.1] (twoB p q) (two (.cells [.v (.int .i64 x), .v (.int .i64 y), .ch 1]) (.chan cap k)) w := by
  obtain ⟨v, us, hv, hus, rfl⟩ := denL_cons.1 hd
  cases hus
  obtain ⟨p, hp, rfl⟩ := den_ptr hv
  obtain ⟨p', hp', hbl, _⟩ := hs.own b _ hb
  rw [hp] at hp'; cases hp'
  obtain ⟨q, hq, hcl, _⟩ := hs.own c _ hc
  obtain ⟨buf, s, r, hob, hsz⟩ := hcl
  obtain ⟨us, t, hus, hobb⟩ := hbl
  have hbc : b ≠ c := fun e => by subst e; rw [hb] at hc; cases hc
  refine ⟨p, q, buf, s, r, hp, hq, rfl, hob, hsz, hs.two hb hc hbc hp hq ?_ ⟨buf, s, r, hob, hsz⟩⟩
  refine ⟨us, t, ?_, hobb⟩
  simp only [denL, den, hq, Option.map_some] at hus ⊢
  exact hus
theorem ags1 {n : Nat} {B : Nm} {p : Nat × Nat} (hn : 1 ≤ n) (hp : B 0 = some p) : Ags n { tmps := [Value.pointer (some ⟨p.1, 0, none⟩)].toArray ++ Array.replicate (n - [Value.pointer (some ⟨p.1, 0, none⟩)].toArray.size) undef, defers := [] } [(0, .ptr 0 0)] [] B := by
  refine ⟨⟨by simp only [Array.size_append, Array.size_replicate]; omega, fun i v hv => ?_⟩, rfl⟩
  rw [slook_cons] at hv
  cases h : Nat.beq i 0 with
  | false => rw [h] at hv; cases hv
  | true =>
    rw [h] at hv; cases hv
    have := Nat.eq_of_beq_eq_true h; subst this
    exact ⟨.pointer (some ⟨p.1, 0, none⟩), by simp only [den, hp, Option.map_some], by rw [Array.getElem?_append_left (by simp)]; rfl⟩
def Tells (E : SE) : SE → Prop
  | [] => True
  | p :: r => slook E p.1 = some p.2 ∧ Tells E r
theorem Tells.get {E : SE} : ∀ {E2 : SE}, Tells E E2 → ∀ i v, slook E2 i = some v → slook E i = some v
  | [], _, i, v, h => by cases h
  | (j, u) :: r, ht, i, v, h => by
    rw [slook_cons] at h
    cases hb : Nat.beq i j with
    | true => rw [hb] at h; cases h; have := Nat.eq_of_beq_eq_true hb; subst this; exact ht.1
    | false => rw [hb] at h; exact ht.2.get i v h
theorem Ags.tells {n : Nat} {a : Act} {E E2 : SE} {D : List SD} {B : Nm} (h : Ags n a E D B) (ht : Tells E E2) : Ags n a E2 D B := ⟨⟨h.tm.1, fun i v hv => h.tm.2 i v (ht.get i v hv)⟩, h.df⟩
theorem run_to {c : Code} {n : Nat} {E E2 : SE} {τ : St} {w0 w : World} {F : List Nat} {B : Nm} {a : Act} (hs : Sx w0 F B τ w) (ha : Ags n a E [] B) (k : Nat) (hn : nrm (R0 k (.code false n c E [] τ)) = true) (hd : dOf (R0 k (.code false n c E [] τ)) = []) (ht : Tells (eOf (R0 k (.code false n c E [] τ))) E2) :
    c.wpIn (Wz none) 0 Tryz.prog (fun e a' w' => e = .normal ∧ ∃ B', Gr τ.n (sOf (R0 k (.code false n c E [] τ))).n B B' ∧ Sx w0 F B' (sOf (R0 k (.code false n c E [] τ))) w' ∧ Ags n a' E2 [] B') a w := by
  have h := R0_ok k _ _ (nrm_ok hn)
  rw [hd] at h
  refine wpIn_mono (h none w0 F B w a rfl hs ha) ?_
  rintro e a' w' ⟨rfl, B', hg, hs', ha'⟩
  exact ⟨rfl, B', hg, hs', ha'.tells ht⟩
theorem run_rt {c : Code} {n : Nat} {E E2 : SE} {τ : St} {w0 w : World} {F : List Nat} {B : Nm} {a : Act} (hs : Sx w0 F B τ w) (ha : Ags n a E [] B) (k : Nat) (hn : rtd (R0 k (.code false n c E [] τ)) = true) (hd : dOf (R0 k (.code false n c E [] τ)) = []) (ht : Tells (eOf (R0 k (.code false n c E [] τ))) E2) :
    c.wpIn (Wz none) 0 Tryz.prog (fun e a' w' => e = .ret ∧ ∃ B', Gr τ.n (sOf (R0 k (.code false n c E [] τ))).n B B' ∧ Sx w0 F B' (sOf (R0 k (.code false n c E [] τ))) w' ∧ Ags n a' E2 [] B') a w := by
  have h := R0_ok k _ _ (rtd_ok hn)
  rw [hd] at h
  refine wpIn_mono (h none w0 F B w a rfl hs ha) ?_
  rintro e a' w' ⟨rfl, B', hg, hs', ha'⟩
  exact ⟨rfl, B', hg, hs', ha'.tells ht⟩
theorem nods {n : Nat} {a : Act} {E : SE} {B : Nm} (h : Ags n a E [] B) : a.defers = [] := by have := h.df; simp only [denDs, Option.some.injEq] at this; exact this.symm
/-- Back to all the places. -/
theorem back3 {w0 w w3 : World} {F : List Nat} {B B3 : Nm} {σ τ3 σ' : St} {p q : Nat × Nat} {b c : Nat} {u v : Value} {cap k k' : Nat} (hs : Sx w0 F B σ w) (hb : σ.get b = some (.cells [.v u, .v v, .ch c])) (hc : σ.get c = some (.chan cap k)) (hp : B b = some p) (hq : B c = some q)
    (hs3 : Sx w [p.1, q.1] B3 τ3 w3) (g0 : τ3.get 0 = some (.cells [.v u, .v v, .ch 1])) (g1 : τ3.get 1 = some (.chan cap k')) (b0 : B3 0 = some p) (b1 : B3 1 = some q) (hn : σ'.n = σ.n) (hg : ∀ i, σ'.get i = if i = c then some (.chan cap k') else σ.get i) : Sx w0 F B σ' w3 := by
  obtain ⟨p', hp', ⟨us, t, hus, hob⟩, _⟩ := hs3.own 0 _ g0
  rw [b0] at hp'; cases hp'
  obtain ⟨q', hq', hcl, _⟩ := hs3.own 1 _ g1
  rw [b1] at hq'; cases hq'
  obtain ⟨_, hp2, _, hpF⟩ := hs.own b _ hb
  rw [hp] at hp2; cases hp2
  obtain ⟨_, hq2, _, hqF⟩ := hs.own c _ hc
  rw [hq] at hq2; cases hq2
  have key : ∀ (k : Nat) (z : SB), σ'.get k = some z → ∃ z', σ.get k = some z' := by
    intro k z hk
    rw [hg] at hk
    by_cases e : k = c
    · subst e; exact ⟨_, hc⟩
    · rw [if_neg e] at hk; exact ⟨z, hk⟩
  refine ⟨hs.low.trans hs3.low (fun x hx => ?_), by rw [hn]; exact hs.bd, fun i hi => ?_, fun i sb hi => ?_, fun i j x1 y1 r s hi hj hr hs' e => ?_⟩
  · simp only [List.mem_cons, List.not_mem_nil, or_false] at hx
    rcases hx with rfl | rfl
    · exact hpF
    · exact hqF
  · rw [hn] at hi
    refine ⟨(hs.new i hi).1, ?_⟩
    rw [hg, if_neg (fun e => by have := hs.idx hc; omega)]
    exact (hs.new i hi).2
  · rw [hg] at hi
    by_cases e : i = c
    · subst e
      rw [if_pos rfl] at hi; cases hi
      exact ⟨q, hq, hcl, hqF⟩
    · rw [if_neg e] at hi
      by_cases e2 : i = b
      · subst e2
        rw [hb] at hi; cases hi
        refine ⟨p, hp, ⟨us, t, ?_, hob⟩, hpF⟩
        simp only [denL, den, b1, hq, Option.map_some] at hus ⊢
        exact hus
      · obtain ⟨r, hr, hk, hF'⟩ := hs.own i sb hi
        refine ⟨r, hr, ?_, hF'⟩
        rw [hs3.low.block r.1 (hs.lt hi hr) (fun hm => ?_)]
        · exact hk
        · simp only [List.mem_cons, List.not_mem_nil, or_false] at hm
          rcases hm with hm | hm
          · exact e2 (hs.apart i b _ _ r p hi hb hr hp hm)
          · exact e (hs.apart i c _ _ r q hi hc hr hq hm)
  · obtain ⟨z1, hz1⟩ := key i x1 hi
    obtain ⟨z2, hz2⟩ := key j y1 hj
    exact hs.apart i j z1 z2 r s hz1 hz2 hr hs' e
theorem set_same {σ : St} {c : Nat} {x : SB} (h : σ.get c = some x) (i : Nat) : σ.get i = if i = c then some x else σ.get i := by
  by_cases e : i = c
  · subst e; rw [if_pos rfl, h]
  · rw [if_neg e]
def isS : Option (SE × St) → Bool
  | some _ => true
  | none => false
def stE : Option (SE × St) → SE
  | some q => q.1
  | none => []
def stS : Option (SE × St) → St
  | some q => q.2
  | none => ⟨0, .nil⟩
theorem stp_ok {q : Option (SE × St)} (h : isS q = true) : q = some (stE q, stS q) := by
  cases q with
  | none => cases h
  | some q => rfl
section
variable {P : Program} {ops : Array Oper} {id n i m : Nat} {rest is : List Nat} {o : Oper} {a : Act} {w0 w : World} {F : List Nat} {B : Nm} {E : SE} {D : List SD} {τ : St} {Q : Exit → Act → World → Prop}
theorem region_send {ch x : Operand} {c cap k : Nat} (m : Nat) (hr : List.range ops.size = is ++ [m]) (hf : Fits ops is (ops.toList.take m)) (ho : ops[m]? = some o) (hg : o.guard = none) (hdst : o.dst = none) (hop : o.op = .send ch x)
    (hst : isS (stpL P n (ops.toList.take m) E τ) = true) (hch : sev (stE (stpL P n (ops.toList.take m) E τ)) ch = some (.ch c)) (hc : (stS (stpL P n (ops.toList.take m) E τ)).get c = some (.chan cap k)) (hk : k < cap) (hs : Sx w0 F B τ w) (ha : Ags n a E D B)
    (hQ : ∀ a' w' B', Gr τ.n (stS (stpL P n (ops.toList.take m) E τ)).n B B' → Sx w0 F B' ((stS (stpL P n (ops.toList.take m) E τ)).set c (some (.chan cap (k + 1)))) w' → Ags n a' (stE (stpL P n (ops.toList.take m) E τ)) D B' → Q .normal a' w') : (Code.region id ops false).wpIn (Wz none) 0 P Q a w := by
  obtain ⟨a2, w2, B2, ht2, hg2, hs2, ha2⟩ := to_acts (rest := [m]) _ is hf (stp_ok hst) hs ha
  obtain ⟨q, hq, ⟨buf, s, r, hob, hsz⟩, _⟩ := hs2.own c _ hc
  have hev := ha2.eval hch
  simp only [den, hq, Option.map_some, Option.some.injEq] at hev
  have hw : Region.wanted o (yielded ops a2.tmps) = true := by unfold Region.wanted; rw [hg]
  have h3 := to_send (P := P) (rest := []) ho hw hop hev.symm hob (by omega)
  rw [hdst] at h3
  refine region_to (by rw [hr]; exact ht2.trans h3) (hQ a2 _ B2 hg2 ?_ ha2)
  exact hs2.putObj hc hq _ _ ⟨_, _, _, rfl, by rw [Array.size_push, hsz]⟩
theorem region_select {ch : Operand} {c cap e d : Nat} {z : Value} (hr : List.range ops.size = 0 :: is) (hf : Fits ops is (ops.toList.drop 1)) (ho : ops[0]? = some o) (hg : o.guard = none) (hdst : o.dst = some d) (hd : Nat.blt d n = true) (hop : o.op = .select #[⟨ch, none, e⟩] false) (hz : tZero P e = some z)
    (hch : sev E ch = some (.ch c)) (hc : τ.get c = some (.chan cap 0))
    (hst : isS (stpL P n (ops.toList.drop 1) ((d, .tup [.v (goInt (-1)), .v (.bool false), .v z]) :: E) τ) = true) (hs : Sx w0 F B τ w) (ha : Ags n a E D B)
    (hQ : ∀ a' w' B', Gr τ.n (stS (stpL P n (ops.toList.drop 1) ((d, .tup [.v (goInt (-1)), .v (.bool false), .v z]) :: E) τ)).n B B' → Sx w0 F B' (stS (stpL P n (ops.toList.drop 1) ((d, .tup [.v (goInt (-1)), .v (.bool false), .v z]) :: E) τ)) w' → Ags n a' (stE (stpL P n (ops.toList.drop 1) ((d, .tup [.v (goInt (-1)), .v (.bool false), .v z]) :: E) τ)) D B' → Q .normal a' w') : (Code.region id ops false).wpIn (Wz none) 0 P Q a w := by
  obtain ⟨q, hq, ⟨buf, s, r, hob, hsz⟩, _⟩ := hs.own c _ hc
  have hbuf : buf = #[] := Array.eq_empty_of_size_eq_zero hsz
  subst hbuf
  have hev := ha.eval hch
  simp only [den, hq, Option.map_some, Option.some.injEq] at hev
  have hw : Region.wanted o (yielded ops a.tmps) = true := by unfold Region.wanted; rw [hg]
  have h3 := to_select (P := P) (rest := is) ho hw hop hz hev.symm hob
  rw [hdst] at h3
  obtain ⟨a2, w2, B2, ht2, hg2, hs2, ha2⟩ := to_acts (rest := []) _ is hf (stp_ok hst) hs (ha.put hd (v := .tup [.v (goInt (-1)), .v (.bool false), .v z]) (x := .tuple #[goInt (-1), .bool false, z]) rfl)
  rw [List.append_nil] at ht2
  exact region_to (by rw [hr]; exact h3.trans ht2) (hQ a2 w2 B2 hg2 hs2 ha2)
end
section
set_option maxRecDepth 10000
theorem send_ok {args : List SV} {σ σ' : St} {v : SV} (h : xSend args σ = some (v, σ')) : Ok Tryz.prog (.call 236 args σ) (.val v σ') := by
  unfold xSend at h
  split at h
  · rename_i b
    split at h
    · rename_i x y c hb
      split at h
      · rename_i cap k hc
        refine ⟨⟨_, Tryz.func236, by kernel_rfl⟩, fun w0 F B w vs hs hd => ?_⟩
        obtain ⟨p, q, buf, s, r, hp, hq, rfl, hob, hsz, hs2⟩ := duo hs hb hc hd
        refine callsIn_of_wp_marks Tryz.func236 rfl trivial ?_
        have hag := ags1 (n := 16) (B := twoB p q) (p := p) (by omega) rfl
        rw [Tryz.ntmps236]
        refine wpIn_seq ?_
        refine wpIn_mono (run_to (E2 := [(0, .ptr 0 0), (10, .v (.bool (ieq y x)))]) hs2 hag 20 (by kernel_rfl) (by kernel_rfl) ⟨by kernel_rfl, by kernel_rfl, trivial⟩) ?_
        rintro e a1 w1 ⟨rfl, B1, hg1, hs1, ha1⟩
        show Code.wpIn _ _ _ _ _ _ _
        have hev := (den_v (ha1.eval (x := .tmp 10) rfl))
        refine wpIn_cond_split hev (fun ht => ?_) (fun ht => ?_)
        · rw [ht] at h
          simp only [cond_true] at h
          cases hk : Nat.blt k cap with
          | false => rw [hk] at h; cases h
          | true =>
            rw [hk] at h
            cases h
            refine region_send (is := [0, 1, 2, 3, 4]) (c := 1) (cap := cap) (k := k) 5 rfl ⟨⟨rfl, rfl⟩, ⟨rfl, rfl⟩, ⟨rfl, rfl⟩, ⟨rfl, rfl⟩, ⟨rfl, rfl⟩, trivial⟩ rfl rfl rfl rfl (by kernel_rfl) (by kernel_rfl) (by kernel_rfl) (by simpa using hk) hs1 ha1 ?_
            intro a2 w2 B2 hg2 hs3 ha2
            show LeavesInM _ _ _ _ _ _ _ _ _
            have hb0 : B2 0 = some p := (hg1.trans hg2).2.2 0 (by show 0 < 2; omega)
            have hb1 : B2 1 = some q := (hg1.trans hg2).2.2 1 (by show 1 < 2; omega)
            exact out0 (hdc := nodc_ok _) noNG (back3 hs hb hc hp hq hs3 (by kernel_rfl) (by kernel_rfl) hb0 hb1 rfl (fun i => σ.get_set (hs.idl hc) i _)) (nods ha2) (x := .tuple #[]) rfl rfl (fun w' => by kernel_rfl)
        · rw [ht] at h
          cases h
          refine wpIn_skip ?_
          show LeavesInM _ _ _ _ _ _ _ _ _
          have hb0 : B1 0 = some p := hg1.2.2 0 (by show 0 < 2; omega)
          have hb1 : B1 1 = some q := hg1.2.2 1 (by show 1 < 2; omega)
          exact out0 (hdc := nodc_ok _) noNG (back3 hs hb hc hp hq hs1 (by kernel_rfl) (by kernel_rfl) hb0 hb1 rfl (set_same hc)) (nods ha1) (x := .tuple #[]) rfl rfl (fun w' => by kernel_rfl)
      · cases h
    · cases h
  · cases h
end
end Go.Proofs.YtpofmnfkdkmieaaGreat.S
namespace Go.Proofs.YtpofmnfkdkmieaaGreat.S
open Go Go.RowKit E

section
set_option maxRecDepth 10000
theorem out_ok {args : List SV} {σ σ' : St} {v : SV} (h : xOut args σ = some (v, σ')) : Ok Tryz.prog (.call 352 args σ) (.val v σ') := by
  unfold xOut at h
  split at h
  · rename_i b
    split at h
    · rename_i x y c hb
      split at h
      · rename_i cap hc
        cases h
        refine ⟨⟨_, Tryz.func352, by kernel_rfl⟩, fun w0 F B w vs hs hd => ?_⟩
        obtain ⟨p, q, buf, s, r, hp, hq, rfl, hob, hsz, hs2⟩ := duo hs hb hc hd
        refine callsIn_of_wp_marks Tryz.func352 rfl trivial ?_
        have hag := ags1 (n := 10) (B := twoB p q) (p := p) (by omega) rfl
        rw [Tryz.ntmps352]
        refine wpIn_seq ?_
        refine wpIn_mono (run_to (E2 := [(0, .ptr 0 0)]) hs2 hag 20 (by kernel_rfl) (by kernel_rfl) ⟨by kernel_rfl, trivial⟩) ?_
        rintro e a1 w1 ⟨rfl, B1, hg1, hs1, ha1⟩
        show Code.wpIn _ _ _ _ _ _ _
        refine wpIn_seq ?_
        refine wpIn_mono (run_to (E2 := [(6, .ch 1)]) hs1 ha1 20 (by kernel_rfl) (by kernel_rfl) ⟨by kernel_rfl, trivial⟩) ?_
        rintro e a2 w2 ⟨rfl, B2, hg2, hs3, ha2⟩
        show Code.wpIn _ _ _ _ _ _ _
        refine wpIn_seq ?_
        refine region_select (is := [1, 2]) (c := 1) (cap := cap) (d := 7) rfl ⟨⟨rfl, rfl⟩, ⟨rfl, rfl⟩, trivial⟩ rfl rfl rfl rfl rfl (z := .agg #[]) (by kernel_rfl) rfl (by kernel_rfl) (by kernel_rfl) hs3 ha2 ?_
        intro a3 w3 B3 hg3 hs4 ha3
        show Code.wpIn _ _ _ _ _ _ _
        refine wpIn_mono (run_rt (E2 := [(2, .v (.bool false))]) hs4 ha3 20 (by kernel_rfl) (by kernel_rfl) ⟨by kernel_rfl, trivial⟩) ?_
        rintro e a4 w4 ⟨rfl, B4, hg4, hs5, ha4⟩
        show LeavesInM _ _ _ _ _ _ _ _ _
        have hg := (hg1.trans hg2).trans (hg3.trans hg4)
        have hb0 : B4 0 = some p := hg.2.2 0 (by show 0 < 2; omega)
        have hb1 : B4 1 = some q := hg.2.2 1 (by show 1 < 2; omega)
        have hs6 : Sx w0 F B σ w4 := back3 hs hb hc hp hq hs5 (by kernel_rfl) (by kernel_rfl) hb0 hb1 rfl (set_same hc)
        refine leaves_ok noNG (nodc_ok _) [] (σ' := σ) rfl hs6 (by rw [nods ha4]; rfl) fun w5 hs7 => ?_
        obtain ⟨x, hx, hr⟩ := res_ok (P := Tryz.prog) (fn := Tryz.f352) (l := [.v (.bool false)]) (n := 10) (E := [(2, .v (.bool false))]) (a := a4) hs7 ⟨ha4.tm.1, fun i v hv => by
          obtain ⟨x, hx, ht⟩ := ha4.tm.2 i v hv
          rw [slook_cons] at hv
          cases hbq : Nat.beq i 2 with
          | false => rw [hbq] at hv; cases hv
          | true => rw [hbq] at hv; cases hv; exact ⟨x, hx, ht⟩⟩ (by kernel_rfl)
        exact ⟨x, hr, x, B, rfl, Gr.refl _ _, hx, hs7⟩
      · cases h
    · cases h
  · cases h
end
theorem X0_ok : XOk Tryz.prog X0 := by
  intro f g args σ v σ' hf hg
  unfold X0 at hf
  cases h1 : Nat.beq f 131 with
  | true => rw [h1] at hf; cases hf; have := Nat.eq_of_beq_eq_true h1; subst this; exact clone_ok hg
  | false =>
    rw [h1] at hf
    cases h2 : Nat.beq f 236 with
    | true => rw [h2] at hf; cases hf; have := Nat.eq_of_beq_eq_true h2; subst this; exact send_ok hg
    | false =>
      rw [h2] at hf
      cases h3 : Nat.beq f 352 with
      | true => rw [h3] at hf; cases hf; have := Nat.eq_of_beq_eq_true h3; subst this; exact out_ok hg
      | false => rw [h3] at hf; cases hf
noncomputable def R1 (k : Nat) : Rec := run Tryz.prog X0 dc0 (drawF Tryz.prog) k
theorem R1_ok (k : Nat) : RecOk Tryz.prog (R1 k) := run_ok noNG X0_ok dc0_ok (fun _ h => draw_ok mixed noNG h) k
end Go.Proofs.YtpofmnfkdkmieaaGreat.S
