/- What is proved here: a region that draws its order does what was reckoned, whatever order is drawn. Nothing of one program. -/
import Derived.Test.YtpofmnfkdkmieaaGreatQ30
import Derived.Conc.LoneCalls
import Derived.Test.YtpofmnfkdkmieaaGreatQ18
import Derived.Recover
import Derived.Test.YtpofmnfkdkmieaaGreatQ10
set_option linter.unusedVariables false
set_option linter.unusedSimpArgs false
namespace Go.Proofs.YtpofmnfkdkmieaaGreat.S
open Go Go.RowKit E

theorem draw_ok {P : Program} (hm : P.follows .mixedOrders = true) (hng : NoNG P) {rec : Rec} (hrec : RecOk P rec) : DrOk P (drawF P rec) := by
  intro ro n id ops E D σ E' D' σ' h
  unfold drawF at h
  cases hb : Nat.blt (σ.n + ops.size) 15999 with
  | false => rw [hb] at h; cases h
  | true =>
    rw [hb] at h
    simp only [cond_true, drawM] at h
    have hroom : σ.n + ops.size < 15999 := by simpa using hb
    generalize hms : ancs ops.toList [] = ms at h
    generalize hL : ops.toList = L at h hms
    have hLn : L.length = ops.size := by rw [← hL]; simp
    generalize hC0 : σ.ext ops.size = C0 at h
    have hC0n : C0.n = σ.n + L.length := by rw [← hC0, hLn]; rfl
    cases hp : p1 P rec n ops ms C0 σ.n L 0 E [] with
    | none => rw [hp] at h; cases h
    | some q =>
      obtain ⟨rs, E1⟩ := q
      rw [hp] at h
      simp only [drawK] at h
      cases hck : ckAll ms L rs with
      | false => rw [hck] at h; cases h
      | true =>
        rw [hck] at h
        simp only [cond_true] at h
        cases h
        unfold ckAll at hck
        simp only [Bool.and_eq_true] at hck
        obtain ⟨⟨⟨⟨⟨cDst, cEnv⟩, cEdge⟩, cChain⟩, cSlot⟩, cRead⟩ := hck
        obtain ⟨suf, env, hrs, hlen, he0, heN, hrow'⟩ := p1_spec L 0 E [] hp
        simp only [List.nil_append, Nat.zero_add] at hrs hrow'
        subst hrs
        -- the rows
        have hrow : ∀ i o, L[i]? = some o → ∃ rc, rs[i]? = some rc ∧ rowK P rec ops ms C0 (σ.n + i) i o (env i) (rs.take i) = some rc ∧ putD n (env i) o.dst rc.v = some (env (i + 1)) := hrow'
        have hop : ∀ i rc, rs[i]? = some rc → ∃ o, L[i]? = some o ∧ rowK P rec ops ms C0 (σ.n + i) i o (env i) (rs.take i) = some rc := fun i rc hi => by
          have hlt : i < L.length := by rw [← hlen]; exact (List.getElem?_eq_some_iff.1 hi).1
          obtain ⟨rc', h1, h2, _⟩ := hrow i L[i] (List.getElem?_eq_getElem hlt)
          rw [hi] at h1; cases h1
          exact ⟨_, List.getElem?_eq_getElem hlt, h2⟩
        have hedge : ∀ i o e, L[i]? = some o → e ∈ o.after.toList → Region.binds .any e = true → e.on < i := fun i o e hi he hbi => by
          have h1 := (List.all_eq_true.1 (allI0 cEdge hi)) e he
          rw [hbi] at h1
          simpa using h1
        have hlt := mask_lt hedge
        have htr := mask_tr hedge
        rw [hms] at hlt htr
        have hal : ∀ j q sb, kdOf rs j = .al q sb → q = σ.n + j ∧ q < lim := fun j q sb hj => by
          obtain ⟨rc, h1, h2⟩ := kd_of (rs := rs) (i := j) (by rw [hj]; simp)
          obtain ⟨o, h3, h4⟩ := hop j rc h1
          have hq := (row_al h4 (by rw [← h2]; exact hj)).1
          have : j < L.length := (List.getElem?_eq_some_iff.1 h3).1
          exact ⟨hq, by unfold lim; omega⟩
        -- what is checked
        have cCh : ∀ i j p q p' q', kdOf rs i = .ef p q → kdOf rs j = .ef p' q' → j < i → btOf ms i j = true := fun i j p q p' q' hi hj hji => by
          obtain ⟨ri, h1, h2⟩ := kd_of (rs := rs) (i := i) (by rw [hi]; simp)
          obtain ⟨rj, k1, k2⟩ := kd_of (rs := rs) (i := j) (by rw [hj]; simp)
          have c1 := allI0 cChain h1
          rw [show ri.k = .ef p q by rw [← h2]; exact hi] at c1
          simp only at c1
          have c2 := allI0 c1 k1
          rw [show rj.k = .ef p' q' by rw [← k2]; exact hj] at c2
          simp only [Bool.or_eq_true, Bool.not_eq_true'] at c2
          rcases c2 with c2 | c2
          · rw [show Nat.blt j i = true by simpa using hji] at c2; cases c2
          · exact c2
        have cSl : ∀ i p q k r sb, kdOf rs i = .ef p q → kdOf rs k = .al r sb → btOf ms i k = false → q.get r = none := fun i p q k r sb hi hk hbt => by
          obtain ⟨ri, h1, h2⟩ := kd_of (rs := rs) (i := i) (by rw [hi]; simp)
          obtain ⟨rk, k1, k2⟩ := kd_of (rs := rs) (i := k) (by rw [hk]; simp)
          have c1 := allI0 cSlot h1
          rw [show ri.k = .ef p q by rw [← h2]; exact hi] at c1
          simp only at c1
          have c2 := allI0 c1 k1
          rw [show rk.k = .al r sb by rw [← k2]; exact hk] at c2
          simp only [Bool.or_eq_true] at c2
          rcases c2 with c2 | c2
          · rw [show Nat.testBit (msk ms i) k = false from hbt] at c2; cases c2
          · cases hg : q.get r with
            | none => rfl
            | some _ => rw [hg] at c2; cases c2
        have cR1 : ∀ i b sb e p q, kdOf rs i = .rd b sb → kdOf rs e = .ef p q → btOf ms i e = false → btOf ms e i = false → p.get b = q.get b := fun i b sb e p q hi he h1' h2' => by
          obtain ⟨ri, h1, h2⟩ := kd_of (rs := rs) (i := i) (by rw [hi]; simp)
          obtain ⟨rk, k1, k2⟩ := kd_of (rs := rs) (i := e) (by rw [he]; simp)
          have c1 := allI0 cRead h1
          rw [show ri.k = .rd b sb by rw [← h2]; exact hi] at c1
          simp only at c1
          have c2 := allI0 c1 k1
          rw [show rk.k = .ef p q by rw [← k2]; exact he] at c2
          simp only [Bool.or_eq_true] at c2
          rcases c2 with (c2 | c2) | c2
          · rw [show Nat.testBit (msk ms i) e = false from h1'] at c2; cases c2
          · rw [show Nat.testBit (msk ms e) i = false from h2'] at c2; cases c2
          · exact sbEq_ok c2
        have cR2 : ∀ i b sb k sb', kdOf rs i = .rd b sb → kdOf rs k = .al b sb' → btOf ms i k = true := fun i b sb k sb' hi hk => by
          obtain ⟨ri, h1, h2⟩ := kd_of (rs := rs) (i := i) (by rw [hi]; simp)
          obtain ⟨rk, k1, k2⟩ := kd_of (rs := rs) (i := k) (by rw [hk]; simp)
          have c1 := allI0 cRead h1
          rw [show ri.k = .rd b sb by rw [← h2]; exact hi] at c1
          simp only at c1
          have c2 := allI0 c1 k1
          rw [show rk.k = .al b sb' by rw [← k2]; exact hk] at c2
          simp only [Bool.or_eq_true, Nat.beq_refl, Bool.not_true, Bool.false_eq_true, false_or] at c2
          exact c2
        have hex : ∀ s, ∃ τ, IsH (kdOf rs) (btOf ms) C0 s τ := fun s => ⟨_, heap_isH (ms := ms) (C0 := C0) (s := s) hal⟩
        have hanc : ∀ i, IsH (kdOf rs) (btOf ms) C0 (btOf ms i) (heapOf (Nat.testBit (msk ms i)) ms (rs.take i) C0) := fun i => by
          refine isH_congr (kd := kdOf (rs.take i)) (fun k hk => kd_take (hlt i k hk)) ?_
          exact heap_isH (N := σ.n) (fun j q sb hj => by
            have hji : j < i := by
              rcases Nat.lt_or_ge j i with hh | hh
              · exact hh
              · have : (rs.take i)[j]? = none := by rw [List.getElem?_eq_none]; rw [List.length_take]; omega
                unfold kdOf at hj; rw [this] at hj; cases hj
            rw [kd_take hji] at hj
            exact hal j q sb hj)
        have hpre : ∀ e p q, kdOf rs e = .ef p q → IsH (kdOf rs) (btOf ms) C0 (btOf ms e) p := fun e p q he => by
          obtain ⟨rc, h1, h2⟩ := kd_of (rs := rs) (i := e) (by rw [he]; simp)
          obtain ⟨o, h3, h4⟩ := hop e rc h1
          have hpe := (row_ef (p := p) (q := q) h4 (by rw [← h2]; exact he)).2.2.1
          rw [hpe]
          exact hanc e
        have hdst : ∀ (i j : Nat) (o q : Oper) (d : Nat), L[i]? = some o → L[j]? = some q → j ≠ i → o.dst = some d → q.dst ≠ some d := fun i j o q d hi hj hji hd hq => by
          have c1 := allI0 cDst hi
          rw [hd] at c1
          simp only at c1
          have c2 := allI0 c1 hj
          rw [hq] at c2
          simp only [Nat.beq_refl, Bool.not_true, Bool.or_false] at c2
          exact hji (Nat.eq_of_beq_eq_true c2).symm
        have hdn : ∀ (i : Nat) (o : Oper) (d : Nat), L[i]? = some o → o.dst = some d → d < n := fun i o d hi hd => by
          obtain ⟨rc, _, _, h3⟩ := hrow i o hi
          rw [hd] at h3
          simp only [putD] at h3
          cases hbd : Nat.blt d n with
          | false => rw [hbd] at h3; cases h3
          | true => simpa using hbd
        have hput : ∀ j o, L[j]? = some o → ∃ rc, rs[j]? = some rc ∧ putD n (env j) o.dst rc.v = some (env (j + 1)) := fun j o hj => by
          obtain ⟨rc, h1, _, h3⟩ := hrow j o hj
          exact ⟨rc, h1, h3⟩
        -- the walk
        intro l w0 F B w a hl hs ha
        have R : Rg (kdOf rs) (btOf ms) C0 σ.n := ⟨htr, hlt, cCh, cSl, cR1, cR2, fun k r sb hk => (hal k r sb hk).1, fun k => by rw [← hC0]; exact (hs.new (σ.n + k) (by omega)).2⟩
        refine wpIn_region_any hm ?_
        refine any_in (I := fun l a w => ∃ B1 τ, InvD rs L ms C0 σ.n w0 F n E D B l a w B1 τ) ?_ ?_ ?_ ?_ _ _ _ _ ?_ ?_
        · rintro l a w ⟨B1, τ, hI⟩
          rw [hI.sz, hLn]
        · intro i o e hi he hbi
          exact hedge i o e (by rw [← hL]; simpa using hi) (by simpa using he) hbi
        · -- one operation
          rintro ls a w i ⟨B1, τ, hI⟩ hi
          obtain ⟨hil, o, ho, hafter⟩ := mem_ready.1 hi
          have hLi : L[i]? = some o := by rw [← hL]; simpa using ho
          have hsi : lst ls i = false := by
            have hlt' : i < ls.size := by rw [hI.sz]; exact (List.getElem?_eq_some_iff.1 hLi).1
            show ls.getD i false = false
            simpa [Array.getD, hlt'] using hil
          have hA : ∀ k, btOf ms i k = true → lst ls k = true := fun k hk => by
            rw [← hms] at hk
            obtain ⟨o', e, h1, h2, h3, h4⟩ := (masks hedge i k).1 hk
            rw [hLi] at h1; cases h1
            have hon : lst ls e.on = true := hafter e (by simpa using h2) h3
            rcases h4 with rfl | h4
            · exact hon
            · exact hI.cl e.on k hon (by rw [← hms]; exact h4)
          obtain ⟨rc, hrc, hk, _⟩ := hrow i o hLi
          have hkd := kd_some hrc
          -- the slots that it reads
          have hags : Ags n a (erOf ops (env i) o) D B1 := by
            refine ⟨⟨hI.tmn, fun t v hv => ?_⟩, hI.df⟩
            have hmem := slook_mem hv
            have hEr : rc.Er = erOf ops (env i) o := by
              cases hkk : rc.k with
              | no => exact (row_no hk hkk).1
              | rd b sb => exact (row_rd hk hkk).1
              | al r sb => exact (row_al hk hkk).2.2.1
              | ef p q => exact (row_ef hk hkk).1
            have hread : ∀ j q, L[j]? = some q → q.dst = some t → btOf ms i j = true := fun j q hj hd => by
              have c1 := allI0 cEnv hrc
              rw [hEr] at c1
              have c2 := (List.all_eq_true.1 c1) _ hmem
              have c3 := allI0 c2 hj
              rw [hd] at c3
              simp only [Nat.beq_refl, Bool.not_true, Bool.false_or] at c3
              exact c3
            rcases env_look hput i (by have := (List.getElem?_eq_some_iff.1 hLi).1; omega) (restr_look hv) with ⟨k, ok, rk, hki, h1, h2, h3, rfl⟩ | ⟨hnone, h0⟩
            · exact hI.done k ok t rk h1 h2 (hA k (hread k ok h1 h3)) h3
            · rw [he0] at h0
              refine hI.old t v h0 fun j q hj hd => ?_
              have hji := hlt i j (hread j q hj hd)
              exact absurd hd (hnone j q hji hj)
          have hstep := fun (B2 : Nm) (τ' : St) (x : Value) (w' : World) => hI.step (B2 := B2) (τ' := τ') (x := x) (w' := w') hLi hrc hA (fun j q d hj hji hd => hdst i j o q d hLi hj hji hd) (fun d hd => hdn i o d hLi hd)
          have hrlt : σ.n + i < τ.n := by have := hI.room; have := (List.getElem?_eq_some_iff.1 hLi).1; omega
          have hfree : B1 (σ.n + i) = none := hI.free i (List.getElem?_eq_some_iff.1 hLi).1 hsi
          have hil' : i < L.length := (List.getElem?_eq_some_iff.1 hLi).1
          unfold wpOpIn
          rw [ho]
          simp only
          cases hkk : rc.k with
          | no =>
            have hidle : IsH (kdOf rs) (btOf ms) C0 (plus (lst ls) i) τ := h_idle (fun p q => by rw [hkd, hkk]; simp) (fun r sb => by rw [hkd, hkk]; simp) hI.is
            rcases (row_no hk hkk).2 with ⟨hw, hv⟩ | ⟨hw, hno⟩
            · rw [wants_ok hags hw]
              simp only [Bool.false_eq_true, if_false]
              refine ⟨fun _ _ => trivial, B1, τ, ?_⟩
              exact hstep B1 τ undef w (by rw [hv]; rfl) hidle hI.sx (Pre.refl _) (fun _ _ => rfl) (Nat.le_refl _) (fun _ _ _ h => h)
            · rw [wants_ok hags hw]
              simp only [if_true]
              refine no_ok hI.sx.bare hags hno fun x w1 hd hbel => ?_
              exact ⟨B1, τ, hstep B1 τ x w1 hd hidle (hI.sx.keep hbel) (Pre.refl _) (fun _ _ => rfl) (Nat.le_refl _) (fun _ _ _ h => h)⟩
          | rd b sb =>
            have hidle : IsH (kdOf rs) (btOf ms) C0 (plus (lst ls) i) τ := h_idle (fun p q => by rw [hkd, hkk]; simp) (fun r sb => by rw [hkd, hkk]; simp) hI.is
            obtain ⟨_, hw, hkind, hget, hno⟩ := row_rd hk hkk
            rw [wants_ok hags hw]
            simp only [if_true]
            have hτb : τ.get b = some sb := rd_any R hex hpre (m := L.length) (by rw [hkd]; exact hkk) (hanc i) hget (fun u p q hu => by
              obtain ⟨rc', h1, _⟩ := kd_of (rs := rs) (i := u) (by rw [hu]; simp)
              rw [← hlen]; exact (List.getElem?_eq_some_iff.1 h1).1) hI.is hI.cl hsi hA
            have hbl : b < lim := hI.sx.idl hτb
            have hsmall : Sx w0 F B1 (bare.set b (some sb)) w := hI.sx.sub (fun c x hc => by
                rw [St.get_set _ hbl] at hc
                by_cases e : c = b
                · subst e; rw [if_pos rfl] at hc; cases hc; exact hτb
                · rw [if_neg e, bare_get] at hc; cases hc) hI.sx.bd (Nat.le_refl _) (fun c hc => by
                rw [St.get_set _ hbl, if_neg (by have : lim ≤ c := hc; omega)]; rfl)
            refine rd_ok hkind hsmall hags hno fun x hd => ?_
            exact ⟨B1, τ, hstep B1 τ x w hd hidle hI.sx (Pre.refl _) (fun _ _ => rfl) (Nat.le_refl _) (fun _ _ _ h => h)⟩
          | al r sb =>
            obtain ⟨hr, _, _, hw, hal'⟩ := row_al hk hkk
            subst hr
            rw [wants_ok hags hw]
            simp only [if_true]
            refine al_ok hI.sx.bare hags hfree hal' fun x w1 p hd hbel hblk hnew => ?_
            have hsx1 := hI.sx.keep hbel
            have his := h_alloc R (by rw [hkd]; exact hkk) hI.cl hsi (by unfold lim; omega) hI.is
            have hlay := hsx1.lay (p := p) (sb := sb) hrlt hfree hblk (.inr (Nat.le_trans hI.sx.low.size hnew)) (fun j y q hj hq e => by have := hI.sx.lt hj hq; omega)
            refine ⟨upd B1 (σ.n + i) p, τ.set (σ.n + i) (some sb), hstep _ _ x w1 hd his hlay (Pre.upd hfree p) (fun k hk => by unfold upd; rw [if_neg (by omega)]) (Nat.le_refl _) (fun k hk hki hf => by unfold upd; rw [if_neg (by omega)]; exact hf)⟩
          | ef p q =>
            obtain ⟨_, hw, hpe, hop'⟩ := row_ef hk hkk
            rw [wants_ok hags hw]
            simp only [if_true]
            have hke : kdOf rs i = .ef p q := by rw [hkd]; exact hkk
            obtain ⟨hsub, hpn⟩ := ef_pre R hke (hpre i p q hke) hI.is hI.cl hsi hA
            obtain ⟨τ', hτ'⟩ := hex (plus (lst ls) i)
            obtain ⟨hn', hget'⟩ := ef_post R hke (hpre i p q hke) hI.is hτ' hI.cl hsi hA
            have hpart := hI.sx.part hsub hpn
            refine ef_ok hng hrec hpart hags hfree (by rw [hpn]; exact hrlt) hop' fun x w1 B2 hpr hnn hB2 hd hs2 => ?_
            have hwh := hI.sx.whole hsub hpn hpr hs2 hn' hget'
            refine ⟨B2, τ', hstep _ _ x w1 hd hτ' hwh hpr (fun k hk => hB2 k (by rw [hpn]; have := hI.room; omega) (by omega)) (by rw [hn', ← hpn]; exact hnn) (fun k hk hki hf => by rw [hB2 _ (by rw [hpn]; have := hI.room; omega) (by omega)]; exact hf)⟩
        · -- all are done
          rintro ls a w ⟨B1, τ, hI⟩ hall
          have hallL : ∀ k, kdOf rs k ≠ .no → lst ls k = true := fun k hk => by
            obtain ⟨rc, h1, _⟩ := kd_of hk
            exact hall k (by rw [← hLn, ← hlen]; exact (List.getElem?_eq_some_iff.1 h1).1)
          obtain ⟨hn, hget⟩ := isH_same (s := lst ls) (s' := fun _ => true) (fun k hk => hallL k hk) hI.is (heap_isH (ms := ms) (C0 := C0) hal)
          refine ⟨rfl, B1, ⟨hI.pre, ?_, hI.low⟩, hI.sx.sub hget (by rw [hn]; exact Nat.le_refl _) (by rw [hn]; exact hI.sx.bd) (fun i hi => ?_), ⟨hI.tmn, fun t v hv => ?_⟩, hI.df⟩
          · rw [hn]; have := hI.room; omega
          · cases hg : (heapOf (fun _ => true) ms rs C0).get i with
            | none => rfl
            | some x =>
              have := hI.sx.idx (hget i x hg)
              rw [hn] at hi; omega
          · rw [← heN] at hv
            rcases env_look hput L.length (Nat.le_refl _) hv with ⟨k, ok, rk, hki, h1, h2, h3, rfl⟩ | ⟨hnone, h0⟩
            · exact hI.done k ok t rk h1 h2 (hall k (by rw [← hLn]; exact hki)) h3
            · rw [he0] at h0
              exact hI.old t v h0 fun j q hj hd => absurd hd (hnone j q (List.getElem?_eq_some_iff.1 hj).1 hj)
        · -- at first
          have hz : lst (Array.replicate ops.size false) = fun _ => false := by
            funext k
            show (Array.replicate ops.size false).getD k false = false
            rw [Array.getD_eq_getD_getElem?, Array.getElem?_replicate]
            split <;> rfl
          refine ⟨B, C0, ⟨by rw [Array.size_replicate, hLn], (fun u k hu => by rw [hz] at hu; cases hu), ?_, ?_, Pre.refl B, fun _ _ => rfl, by rw [hC0n]; exact Nat.le_refl _, fun k hk _ => (hs.new _ (by omega)).1, ha.df, ha.tm.1, (fun i o d rc _ _ hh => by rw [hz] at hh; cases hh), fun t v ht _ => ha.tm.2 t v ht⟩⟩
          · rw [hz]
            refine ⟨C0, .inr ⟨fun _ _ _ _ => rfl, rfl⟩, rfl, fun b x => ?_⟩
            unfold GetH
            constructor
            · exact fun hx => .inr ⟨(fun k sb hk hh => by cases hh), hx⟩
            · rintro (⟨k, _, hh, _⟩ | ⟨_, hx⟩)
              · cases hh
              · exact hx
          · rw [← hC0]
            exact (hs.drawn _).ext ops.size (by unfold lim; omega)
        · simp [List.count_replicate]
end Go.Proofs.YtpofmnfkdkmieaaGreat.S
namespace Go.Proofs.YtpofmnfkdkmieaaGreat.S
open Go Go.RowKit E

def OpsTo (P : Program) (ops : Array Oper) (l : List Nat) (a : Act) (w : World) (l' : List Nat) (a' : Act) (w' : World) : Prop := ∀ (b : Frame) (k : List Item) (cs : List Frame), b.roundOf = none →
  StepsIn (Machine.fenced P (Wz none)) P (lone (b.atR a (.inRegion ops l :: k)) cs w) (lone (b.atR a' (.inRegion ops l' :: k)) cs w')
theorem fw (P : Program) (M : Machine) : M.fenced P (Wz none) := fenced_wide P M
section
variable {P : Program} {ops : Array Oper} {i : Nat} {rest : List Nat} {o : Oper} {a : Act} {w w' : World}
theorem OpsTo.refl (l : List Nat) : OpsTo P ops l a w l a w := fun _ _ _ _ => .refl _
theorem OpsTo.trans {l l1 l2 : List Nat} {a1 a2 : Act} {w1 w2 : World} (h : OpsTo P ops l a w l1 a1 w1) (h' : OpsTo P ops l1 a1 w1 l2 a2 w2) : OpsTo P ops l a w l2 a2 w2 := fun b k cs hb => (h b k cs hb).trans (h' b k cs hb)
theorem to_val {v : Value} (ho : ops[i]? = some o) (hw : Region.wanted o (yielded ops a.tmps) = true) (hr : (execOp a.eval o).run P w = .ok (.value v) w') : OpsTo P ops (i :: rest) a w rest (a.put o.dst v) w' := by
  intro b k cs hro
  have hg := stepGR_op (P := P) (b := b) (k := k) (cs := cs) (w := w) (rest := rest) ho hw
  rw [hro] at hg
  have hfin : (b.atR a (.inRegion ops (i :: rest) :: k)).finish v = b.atR (a.put o.dst v) (.inRegion ops rest :: k) := by rw [Frame.finish_atR, ho]; rfl
  refine .one (fw P _) (step_lone_go ?_)
  rw [hg, ← hfin, Oper.semAt_none]
  simp [stepG.apply, hr]
theorem to_send {ch x : Operand} {c cap s r : Nat} {buf : Array Value} {tm : Bool} (ho : ops[i]? = some o) (hw : Region.wanted o (yielded ops a.tmps) = true) (hop : o.op = .send ch x) (hc : a.eval ch = .chan (some c)) (hob : w.heap[c]? = some (.chan cap buf false s r tm)) (hroom : buf.size < cap) :
    OpsTo P ops (i :: rest) a w rest (a.put o.dst undef) (w.putObj c (.chan cap (buf.push (a.eval x)) false (s + 1) r tm)) := by
  intro b k cs hro
  have hg := stepGR_op (P := P) (b := b) (k := k) (cs := cs) (w := w) (rest := rest) ho hw
  rw [hro] at hg
  have hfin : (b.atR a (.inRegion ops (i :: rest) :: k)).finish undef = b.atR (a.put o.dst undef) (.inRegion ops rest :: k) := by rw [Frame.finish_atR, ho]; rfl
  have hrun : (execOp a.eval o).run P w = .ok (.comm #[Go.Conc.scase c (a.eval x) (.tuple #[])] true .send) w := by simp [execOp, hop, hc, Go.Conc.scase]
  refine .one (fw P _) ?_
  have hst : ∃ es, stepG P true (Go.Conc.G (b.atR a (.inRegion ops (i :: rest) :: k)) cs) w = .comm (Go.Conc.G (b.atR a (.inRegion ops (i :: rest) :: k)) cs) #[Go.Conc.scase c (a.eval x) (.tuple #[])] true .send w es := by
    have hg' : stepG P true (Go.Conc.G (b.atR a (.inRegion ops (i :: rest) :: k)) cs) w = _ := hg
    rw [hg', Oper.semAt_none]
    simp only [stepG.apply, Sem.runT_eq, hrun, if_true]
    exact ⟨_, rfl⟩
  obtain ⟨es, hst⟩ := hst
  have := Go.Conc.step_lone_send_room hst hob hroom
  rw [hfin] at this
  exact this
theorem to_select {ch : Operand} {c cap s r e : Nat} {tm : Bool} {z : Value} (ho : ops[i]? = some o) (hw : Region.wanted o (yielded ops a.tmps) = true) (hop : o.op = .select #[⟨ch, none, e⟩] false) (hz : tZero P e = some z) (hc : a.eval ch = .chan (some c)) (hob : w.heap[c]? = some (.chan cap #[] false s r tm)) :
    OpsTo P ops (i :: rest) a w rest (a.put o.dst (.tuple #[goInt (-1), .bool false, z])) w := by
  intro b k cs hro
  have hg := stepGR_op (P := P) (b := b) (k := k) (cs := cs) (w := w) (rest := rest) ho hw
  rw [hro] at hg
  have hfin : (b.atR a (.inRegion ops (i :: rest) :: k)).finish (.tuple #[goInt (-1), .bool false, z]) = b.atR (a.put o.dst (.tuple #[goInt (-1), .bool false, z])) (.inRegion ops rest :: k) := by rw [Frame.finish_atR, ho]; rfl
  have hrun : (execOp a.eval o).run P w = .ok (.comm #[Go.Conc.rcase c z] false .select) w := by
    simp [execOp, hop, hc, Go.Conc.rcase, run_zero hz w]
  refine .one (fw P _) ?_
  have hst : ∃ es, stepG P true (Go.Conc.G (b.atR a (.inRegion ops (i :: rest) :: k)) cs) w = .comm (Go.Conc.G (b.atR a (.inRegion ops (i :: rest) :: k)) cs) #[Go.Conc.rcase c z] false .select w es := by
    have hg' : stepG P true (Go.Conc.G (b.atR a (.inRegion ops (i :: rest) :: k)) cs) w = _ := hg
    rw [hg', Oper.semAt_none]
    simp only [stepG.apply, Sem.runT_eq, hrun, if_true]
    exact ⟨_, rfl⟩
  obtain ⟨es, hst⟩ := hst
  have := Go.Conc.step_lone_select_default hst hob
  rw [hfin] at this
  exact this
theorem region_to {id : Nat} {a' : Act} {Q : Exit → Act → World → Prop} (h : OpsTo P ops (List.range ops.size) a w [] a' w') (hQ : Q .normal a' w') : (Code.region id ops false).wpIn (Wz none) 0 P Q a w := by
  intro b k cs hro hb hr
  exact ⟨.normal, a', w', hQ, StepsIn.trans (.one (fw P _) stepR_region) ((h b k cs hro).trans (.one (fw P _) stepR_region_end))⟩
end
/-! ### Two blocks alone -/
section
variable {w0 w w' : World} {F : List Nat} {B : Nm} {σ : St}
noncomputable def two (x y : SB) : St := ((St.mk 2 .nil).set 0 (some x)).set 1 (some y)
def twoB (p q : Nat × Nat) : Nm := fun i => if i = 0 then some p else if i = 1 then some q else none
theorem two_get (x y : SB) (i : Nat) : (two x y).get i = if i = 1 then some y else if i = 0 then some x else none := by
  unfold two
  rw [St.get_set _ (by unfold lim; omega), St.get_set _ (by unfold lim; omega)]
  rfl
/-- The two are all that is told. -/
theorem Sx.two (hs : Sx w0 F B σ w) {b c : Nat} {x y x' y' : SB} {p q : Nat × Nat} (hb : σ.get b = some x) (hc : σ.get c = some y) (hbc : b ≠ c) (hp : B b = some p) (hq : B c = some q) (hx : Blk (twoB p q) p x' w.heap[p.1]?) (hy : Blk (twoB p q) q y' w.heap[q.1]?) :
    Sx w [p.1, q.1] (twoB p q) (two x' y') w := by
  have hpq : p.1 ≠ q.1 := fun e => hbc (hs.apart b c x y p q hb hc hp hq e)
  have t0 : twoB p q 0 = some p := rfl
  have t1 : twoB p q 1 = some q := rfl
  refine ⟨Fr.refl _ _, by show 2 ≤ lim; unfold lim; omega, fun i hi => ?_, fun i sb hi => ?_, fun i j x1 y1 r s hi hj hr hs' e => ?_⟩
  · have hi' : 2 ≤ i := hi
    exact ⟨by unfold twoB; rw [if_neg (by omega), if_neg (by omega)], by rw [two_get, if_neg (by omega), if_neg (by omega)]⟩
  · rw [two_get] at hi
    by_cases h1 : i = 1
    · subst h1
      rw [if_pos rfl] at hi; cases hi
      exact ⟨q, t1, hy, .inl (by simp)⟩
    · rw [if_neg h1] at hi
      by_cases h0 : i = 0
      · subst h0
        rw [if_pos rfl] at hi; cases hi
        exact ⟨p, t0, hx, .inl (by simp)⟩
      · rw [if_neg h0] at hi; cases hi
  · rw [two_get] at hi hj
    have hi2 : i = 0 ∨ i = 1 := by
      by_cases h1 : i = 1
      · exact .inr h1
      · rw [if_neg h1] at hi
        by_cases h0 : i = 0
        · exact .inl h0
        · rw [if_neg h0] at hi; cases hi
    have hj2 : j = 0 ∨ j = 1 := by
      by_cases h1 : j = 1
      · exact .inr h1
      · rw [if_neg h1] at hj
        by_cases h0 : j = 0
        · exact .inl h0
        · rw [if_neg h0] at hj; cases hj
    rcases hi2 with rfl | rfl <;> rcases hj2 with rfl | rfl
    · rfl
    · rw [t0] at hr; rw [t1] at hs'; cases hr; cases hs'; exact absurd e hpq
    · rw [t1] at hr; rw [t0] at hs'; cases hr; cases hs'; exact absurd e.symm hpq
    · rfl
/-- Only one of them has changed. -/
theorem Sx.back (hs : Sx w0 F B σ w) {c : Nat} {y y' : SB} {q : Nat × Nat} (hc : σ.get c = some y) (hq : B c = some q) (hfr : Fr [q.1] w w') (hy : Blk B q y' w'.heap[q.1]?) : Sx w0 F B (σ.set c (some y')) w' := by
  obtain ⟨q', hq', _, hF⟩ := hs.own c y hc
  rw [hq] at hq'; cases hq'
  have hl := hs.idl hc
  refine ⟨hs.low.trans hfr (fun x hx => by simp at hx; subst hx; exact hF), hs.bd, fun k hk => ?_, fun j x hj => ?_, fun j k x1 y1 r s hj hk hr hs' e => ?_⟩
  · have hk' : σ.n ≤ k := hk
    exact ⟨(hs.new k hk').1, by rw [σ.get_set hl, if_neg (by have := hs.idx hc; omega)]; exact (hs.new k hk').2⟩
  · rw [σ.get_set hl] at hj
    by_cases e : j = c
    · rw [if_pos e] at hj; cases hj; subst e; exact ⟨q, hq, hy, hF⟩
    · rw [if_neg e] at hj
      obtain ⟨r, hr, hk, hF'⟩ := hs.own j x hj
      refine ⟨r, hr, ?_, hF'⟩
      rw [hfr.block r.1 (hs.lt hj hr) (fun hm => e (hs.apart j c x y r q hj hc hr hq (by simpa using hm)))]
      exact hk
  · have key : ∀ (k : Nat) (z : SB), (σ.set c (some y')).get k = some z → ∃ z', σ.get k = some z' := by
      intro k z hk
      rw [σ.get_set hl] at hk
      by_cases e : k = c
      · subst e; exact ⟨y, hc⟩
      · rw [if_neg e] at hk; exact ⟨z, hk⟩
    obtain ⟨x', hx'⟩ := key j x1 hj
    obtain ⟨y1', hy'⟩ := key k y1 hk
    exact hs.apart j k x' y1' r s hx' hy' hr hs' e
end
theorem none_ok (P : Program) : XOk P (fun _ => none) := fun f g args σ v σ' h => by cases h
theorem nodc_ok (P : Program) : DcOk P (fun _ => false) := fun f h => by cases h
end Go.Proofs.YtpofmnfkdkmieaaGreat.S
namespace Go.Proofs.YtpofmnfkdkmieaaGreat.S
open Go Go.RowKit E

theorem callsDW {P : Program} {f : FuncId} {fn : Func} {c : Code} {args : Array Value} {u : FrameMode} {w : World} {R : Ending → FrameMode → World → Prop} (hf : P.funcs[f]? = some fn) (hb : fn.body = some c)
    (h : ∀ (c₀ : Frame) (cs : List Frame), c₀.mode = u → c.wpS P (bodyPostS P fn c₀ cs R) { tmps := args ++ Array.replicate (fn.ntmps - args.size) undef, defers := [] } (c₀ :: cs) w) : CallsDIn (Wz none) 0 P f args u w R := by
  refine ⟨trivial, fun c₀ cs hu _ => ?_⟩
  let b : Frame := { (default : Frame) with fn := f, kind := .deferred }
  have henter : Frame.enter P f args .deferred = b.at { tmps := args ++ Array.replicate (fn.ntmps - args.size) undef, defers := [] } [.code c] := by
    simp [Frame.enter, Frame.at, hf, hb, b]
  obtain ⟨e, a', cs', w', hq, harr⟩ := h c₀ cs hu b [] rfl rfl
  rw [← henter] at harr
  cases e with
  | normal =>
    obtain ⟨hd, u', rfl, v, hr, hR⟩ := hq
    exact ⟨.returned v, u', w', _, hR, comesIn_wide.2 (show Comes P _ _ (.returned v) from Steps.trans harr (.one step_end)), rfl, rfl, rfl, hd, fn, hf, hr⟩
  | ret =>
    obtain ⟨hd, u', rfl, v, hr, hR⟩ := hq
    obtain ⟨todo, hs⟩ := harr
    exact ⟨.returned v, u', w', _, hR, comesIn_wide.2 (show Comes P _ _ (.returned v) from hs), rfl, rfl, rfl, hd, fn, hf, hr⟩
  | panic chain =>
    obtain ⟨hd, u', rfl, hR⟩ := hq
    obtain ⟨todo, hs⟩ := harr
    exact ⟨.panicked chain, u', w', _, hR, comesIn_wide.2 (show Comes P _ _ (.panicked chain) from hs), rfl, rfl, rfl, hd, fn, hf⟩
  | exit id => exact hq.elim
  | goto l => exact hq.elim
  | outgrown =>
    obtain ⟨u', hR⟩ := hq
    exact ⟨.outgrown, u', w', b, hR, comesIn_wide.2 (show Comes P _ _ .outgrown from harr.resolve_left (by simp [b])), rfl, rfl, trivial⟩
theorem setCell_put {w : World} {b k : Nat} {cs : List Value} {t : TypeId} {v : Value} (h : w.heap[b]? = some (.cells cs.toArray t (0, 0))) (hk : k < cs.length) : w.setCell ⟨b, k, none⟩ v = w.setRow b (put cs k [v]).toArray := by
  unfold World.setCell World.setRow
  congr 1
  apply Array.ext_getElem?
  intro i
  rw [Array.getElem?_modify, Array.getElem?_modify]
  split
  · rename_i e; subst e; rw [h]
    simp only [Option.map_some, Option.isSome_none, Bool.false_eq_true, if_false]
    have : cs.toArray.setIfInBounds k v = (put cs k [v]).toArray := by
      simp only [List.setIfInBounds_toArray, put]
      congr 1
      rw [List.set_eq_take_append_cons_drop]
      simp [hk]
    rw [this]
  · rfl
def dc0 (f : FuncId) : Bool := Nat.beq f 119 || Nat.beq f 110 || Nat.beq f 102 || Nat.beq f 126
section
set_option maxRecDepth 4000
theorem idleS (p : Addr) (x : Value) (w : World) (hc : w.cell? p = some x) (hz : w.frozen? p = false) :
    CallsDIn (Wz none) 0 Tryz.prog 119 #[.pointer (some p)] .returning w fun e u' w' => e = .returned (.tuple #[]) ∧ u' = .returning ∧ w' = w.setCell p .nilIface := by
  refine callsDW Tryz.func119 rfl fun c₀ cs hu => ?_
  apply wpS_region
  simp [wpOpsS, go_sem, recoverD, hu, Tryz.ntmps119, hc, hz, bodyPostS, results, Tryz.results119]
  cases c₀
  simp_all
theorem idleC (p : Addr) (x : Value) (w : World) (hc : w.cell? p = some x) (hz : w.frozen? p = false) :
    CallsDIn (Wz none) 0 Tryz.prog 110 #[.pointer (some p)] .returning w fun e u' w' => e = .returned (.tuple #[]) ∧ u' = .returning ∧ w' = w.setCell p .nilIface := by
  refine callsDW Tryz.func110 rfl fun c₀ cs hu => ?_
  apply wpS_region
  simp [wpOpsS, go_sem, recoverD, hu, Tryz.ntmps110, hc, hz, bodyPostS, results, Tryz.results110]
  cases c₀
  simp_all
theorem idleB (p : Addr) (x : Value) (w : World) (hc : w.cell? p = some x) (hz : w.frozen? p = false) :
    CallsDIn (Wz none) 0 Tryz.prog 102 #[.pointer (some p)] .returning w fun e u' w' => e = .returned (.tuple #[]) ∧ u' = .returning ∧ w' = w.setCell p .nilIface := by
  refine callsDW Tryz.func102 rfl fun c₀ cs hu => ?_
  apply wpS_region
  simp [wpOpsS, go_sem, recoverD, hu, Tryz.ntmps102, hc, hz, bodyPostS, results, Tryz.results102]
  cases c₀
  simp_all
theorem idleR (p : Addr) (x : Value) (w : World) (hc : w.cell? p = some x) (hz : w.frozen? p = false) :
    CallsDIn (Wz none) 0 Tryz.prog 126 #[.pointer (some p)] .returning w fun e u' w' => e = .returned (.tuple #[]) ∧ u' = .returning ∧ w' = w.setCell p .nilIface := by
  refine callsDW Tryz.func126 rfl fun c₀ cs hu => ?_
  apply wpS_region
  simp [wpOpsS, go_sem, recoverD, hu, Tryz.ntmps126, hc, hz, bodyPostS, results, Tryz.results126]
  cases c₀
  simp_all
end
theorem idle_dc {f : FuncId} {fn : Func} (hf : Tryz.prog.funcs[f]? = some fn) (hb : fn.body.isNone = false) (h : ∀ (p : Addr) (x : Value) (w : World), w.cell? p = some x → w.frozen? p = false → CallsDIn (Wz none) 0 Tryz.prog f #[.pointer (some p)] .returning w fun e u' w' => e = .returned (.tuple #[]) ∧ u' = .returning ∧ w' = w.setCell p .nilIface) :
    (∃ fn, Tryz.prog.funcs[f]? = some fn ∧ fn.body.isNone = false) ∧ ∀ (w : World) (b k : Nat) (cs : List Value) (t : TypeId), w.heap[b]? = some (.cells cs.toArray t (0, 0)) → k < cs.length →
      CallsDIn (Wz none) 0 Tryz.prog f #[.pointer (some ⟨b, k, none⟩)] .returning w fun e u w' => (∃ v, e = .returned v) ∧ u = .returning ∧ w' = w.setRow b (put cs k [.nilIface]).toArray :=
  ⟨⟨fn, hf, hb⟩, fun w b k cs t hw hk => by
    refine (h ⟨b, k, none⟩ (cs[k]) w ?_ ?_).mono ?_
    · unfold World.cell?; simp only; rw [hw]; simp [hk]
    · unfold World.frozen?; simp only; rw [hw]; simp
    · rintro e u w' ⟨rfl, rfl, rfl⟩
      exact ⟨⟨_, rfl⟩, rfl, setCell_put hw hk⟩⟩
theorem dc0_ok : DcOk Tryz.prog dc0 := by
  intro f hf
  unfold dc0 at hf
  simp only [Bool.or_eq_true] at hf
  rcases hf with ((hf | hf) | hf) | hf <;> (have := Nat.eq_of_beq_eq_true hf; subst this)
  · exact idle_dc Tryz.func119 (by kernel_rfl) idleS
  · exact idle_dc Tryz.func110 (by kernel_rfl) idleC
  · exact idle_dc Tryz.func102 (by kernel_rfl) idleB
  · exact idle_dc Tryz.func126 (by kernel_rfl) idleR
theorem mixed : Tryz.prog.follows .mixedOrders = true := by kernel_rfl
theorem noNG : NoNG Tryz.prog := by
  have h : Tryz.prog.funcs.toList.all (fun fn => !(fn.name == "runtime.NumGoroutine")) = true := by kernel_rfl
  intro f fn hf
  have := List.all_eq_true.1 h fn (List.mem_of_getElem? (by rw [← Array.getElem?_toList] at hf; exact hf))
  simpa using this
end Go.Proofs.YtpofmnfkdkmieaaGreat.S
namespace Go.Proofs.YtpofmnfkdkmieaaGreat.S
open Go Go.RowKit E

section
variable {P : Program} {ops : Array Oper} {i n : Nat} {rest : List Nat} {o : Oper} {a : Act} {w0 w w' : World} {F : List Nat} {B : Nm} {E : SE} {D : List SD} {σ : St}
theorem to_skip (ho : ops[i]? = some o) (hw : Region.wanted o (yielded ops a.tmps) = true) (hr : (execOp a.eval o).run P w = .ok .skip w') : OpsTo P ops (i :: rest) a w rest (a.put o.dst undef) w' := by
  intro b k cs hro
  have hg := stepGR_op (P := P) (b := b) (k := k) (cs := cs) (w := w) (rest := rest) ho hw
  rw [hro] at hg
  have hfin : (b.atR a (.inRegion ops (i :: rest) :: k)).finish undef = b.atR (a.put o.dst undef) (.inRegion ops rest :: k) := by rw [Frame.finish_atR, ho]; rfl
  refine .one (fw P _) (step_lone_go ?_)
  rw [hg, ← hfin, Oper.semAt_none]
  simp [stepG.apply, hr]
noncomputable def stpV (n : Nat) (E : SE) (o : Oper) : Option (SV × St) → Option (SE × St)
  | some (v, τ) => (putD n E o.dst v).map fun E' => (E', τ)
  | none => none
noncomputable def stp1 (n : Nat) (E : SE) (σ : St) (o : Oper) : Option Ar → Option (SE × St)
  | some (.val r) => stpV n E o (lodge σ.n r)
  | _ => none
noncomputable def stpL (P : Program) (n : Nat) : List Oper → SE → St → Option (SE × St)
  | [], E, σ => some (E, σ)
  | o :: L, E, σ => (stp1 n E σ o (act P E σ o)).bind fun q => stpL P n L q.1 q.2
def Fits (ops : Array Oper) : List Nat → List Oper → Prop
  | [], [] => True
  | i :: is, o :: L => (ops[i]? = some o ∧ o.guard = none) ∧ Fits ops is L
  | _, _ => False
theorem to_acts : ∀ (L : List Oper) (is : List Nat) {E : SE} {σ : St} {B : Nm} {a : Act} {w : World} {E' : SE} {σ' : St}, Fits ops is L → stpL P n L E σ = some (E', σ') → Sx w0 F B σ w → Ags n a E D B →
    ∃ a' w' B', OpsTo P ops (is ++ rest) a w rest a' w' ∧ Gr σ.n σ'.n B B' ∧ Sx w0 F B' σ' w' ∧ Ags n a' E' D B'
  | [], [], E, σ, B, a, w, E', σ', _, h, hs, ha => by
    cases h
    exact ⟨a, w, B, .refl _, Gr.refl _ _, hs, ha⟩
  | o :: L, [], E, σ, B, a, w, E', σ', hf, h, hs, ha => by cases hf
  | [], i :: is, E, σ, B, a, w, E', σ', hf, h, hs, ha => by cases hf
  | o :: L, i :: is, E, σ, B, a, w, E', σ', hf, h, hs, ha => by
    obtain ⟨h1, hf⟩ := hf
    · simp only [stpL] at h
      cases hac : act P E σ o with
      | none => rw [hac] at h; cases h
      | some r =>
        rw [hac] at h
        cases r with
        | val r =>
          simp only [stp1] at h
          cases hl : lodge σ.n r with
          | none => rw [hl] at h; cases h
          | some q =>
            obtain ⟨v, τ⟩ := q
            rw [hl] at h
            simp only [stpV] at h
            cases hp : putD n E o.dst v with
            | none => rw [hp] at h; cases h
            | some E1 =>
              rw [hp] at h
              simp only [Option.map_some, Option.bind_some] at h
              obtain ⟨x, w1, B1, hr, hpre, hd, hs1⟩ := lodge_ok (act_ok hs ha hac) hl
              obtain ⟨a', w', B', ht, hg, hs', ha'⟩ := to_acts L is hf h hs1 (putD_ok (ha.mono hpre.1) hd hp)
              have hw : Region.wanted o (yielded ops a.tmps) = true := by unfold Region.wanted; rw [h1.2]
              refine ⟨a', w', B', ?_, hpre.trans hg, hs', ha'⟩
              rcases hr with hr | ⟨rfl, hr⟩
              · exact (to_val h1.1 hw hr).trans ht
              · exact (to_skip h1.1 hw hr).trans ht
        | call g m => simp only [stp1] at h; cases h
        | dfr x => simp only [stp1] at h; cases h
def eOf : Option Rs → SE
  | some (.code _ E _ _) => E
  | _ => []
def dOf : Option Rs → List SD
  | some (.code _ _ D _) => D
  | _ => []
def sOf : Option Rs → St
  | some (.code _ _ _ σ) => σ
  | some (.val _ σ) => σ
  | _ => ⟨0, .nil⟩
def vOf : Option Rs → SV
  | some (.val v _) => v
  | _ => .tup []
def nrm : Option Rs → Bool
  | some (.code .normal _ _ _) => true
  | _ => false
def rtd : Option Rs → Bool
  | some (.code .ret _ _ _) => true
  | _ => false
def vld : Option Rs → Bool
  | some (.val _ _) => true
  | _ => false
theorem nrm_ok {q : Option Rs} (h : nrm q = true) : q = some (.code .normal (eOf q) (dOf q) (sOf q)) := by
  unfold nrm at h
  split at h
  · rfl
  · cases h
theorem rtd_ok {q : Option Rs} (h : rtd q = true) : q = some (.code .ret (eOf q) (dOf q) (sOf q)) := by
  unfold rtd at h
  split at h
  · rfl
  · cases h
theorem vld_ok {q : Option Rs} (h : vld q = true) : q = some (.val (vOf q) (sOf q)) := by
  unfold vld at h
  split at h
  · rfl
  · cases h
theorem out0 {hdc : DcOk P (fun _ => false)} (hng : NoNG P) {fn : Func} {tmps : Array Value} {σ1 : St} {n0 : Nat} {v : SV} {x : Value} {ds : List Deferred} (hs : Sx w0 F B σ1 w) (hd : ds = []) (hx : den B v = some x) (hn : n0 = σ1.n) (hr : ∀ w', (results fn tmps).run P w' = .ok x w') :
    LeavesInM (Wz none) 0 P fn tmps (fun e w' => ∃ x B', e = .returned x ∧ Gr n0 σ1.n B B' ∧ den B' v = some x ∧ Sx w0 F B' σ1 w') ds .returning w := by
  subst hd
  subst hn
  exact leaves_ok hng hdc [] (σ' := σ1) rfl hs rfl fun w2 hs2 => ⟨x, hr w2, x, B, rfl, Gr.refl _ _, hx, hs2⟩
end
/-! ### The three -/
noncomputable def xClone : List SV → St → Option (SV × St)
  | [.v (.string s)], σ => bif Nat.ble s.size 4000000 then some (.v (.string s), σ) else none
  | _, _ => none
noncomputable def xSend : List SV → St → Option (SV × St)
  | [.ptr b 0], σ => (match σ.get b with
      | some (.cells [.v (.int .i64 x), .v (.int .i64 y), .ch c]) => (match σ.get c with
        | some (.chan cap k) => bif ieq y x then (bif Nat.blt k cap then some (.tup [], σ.set c (some (.chan cap (k + 1)))) else none) else some (.tup [], σ)
        | _ => none)
      | _ => none)
  | _, _ => none
noncomputable def xOut : List SV → St → Option (SV × St)
  | [.ptr b 0], σ => (match σ.get b with
      | some (.cells [.v (.int .i64 _), .v (.int .i64 _), .ch c]) => (match σ.get c with
        | some (.chan _ 0) => some (.v (.bool false), σ)
        | _ => none)
      | _ => none)
  | _, _ => none
noncomputable def X0 : Ext := fun f => bif Nat.beq f 131 then some xClone else bif Nat.beq f 236 then some xSend
  else bif Nat.beq f 352 then some xOut else none
theorem clone_ok {args : List SV} {σ σ' : St} {v : SV} (h : xClone args σ = some (v, σ')) : Ok Tryz.prog (.call 131 args σ) (.val v σ') := by
  unfold xClone at h
  split at h
  · rename_i s
    cases hb : Nat.ble s.size 4000000 with
    | false => rw [hb] at h; cases h
    | true =>
      rw [hb] at h
      cases h
      refine ⟨⟨_, Tryz.func131, by kernel_rfl⟩, fun w0 F B w vs hs hd => ?_⟩
      obtain ⟨x, xs, hx, hxs, rfl⟩ := denL_cons.1 hd
      have := den_v hx; subst this
      cases hxs
      refine (callsIn_wide.2 (clone_any s w (Nat.le_of_ble_eq_true hb))).mono ?_
      rintro e w' ⟨rfl, hb'⟩
      exact ⟨_, B, rfl, Gr.refl _ _, rfl, hs.keep hb'⟩
  · cases h
end Go.Proofs.YtpofmnfkdkmieaaGreat.S
