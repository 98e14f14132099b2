/- What is proved here: what each operation does to memory that is told by places, last part. Nothing of one program. -/
import Derived.Test.YtpofmnfkdkmieaaGreatQ26
import Derived.TacticsIn
import Derived.DefersIn
set_option linter.unusedVariables false
set_option linter.unusedSimpArgs false
namespace Go.Proofs.YtpofmnfkdkmieaaGreat.S
open Go Go.RowKit E
section
variable {P : Program} {n : Nat} {w0 w w' : World} {F : List Nat} {B : Nm} {σ : St} {a : Act} {E : SE} {D : List SD} {o : Oper} {r : OpR}
theorem ok_chan {t : Nat} {x : Operand} (ho : o.op = .makeChan t x) (hs : Sx w0 F B σ w) (ha : Ags n a E D B) (h : (natOf (sev E x)).bind (exChan P σ t) = some r) : OpOk P w0 F B a w o r := by
  cases h1 : natOf (sev E x) with
  | none => rw [h1] at h; cases h
  | some k =>
    rw [h1] at h
    simp only [Option.bind_some] at h
    obtain ⟨ki, hx⟩ := natOf_some h1
    have ex := den_v (ha.eval hx)
    unfold exChan at h
    split at h
    · rename_i d e hu
      cases hi : P.info? e with
      | none => rw [hi] at h; cases h
      | some i =>
        rw [hi] at h
        simp only at h
        cases hb : Nat.ble (k * (i.bytes + 1)) 1000000 with
        | false => rw [hb] at h; cases h
        | true =>
          rw [hb] at h
          simp only [cond_true] at h
          cases h
          have b4 := Nat.le_of_ble_eq_true hb
          have b5 : k ≤ 1000000 := Nat.le_trans (Nat.le_mul_of_pos_right k (by omega)) b4
          have b6 : i.bytes * k ≤ 1000000 := by rw [Nat.mul_comm]; exact Nat.le_trans (Nat.mul_le_mul_left k (by omega)) b4
          refine ok_new (ob := .chan k #[] false 0 0 false) (c := 0) (x := .chan (some w.heap.size)) hs ?_ (fun r hr => ⟨⟨#[], 0, 0, rfl, rfl⟩, by simp [den, upd_same]⟩)
          have h1 : ¬ ((k : Int) < 0) := by omega
          have h2 : ¬ (9223372036854775807 < (k : Int)) := by omega
          have h3 : ¬ (281474976710544 < (i.bytes : Int) * (k : Int)) := by
            have : (i.bytes : Int) * (k : Int) = ((i.bytes * k : Nat) : Int) := by simp
            rw [this]
            omega
          have hi' := run_info hi w
          simp only [execOp, ho, ex]
          simp [Instr.makeChan, asInt, asIntOf, run_underlying hu, hi', h1, h2, h3, newObj]
          rfl
    · cases h
/-! ### Numbers -/
theorem wrap_small (k : IntKind) (x : Nat) (h : x < 128) : k.wrap (Int.ofNat x) = Int.ofNat x := by
  simp only [Int.ofNat_eq_natCast]
  cases k <;> simp only [IntKind.wrap, IntKind.bits, IntKind.signed] <;> simp <;> omega
theorem iadd_eq (k : IntKind) (i j : Int) : iadd k i j = k.wrap (i + j) := by
  unfold iadd
  split
  · rename_i x y
    cases hb : Nat.blt (Nat.add x y) 128 with
    | false => rfl
    | true =>
      have h : Nat.add x y < 128 := by simpa using hb
      rw [cond_true]
      exact (wrap_small k _ h).symm
  · rfl
theorem isub_eq (k : IntKind) (i j : Int) : isub k i j = k.wrap (i - j) := by
  unfold isub
  split
  · rename_i x y
    cases hb : Nat.ble y x && Nat.blt x 128 with
    | false => rfl
    | true =>
      rw [Bool.and_eq_true] at hb
      have h1 := Nat.le_of_ble_eq_true hb.1
      have h2 : x < 128 := by simpa using hb.2
      rw [cond_true]
      have e : (Int.ofNat x - Int.ofNat y : Int) = Int.ofNat (Nat.sub x y) := by
        simp only [Int.ofNat_eq_natCast]
        have : (Nat.sub x y) = x - y := rfl
        omega
      rw [e]
      exact (wrap_small k _ (by have : (Nat.sub x y) = x - y := rfl; omega)).symm
  · rfl
theorem ilt_eq (i j : Int) : ilt i j = decide (i < j) := by
  unfold ilt
  split
  · rename_i x y
    by_cases h : x < y
    · rw [show Nat.blt x y = true by simpa using h, decide_eq_true (by simpa using h)]
    · rw [show Nat.blt x y = false by
        cases hb : Nat.blt x y with
        | false => rfl
        | true => exact absurd (by simpa using hb) h, decide_eq_false (by simpa using h)]
  · rfl
theorem ieq_eq (i j : Int) : ieq i j = decide (i = j) := by
  unfold ieq
  split
  · rename_i x y
    by_cases h : x = y
    · subst h; rw [Nat.beq_refl]; simp
    · rw [beq_ff h, decide_eq_false (fun e => h (by cases e; rfl))]
  · rfl
theorem intBin_run {op : BinOp} {t : Nat} {k : IntKind} {i j : Int} {v : Value} (h : intBin k i j op = some v) : (binOp op t (.int k i) (.int k j)).run P w = .ok v w := by
  have e1 : (i == j) = decide (i = j) := by by_cases h : i = j <;> simp [h]
  have e2 : (i != j) = !decide (i = j) := by by_cases h : i = j <;> simp [h]
  cases op <;> simp only [intBin] at h <;> first
    | cases h; done
    | (cases h; simp [binOp, Op.intArith, iadd_eq]; done)
    | (cases h; simp [binOp, Op.intArith, isub_eq]; done)
    | (cases h; simp [binOp, Op.intCmp, ilt_eq]; done)
    | (cases h; simp [binOp, Op.intCmp, ilt_eq]; by_cases h' : j < i <;> simp [h'] <;> omega)
    | (cases h; simp [binOp, Op.intCmp, ilt_eq]; by_cases h' : i < j <;> simp [h'] <;> omega)
    | (cases h; simp [binOp, Op.intCmp, ieq_eq, e1]; done)
    | (cases h; simp [binOp, Op.intCmp, ieq_eq, e2]; done)
theorem eq_run {t : Nat} {d : TypeDesc} {u v : Value} {q : Bool} (hu : P.underlying t = some d) (h : ∀ k, (Op.equalIn (k + 1) t u v).run P w = .ok q w) (g h' : Operand) (hg : ∀ op, (eqGuard op t g h' u v).run P w = .ok () w) (hb : binOp .eql t u v = (do pure (.bool (← Op.equal t u v))) ∧ binOp .neq t u v = (do pure (.bool (!(← Op.equal t u v))))) :
    (do eqGuard .eql t g h' u v; binOp .eql t u v : Sem Value).run P w = .ok (.bool q) w ∧ (do eqGuard .neq t g h' u v; binOp .neq t u v : Sem Value).run P w = .ok (.bool (!q)) w := by
  have he : (Op.equal t u v).run P w = .ok q w := h 9999
  rw [hb.1, hb.2]
  simp [hg, he]
theorem nilKind_run {t : Nat} {x y : SV} {u v : Value} (hx : den B x = some u) (hy : den B y = some v) (h : nilKind P t x y = true) (g h' : Operand) :
    (do eqGuard .eql t g h' u v; binOp .eql t u v : Sem Value).run P w = .ok (.bool false) w ∧ (do eqGuard .neq t g h' u v; binOp .neq t u v : Sem Value).run P w = .ok (.bool true) w := by
  unfold nilKind at h
  split at h
  · rename_i e hu
    unfold nilPtr at h
    split at h
    · obtain ⟨p, hp, rfl⟩ := den_ptr hx
      have := den_v hy; subst this
      exact eq_run hu (fun k => by rw [Op.equalIn]; simp [run_underlying hu]) g h' (fun op => by cases op <;> rfl) ⟨rfl, rfl⟩
    · obtain ⟨p, hp, rfl⟩ := den_ptr hy
      have := den_v hx; subst this
      exact eq_run hu (fun k => by rw [Op.equalIn]; simp [run_underlying hu]) g h' (fun op => by cases op <;> rfl) ⟨rfl, rfl⟩
    · cases h
  · rename_i e hu
    unfold nilFn at h
    split at h
    · obtain ⟨p, q, _, _, rfl⟩ := den_fn hx
      have := den_v hy; subst this
      exact eq_run hu (fun k => by rw [Op.equalIn]; simp [run_underlying hu]) g h' (fun op => by cases op <;> rfl) ⟨rfl, rfl⟩
    · obtain ⟨p, q, _, _, rfl⟩ := den_fn hy
      have := den_v hx; subst this
      exact eq_run hu (fun k => by rw [Op.equalIn]; simp [run_underlying hu]) g h' (fun op => by cases op <;> rfl) ⟨rfl, rfl⟩
    · cases h
  · rename_i e hu
    unfold nilIf at h
    split at h
    · obtain ⟨p, _, rfl⟩ := den_ifc hx
      have := den_v hy; subst this
      exact eq_run hu (fun k => by rw [Op.equalIn]; simp [run_underlying hu]) g h' (fun op => by cases op <;> rfl) ⟨rfl, rfl⟩
    · obtain ⟨p, _, rfl⟩ := den_ifc hy
      have := den_v hx; subst this
      exact eq_run hu (fun k => by rw [Op.equalIn]; simp [run_underlying hu]) g h' (fun op => by cases op <;> rfl) ⟨rfl, rfl⟩
    · cases h
  · rename_i e hu
    unfold nilSl at h
    split at h
    · obtain ⟨p, hp, rfl⟩ := den_sl hx
      have := den_v hy; subst this
      exact eq_run hu (fun k => by rw [Op.equalIn]; simp [run_underlying hu]) g h' (fun op => by cases op <;> rfl) ⟨rfl, rfl⟩
    · cases h
  · cases h
theorem ok_eq {t t' : Nat} {x y : Operand} {b : BinOp} {q : Bool} (hb : (b = .eql ∧ q = false) ∨ (b = .neq ∧ q = true)) (ho : o.op = .binOp b t x y t') (hs : Sx w0 F B σ w) (ha : Ags n a E D B) (h : exEq P E σ o t q (sev E x) (sev E y) = some r) : OpOk P w0 F B a w o r := by
  unfold exEq at h
  split at h
  · rename_i v u hx hy
    cases hn : nilKind P t v u with
    | false => rw [hn] at h; exact ok_plain hs ha h
    | true =>
      rw [hn] at h
      simp only [cond_true] at h
      have hr := nilKind_run (P := P) (w := w) (ha.eval hx) (ha.eval hy) hn x y
      refine ok_same hs (v := .v (.bool q)) (x := .bool q) rfl ?_ h
      rcases hb with ⟨rfl, rfl⟩ | ⟨rfl, rfl⟩
      · have := hr.1
        simp only [execOp, ho]
        rw [Sem.run_bind, this]
        rfl
      · have := hr.2
        simp only [execOp, ho]
        rw [Sem.run_bind, this]
        rfl
  · cases h
theorem ok_bin {t t' : Nat} {x y : Operand} {b : BinOp} (ho : o.op = .binOp b t x y t') (hs : Sx w0 F B σ w) (ha : Ags n a E D B) (h : exBin P E σ o t x y b (sev E x) (sev E y) = some r) : OpOk P w0 F B a w o r := by
  unfold exBin at h
  split at h
  · rename_i k i k' j hx hy
    split at h
    · rename_i v hv
      cases hk : decide (k = k') with
      | false => rw [hk] at h; cases h
      | true =>
        rw [hk] at h
        have e := of_decide_eq_true hk
        subst e
        simp only [cond_true] at h
        have ex := den_v (ha.eval hx)
        have ey := den_v (ha.eval hy)
        have hr := intBin_run (P := P) (w := w) (t := t) hv
        refine ok_same hs (v := .v v) (x := v) rfl ?_ h
        simp only [execOp, ho, ex, ey, eqGuard_at_int]
        simp [hr]
    · exact ok_plain hs ha h
  · cases b with
    | eql => exact ok_eq (.inl ⟨rfl, rfl⟩) ho hs ha h
    | neq => exact ok_eq (.inr ⟨rfl, rfl⟩) ho hs ha h
    | _ => exact ok_plain hs ha h
theorem ok_un {t : Nat} {x : Operand} {u : UnOp} (ho : o.op = .unOp u t x) (hs : Sx w0 F B σ w) (ha : Ags n a E D B) (h : exUn P E σ o u (sev E x) = some r) : OpOk P w0 F B a w o r := by
  unfold exUn at h
  split at h
  · rename_i b hx
    have ex := den_v (ha.eval hx)
    cases u with
    | not =>
      refine ok_same hs (v := .v (.bool (!b))) (x := .bool (!b)) rfl ?_ h
      simp only [execOp, ho, ex]
      rfl
    | _ => cases h
  · exact ok_plain hs ha h
theorem byteOf_some {v : SV} {b : UInt8} (h : byteOf v = some b) : v = .v (byteV b) := by
  unfold byteOf at h
  split at h
  · rename_i k
    cases hb : Nat.blt k 256 with
    | false => rw [hb] at h; cases h
    | true =>
      rw [hb] at h
      have hk : k < 256 := by simpa using hb
      cases h
      unfold byteV
      rw [UInt8.toNat_ofNat_of_lt' hk]
      rfl
  · cases h
theorem bytesOf_some : ∀ {l : List SV} {bs : List UInt8}, bytesOf l = some bs → l = bs.map fun b => .v (byteV b)
  | [], bs, h => by simp only [bytesOf] at h; cases h; rfl
  | x :: r, bs, h => by
    simp only [bytesOf] at h
    cases h1 : byteOf x with
    | none => rw [h1] at h; cases h
    | some b =>
      rw [h1] at h
      cases h2 : bytesOf r with
      | none => rw [h2] at h; cases h
      | some l =>
        rw [h2] at h
        cases h
        rw [byteOf_some h1, bytesOf_some h2]
        rfl
theorem ok_conv {s d : Nat} {x : Operand} (ho : o.op = .convert s d x) (hs : Sx w0 F B σ w) (ha : Ags n a E D B) (h : exConv P E σ o s d (sev E x) = some r) : OpOk P w0 F B a w o r := by
  unfold exConv at h
  split at h
  · rename_i b l hx
    split at h
    · rename_i e e' sz k c hu hd hro
      split at h
      · rename_i he
        cases hg : Nat.beq e e' && Nat.beq sz 1 && Nat.ble l k with
        | false => rw [hg] at h; cases h
        | true =>
          rw [hg] at h
          simp only [cond_true] at h
          simp only [Bool.and_eq_true] at hg
          have e1 := Nat.eq_of_beq_eq_true hg.1.1
          have e2 := Nat.eq_of_beq_eq_true hg.1.2
          have hlk := Nat.le_of_ble_eq_true hg.2
          subst e1; subst e2
          cases hbs : bytesOf (c.take l) with
          | none => rw [hbs] at h; cases h
          | some bs =>
            rw [hbs] at h
            simp only [Option.bind_some] at h
            have hb := rowOf_some hro
            obtain ⟨p, hp, ex⟩ := den_sl (ha.eval hx)
            obtain ⟨vs, cur, hvs, hlen, _⟩ := hs.row hb hp
            have hcl : (cutAt c 0 l).length = l := by
              unfold cutAt
              rw [List.drop_zero, List.length_take, ← denL_length hvs, hlen]
              omega
            obtain ⟨us, hus, hld⟩ := row_cells (P := P) hs hb rfl hp hcl
            have hcut : cutAt c 0 l = bs.map fun b => .v (byteV b) := by unfold cutAt; rw [List.drop_zero]; exact bytesOf_some hbs
            have hus' : us = bs.map byteV := by
              rw [hcut, show (bs.map fun b => SV.v (byteV b)) = (bs.map byteV).map SV.v by rw [List.map_map]; rfl, denL_map] at hus
              cases hus; rfl
            subst hus'
            have h1 := run_convert_bytes_string (P := P) w s d e (some ⟨p.1, 0, none⟩) l (p.2 - 0) hu he hd
            have hm : bs.map byteV = (bs.map fun b => ((b.toNat : Nat) : Int)).map (Value.int .u8) := by rw [List.map_map]; rfl
            rw [hm] at hld
            have h2 := run_bytesToString (P := P) w ⟨p.1, 0, none⟩ l (p.2 - 0) _ hld
            rw [foldl_push] at h2
            have e3 : (ByteArray.empty ++ ⟨bs.toArray⟩ : ByteArray) = ⟨bs.toArray⟩ := by apply ByteArray.ext; rw [ByteArray.data_append]; simp
            rw [e3] at h2
            refine ok_same hs (v := .v (.string ⟨bs.toArray⟩)) (x := .string ⟨bs.toArray⟩) rfl ?_ h
            simp only [Nat.sub_zero] at h1 h2 ex
            simp only [execOp, ho, ex]
            simp [h1, h2]
      · cases h
    · cases h
  · exact ok_plain hs ha h
/-! ### All of them -/
theorem of_val {q : Option OpR} (h : Ar.of q = some (.val r)) : q = some r := by
  cases q with
  | none => cases h
  | some x => cases h; rfl
theorem act_ok (hs : Sx w0 F B σ w) (ha : Ags n a E D B) (h : act P E σ o = some (.val r)) : OpOk P w0 F B a w o r := by
  unfold act at h
  split at h
  · rename_i x ho; exact ok_move (.inl ho) hs ha (of_val h)
  · rename_i x ho; exact ok_move (.inr ho) hs ha (of_val h)
  · rename_i c x y ho
    split at h
    · rename_i b hc; exact ok_pick ho hs ha hc (of_val h)
    · cases h
  · rename_i x ho; exact ok_nil ho hs ha (of_val h)
  · rename_i x i ho; exact ok_ext ho hs ha (of_val h)
  · rename_i s x f ho; exact ok_field ho hs ha (of_val h)
  · rename_i t x y ho; exact ok_idx ho hs ha (of_val h)
  · rename_i t x ho; exact ok_load ho hs ha (of_val h)
  · rename_i t x y ho; exact ok_store ho hs ha (of_val h)
  · rename_i t x ho; exact ok_box ho hs ha (of_val h)
  · rename_i t ho; exact ok_alloc ho hs (of_val h)
  · rename_i t ps ho; exact ok_build ho hs ha (of_val h)
  · rename_i t k ps ho; exact ok_buildS ho hs ha (of_val h)
  · rename_i t x ho; exact ok_iface ho hs ha (of_val h)
  · rename_i fn u c ho; exact ok_func ho hs ha (of_val h)
  · rename_i x xt t ok ho; exact ok_assert ho hs ha (of_val h)
  · rename_i t x y ho; exact ok_make ho hs ha (of_val h)
  · rename_i t x lo hi mx ho; exact ok_slice ho hs ha (of_val h)
  · rename_i t q ho
    cases q with
    | none => exact ok_mkmap ho hs (of_val h)
    | some _ => cases h
  · rename_i t x ho; exact ok_chan ho hs ha (of_val h)
  · rename_i t x y ok ho; exact ok_look ho hs ha (of_val h)
  · rename_i t x y z ho; exact ok_mapup ho hs ha (of_val h)
  · rename_i t x ho; exact ok_range ho hs ha (of_val h)
  · rename_i x s ho; exact ok_next ho hs ha (of_val h)
  · rename_i b t x y t' ho; exact ok_bin ho hs ha (of_val h)
  · rename_i u t x ho; exact ok_un ho hs ha (of_val h)
  · exact ok_plain hs ha (of_val h)
  · rename_i s d x ho; exact ok_conv ho hs ha (of_val h)
  · rename_i c ho
    obtain ⟨callee, xs, ts⟩ := c
    cases callee with
    | value g =>
      simp only [acCall] at h
      split at h
      · cases h
      · cases h
    | invoke _ _ => cases h
    | builtin b =>
      have h := of_val h
      simp only at h
      cases b with
      | len =>
        simp only [acBuiltin] at h
        split at h
        · rename_i x t hx ht; exact ok_len ho hx ht hs ha h
        · cases h
      | copy =>
        simp only [acBuiltin] at h
        split at h
        · rename_i x y t u hx ht; exact ok_copy ho hx ht hs ha h
        · cases h
      | append =>
        simp only [acBuiltin] at h
        split at h
        · rename_i x y t u hx ht
          split at h
          · rename_i s v h1 h2
            split at h
            · rename_i q hq
              cases h
              exact ok_append ho hx ht hs ha h1 h2 hq
            · exact ok_plain hs ha h
          · cases h
        · cases h
      | _ => exact ok_plain hs ha h
  · rename_i c ho
    unfold acDefer at h
    split at h
    · split at h
      · cases h
      · cases h
    · cases h
  · cases h
end
end Go.Proofs.YtpofmnfkdkmieaaGreat.S
namespace Go.Proofs.YtpofmnfkdkmieaaGreat.S
open Go Go.RowKit E

def Wz (ro : Option Nat) : Fence := { Fence.wide with round := ro }
def xt : Xt → Exit
  | .normal => .normal
  | .exit id => .exit id
  | .ret => .ret
/-- There are more places; those that were there lie where they lay. -/
def Gr (n n' : Nat) (B B' : Nm) : Prop := Pre B B' ∧ n ≤ n' ∧ ∀ i, i < n → B' i = B i
theorem Gr.refl (n : Nat) (B : Nm) : Gr n n B B := ⟨Pre.refl B, Nat.le_refl _, fun _ _ => rfl⟩
theorem Gr.trans {n m k : Nat} {A B C : Nm} (h : Gr n m A B) (h' : Gr m k B C) : Gr n k A C := ⟨h.1.trans h'.1, Nat.le_trans h.2.1 h'.2.1, fun i hi => (h'.2.2 i (Nat.lt_of_lt_of_le hi h.2.1)).trans (h.2.2 i hi)⟩
/-- What a task's answer says. -/
def Ok (P : Program) : Tk → Rs → Prop
  | .code ro n c E D σ, .code e E' D' σ' => ∀ (l : Option Nat) (w0 : World) (F : List Nat) (B : Nm) (w : World) (a : Act), l.isSome = ro → Sx w0 F B σ w → Ags n a E D B →
      c.wpIn (Wz l) 0 P (fun e' a' w' => e' = xt e ∧ ∃ B', Gr σ.n σ'.n B B' ∧ Sx w0 F B' σ' w' ∧ Ags n a' E' D' B') a w
  | .call f args σ, .val v σ' => (∃ fn, P.funcs[f]? = some fn ∧ fn.body.isNone = false) ∧ ∀ (w0 : World) (F : List Nat) (B : Nm) (w : World) (vs : List Value), Sx w0 F B σ w → denL B args = some vs →
      CallsIn (Wz none) 0 P f vs.toArray w fun e w' => ∃ x B', e = .returned x ∧ Gr σ.n σ'.n B B' ∧ den B' v = some x ∧ Sx w0 F B' σ' w'
  | .round b args σ, .val v σ' => ∀ (w0 : World) (F : List Nat) (B : Nm) (w : World) (vs : List Value) (p : Nat × Nat), Sx w0 F B σ w → denL B args = some vs → B b = some p →
      ∃ f tmps x y, (Instr.yield p.1 vs.toArray).run P w = .ok (.round p.1 f tmps x y) w ∧ RoundIn (Wz none) 0 P p.1 f tmps x y w fun e w' => ∃ x B', e = .returned x ∧ Gr σ.n σ'.n B B' ∧ den B' v = some x ∧ Sx w0 F B' σ' w'
  | _, _ => False
def RecOk (P : Program) (rec : Rec) : Prop := ∀ t r, rec t = some r → Ok P t r
def NoNG (P : Program) : Prop := ∀ (f : Nat) (fn : Func), P.funcs[f]? = some fn → (fn.name == "runtime.NumGoroutine") = false
section
variable {P : Program} {n : Nat} {w0 w w' : World} {F : List Nat} {B : Nm} {σ : St} {a : Act} {E : SE} {D : List SD} {o : Oper} {rec : Rec}
theorem valOf_some {q : Option Rs} {v : SV} {τ : St} (h : valOf q = some (v, τ)) : q = some (.val v τ) := by
  unfold valOf at h
  split at h
  · cases h; rfl
  · cases h
/-! ### Operations in their order -/
theorem wants_ok {all : Array Oper} {b : Bool} (ha : Ags n a E D B) (h : wants E all o.guard = some b) : Region.wanted o (yielded all a.tmps) = b := by
  unfold wants at h
  unfold Region.wanted
  split at h
  · rename_i hg; cases h; rw [hg]
  · rename_i j want hg
    rw [hg]
    simp only
    cases hd : (all[j]?).bind (·.dst) with
    | none => rw [hd] at h; cases h
    | some d =>
      rw [hd] at h
      simp only at h
      unfold yielded
      rw [hd]
      simp only [Option.bind_some]
      unfold wantsV at h
      split at h
      · rename_i b' hs
        cases h
        obtain ⟨x, hx, ht⟩ := ha.tm.2 d _ hs
        have := den_v hx; subst this
        rw [ht]
        rfl
      · rename_i l hs
        cases h
        obtain ⟨x, hx, ht⟩ := ha.tm.2 d _ hs
        obtain ⟨xs, _, e⟩ := den_tup hx
        rw [ht, e]
        rfl
      · cases h
theorem putD_ok {v : SV} {x : Value} {d : Option Nat} {E' : SE} (ha : Ags n a E D B) (hv : den B v = some x) (h : putD n E d v = some E') : Ags n (a.put d x) E' D B := by
  cases d with
  | none => cases h; exact ha
  | some d =>
    simp only [putD] at h
    cases hb : Nat.blt d n with
    | false => rw [hb] at h; cases h
    | true => rw [hb] at h; cases h; exact ha.put hb hv
theorem act_nodef {r : OpR} (h : act P E σ o = some (.val r)) : ∀ c, o.op ≠ .defer c := by
  intro c e
  unfold act at h
  rw [e] at h
  simp only at h
  unfold acDefer at h
  split at h
  · split at h <;> cases h
  · cases h
theorem act_call {g : SV} {l : List SV} (h : act P E σ o = some (.call g l)) : ∃ x xs ts, o.op = .call ⟨.value x, xs, ts⟩ ∧ sev E x = some g ∧ sargs E xs.toList = some l := by
  have hof : ∀ {q : Option OpR}, Ar.of q = some (.call g l) → False := by
    intro q hq
    cases q <;> cases hq
  unfold act at h
  split at h <;> first
    | exact (hof h).elim
    | skip
  · split at h
    · exact (hof h).elim
    · cases h
  · split at h
    · exact (hof h).elim
    · cases h
  · rename_i c ho
    obtain ⟨callee, xs, ts⟩ := c
    cases callee with
    | value x =>
      simp only [acCall] at h
      split at h
      · rename_i v m hx hm
        cases h
        exact ⟨x, xs, ts, ho, hx, hm⟩
      · cases h
    | invoke _ _ => cases h
    | builtin b => exact (hof h).elim
  · unfold acDefer at h
    split at h
    · split at h <;> cases h
    · cases h
  · cases h
theorem act_dfr {d : SD} (h : act P E σ o = some (.dfr d)) : ∃ x xs ts f c, o.op = .defer ⟨.value x, xs, ts⟩ ∧ xs.toList = [] ∧ sev E x = some (.fn f [] c) ∧ d = .clo f c := by
  have hof : ∀ {q : Option OpR}, Ar.of q = some (.dfr d) → False := by
    intro q hq
    cases q <;> cases hq
  unfold act at h
  split at h <;> first
    | exact (hof h).elim
    | skip
  · split at h
    · exact (hof h).elim
    · cases h
  · split at h
    · exact (hof h).elim
    · cases h
  · rename_i c ho
    obtain ⟨callee, xs, ts⟩ := c
    cases callee with
    | value x =>
      simp only [acCall] at h
      split at h <;> cases h
    | invoke _ _ => cases h
    | builtin b => exact (hof h).elim
  · rename_i c ho
    obtain ⟨callee, xs, ts⟩ := c
    cases callee with
    | value x =>
      simp only [acDefer] at h
      split at h
      · rename_i f c hx hxs
        cases h
        exact ⟨x, xs, ts, f, c, ho, hxs, hx, rfl⟩
      · cases h
    | _ => cases h
  · cases h
/-- A value is laid where it belongs. -/
theorem lodge_ok {r : OpR} {v : SV} {n0 : Nat} {τ : St} (hok : OpOk P w0 F B a w o r) (h : lodge n0 r = some (v, τ)) : ∃ x w' B', ((execOp a.eval o).run P w = .ok (.value x) w' ∨ (x = undef ∧ (execOp a.eval o).run P w = .ok .skip w')) ∧ Gr n0 τ.n B B' ∧ den B' v = some x ∧ Sx w0 F B' τ w' := by
  obtain ⟨ρ, sb, f⟩ := r
  cases sb with
  | none =>
    simp only [lodge] at h
    cases hb : Nat.ble n0 ρ.n with
    | false => rw [hb] at h; cases h
    | true =>
      rw [hb] at h
      cases h
      obtain ⟨x, w', hr, hd, hs⟩ := hok
      exact ⟨x, w', B, hr, ⟨Pre.refl B, Nat.le_of_ble_eq_true hb, fun _ _ => rfl⟩, hd, hs⟩
  | some sb =>
    simp only [lodge] at h
    cases hb : Nat.ble n0 ρ.n && Nat.blt ρ.n 15999 with
    | false => rw [hb] at h; cases h
    | true =>
      rw [hb] at h
      cases h
      rw [Bool.and_eq_true] at hb
      have hle := Nat.le_of_ble_eq_true hb.1
      have hlt : ρ.n < 15999 := by simpa using hb.2
      obtain ⟨x, w', p, hr, hs, hnew, hF, hne⟩ := hok
      have hB : B ρ.n = none := (hs.new ρ.n (Nat.le_refl _)).1
      obtain ⟨h1, h2⟩ := hnew ρ.n hB
      have he := hs.ext 1 (by unfold lim; omega)
      refine ⟨x, w', upd B ρ.n p, .inl hr, ⟨Pre.upd hB p, by show n0 ≤ ρ.n + 1; omega, fun i hi => by unfold upd; rw [if_neg (by omega)]⟩, h2, he.lay (by show ρ.n < ρ.n + 1; omega) hB h1 hF hne⟩
theorem run_callF {x : Operand} {xs : Array Operand} {ts : Array TypeId} {f : Nat} {u v : List Value} (hng : NoNG P) (hf : ∃ fn, P.funcs[f]? = some fn ∧ fn.body.isNone = false) (ho : o.op = .call ⟨.value x, xs, ts⟩) (hx : a.eval x = .func (.func f) u.toArray v.toArray) :
    (execOp a.eval o).run P w = .ok (.enter f (u ++ xs.toList.map a.eval ++ v).toArray) w := by
  obtain ⟨fn, hfn, hb⟩ := hf
  have hn := hng f fn hfn
  simp only [execOp, ho, resolve, hx, Deferred.ofValue, Sem.run_bind, Sem.run_pure, Result.andThen_ok, invoke, callFunc]
  have hp : (program : Sem Program).run P w = .ok P w := rfl
  rw [hp]
  simp only [Result.andThen_ok, hfn, hn, hb, Bool.false_eq_true, if_false, Sem.run_pure]
  rw [← mapA]
  simp
theorem opers_ok (hng : NoNG P) (hrec : RecOk P rec) {l : Option Nat} {ro : Bool} (hro : l.isSome = ro) {all : Array Oper} {Q : Exit → Act → World → Prop} : ∀ (L : List Oper) {E : SE} {D : List SD} {σ : St} {E' : SE} {D' : List SD} {σ' : St} {B : Nm} {a : Act} {w : World},
    opers P rec ro n all L E D σ = some (E', D', σ') → (∀ B' a' w', Gr σ.n σ'.n B B' → Sx w0 F B' σ' w' → Ags n a' E' D' B' → Q .normal a' w') → Sx w0 F B σ w → Ags n a E D B → wpListIn (Wz l) 0 P all Q L a w
  | [], E, D, σ, E', D', σ', B, a, w, h, hQ, hs, ha => by
    rw [opers_nil] at h
    cases h
    exact hQ B a w (Gr.refl _ B) hs ha
  | o :: L, E, D, σ, E', D', σ', B, a, w, h, hQ, hs, ha => by
    rw [opers_cons] at h
    unfold opers1 at h
    cases hw : wants E all o.guard with
    | none => rw [hw] at h; cases h
    | some b =>
      rw [hw] at h
      have hwant := wants_ok ha hw
      simp only [wpListIn, hwant]
      cases b with
      | false =>
        simp only at h
        cases hp : putD n E o.dst (.tup []) with
        | none => rw [hp] at h; cases h
        | some E1 =>
          rw [hp] at h
          simp only [Option.bind_some] at h
          refine ⟨fun _ _ => trivial, ?_⟩
          exact opers_ok hng hrec hro L h hQ hs (putD_ok ha (v := .tup []) (x := undef) rfl hp)
      | true =>
        simp only [if_true] at h ⊢
        refine ⟨fun _ _ => trivial, ?_⟩
        cases hac : act P E σ o with
        | none => rw [hac] at h; cases h
        | some r =>
          rw [hac] at h
          cases r with
          | val r =>
            rw [Oper.semAt_eq _ _ _ (act_nodef hac)]
            simp only [opersK] at h
            cases hl : lodge σ.n r with
            | none => rw [hl] at h; cases h
            | some q =>
              obtain ⟨v, τ⟩ := q
              rw [hl] at h
              simp only at h
              cases hp : putD n E o.dst v with
              | none => rw [hp] at h; cases h
              | some E1 =>
                rw [hp] at h
                simp only [Option.bind_some] at h
                obtain ⟨x, w1, B1, hr, hpre, hd, hs1⟩ := lodge_ok (act_ok hs ha hac) hl
                have hgo := opers_ok hng hrec hro L h (fun B' a' w' hp' => hQ B' a' w' (hpre.trans hp')) hs1 (putD_ok (ha.mono hpre.1) hd hp)
                rcases hr with hr | ⟨rfl, hr⟩
                · rw [hr]; exact hgo
                · rw [hr]; exact hgo
          | call g m =>
            obtain ⟨x, xs, ts, ho, hx, hxs⟩ := act_call hac
            rw [Oper.semAt_eq _ _ _ (fun c e => by rw [ho] at e; cases e)]
            simp only [opersK] at h
            cases hcv : callV rec σ m g with
            | none => rw [hcv] at h; cases h
            | some q =>
              obtain ⟨v, τ⟩ := q
              rw [hcv] at h
              simp only at h
              cases hp : putD n E o.dst v with
              | none => rw [hp] at h; cases h
              | some E1 =>
                rw [hp] at h
                simp only [Option.bind_some] at h
                have he := ha.eval hx
                have hm := sargs_map ha hxs
                have hgo : ∀ (y : Value) (B1 : Nm) (w1 : World), Gr σ.n τ.n B B1 → den B1 v = some y → Sx w0 F B1 τ w1 → wpListIn (Wz l) 0 P all Q L (a.put o.dst y) w1 := fun y B1 w1 hpre hd hs1 =>
                  opers_ok hng hrec hro L h (fun B' a' w' hp' => hQ B' a' w' (hpre.trans hp')) hs1 (putD_ok (ha.mono hpre.1) hd hp)
                unfold callV at hcv
                split at hcv
                · rename_i f u c
                  have hr := hrec _ _ (valOf_some hcv)
                  obtain ⟨us, vs, hus, hvs, hfe⟩ := den_fn he
                  rw [run_callF hng hr.1 ho hfe]
                  refine ⟨fun h => (by cases h), ?_⟩
                  refine CallsIn.mono (hr.2 w0 F B w _ hs (denL_append (denL_append hus hm) hvs)) ?_
                  rintro e w1 ⟨y, B1, rfl, hpre, hd, hs1⟩
                  exact hgo y B1 w1 hpre hd hs1
                · rename_i b
                  have hr := hrec _ _ (valOf_some hcv)
                  have he' := he
                  simp only [den, Option.map_eq_some_iff] at he'
                  obtain ⟨p, hp', hfe⟩ := he'
                  obtain ⟨f, tmps, cx, cy, hy, hround⟩ := hr w0 F B w _ p hs hm hp'
                  have hrun : (execOp a.eval o).run P w = (Instr.yield p.1 (xs.map a.eval)).run P w := by
                    simp [execOp, ho, resolve, Deferred.ofValue, ← hfe, invoke]
                  rw [hrun, ← mapA, hy]
                  refine ⟨fun h => (by cases h), ?_⟩
                  refine RoundIn.mono (show RoundIn (Wz l) (0 - 1) P p.1 f tmps cx cy w _ from hround) ?_
                  rintro e w1 ⟨y, B1, rfl, hpre, hd, hs1⟩
                  exact hgo y B1 w1 hpre hd hs1
                · cases hcv
          | dfr d =>
            simp only [opersK] at h
            cases ro with
            | true => cases h
            | false =>
              simp only [cond_false] at h
              cases hp : putD n E o.dst (.tup []) with
              | none => rw [hp] at h; cases h
              | some E1 =>
                rw [hp] at h
                simp only [Option.bind_some] at h
                obtain ⟨x, xs, ts, f, c, ho, hxs, hx, rfl⟩ := act_dfr hac
                have hl : l = none := by
                  cases l with
                  | none => rfl
                  | some _ => cases hro
                subst hl
                obtain ⟨us, vs, hus, hvs, hfe⟩ := den_fn (ha.eval hx)
                simp only [denL] at hus
                cases hus
                have hxs' : xs = #[] := by rw [← Array.toArray_toList (xs := xs), hxs]
                have hrun : (o.semAt (Wz none).round a.eval).run P w = .ok (.defer { target := .fn (.func f) vs.toArray, args := #[] }) w := by
                  show (Oper.semAt none a.eval o).run P w = _
                  rw [Oper.semAt_none]
                  simp [execOp, ho, resolve, hfe, Deferred.ofValue, hxs']
                rw [hrun]
                have ha' : Ags n { a with defers := { target := .fn (.func f) vs.toArray, args := #[] } :: a.defers } E (.clo f c :: D) B := ⟨ha.tm, denDs_cons.2 ⟨_, _, by simp [denD, hvs], ha.df, rfl⟩⟩
                exact opers_ok hng hrec hro L h hQ hs (putD_ok ha' (v := .tup []) (x := undef) rfl hp)
end
end Go.Proofs.YtpofmnfkdkmieaaGreat.S
namespace Go.Proofs.YtpofmnfkdkmieaaGreat.S
open Go Go.RowKit E

/-- A function that lays what was recovered (nothing) into a variable. -/
def DcOk (P : Program) (dc : FuncId → Bool) : Prop := ∀ f, dc f = true → (∃ fn, P.funcs[f]? = some fn ∧ fn.body.isNone = false) ∧ ∀ (w : World) (b k : Nat) (cs : List Value) (t : TypeId), w.heap[b]? = some (.cells cs.toArray t (0, 0)) → k < cs.length →
  CallsDIn (Wz none) 0 P f #[.pointer (some ⟨b, k, none⟩)] .returning w fun e u w' => (∃ v, e = .returned v) ∧ u = .returning ∧ w' = w.setRow b (put cs k [.nilIface]).toArray
/-- A region whose order is drawn. -/
def DrOk (P : Program) (draw : Bool → Draw) : Prop := ∀ (ro : Bool) (n id : Nat) (ops : Array Oper) (E : SE) (D : List SD) (σ : St) (E' : SE) (D' : List SD) (σ' : St), draw ro n ops E D σ = some (E', D', σ') → Ok P (.code ro n (.region id ops true) E D σ) (.code .normal E' D' σ')
def XOk (P : Program) (X : Ext) : Prop := ∀ f g args σ v σ', X f = some g → g args σ = some (v, σ') → Ok P (.call f args σ) (.val v σ')
section
variable {P : Program} {n : Nat} {w0 w w' : World} {F : List Nat} {B : Nm} {σ : St} {a : Act} {E : SE} {D : List SD} {o : Oper} {rec : Rec}
theorem ok_code {ro : Bool} {c : Code} {r : Rs} (h : Ok P (.code ro n c E D σ) r) : ∃ e E' D' σ', r = .code e E' D' σ' := by
  cases r with
  | code e E' D' σ' => exact ⟨e, E', D', σ', rfl⟩
  | val v σ' => exact h.elim
theorem ok_val {f : FuncId} {args : List SV} {r : Rs} (h : Ok P (.call f args σ) r) : ∃ v σ', r = .val v σ' := by
  cases r with
  | code e E' D' σ' => exact h.elim
  | val v σ' => exact ⟨v, σ', rfl⟩
theorem seq_ok {ro : Bool} {x y : Code} {r : Rs} (hrec : RecOk P rec) (h : seqK (fun E D σ => rec (.code ro n y E D σ)) (rec (.code ro n x E D σ)) = some r)
    (c : Code) (hc : ∀ (l : Option Nat) (Q : Exit → Act → World → Prop) (a : Act) (w : World), (∀ e a w, Q e a w → ∃ z, e = xt z) → x.wpIn (Wz l) 0 P (Exit.then (y.wpIn (Wz l) 0 P Q) Q) a w → c.wpIn (Wz l) 0 P Q a w) : Ok P (.code ro n c E D σ) r := by
  cases h1 : rec (.code ro n x E D σ) with
  | none => rw [h1] at h; cases h
  | some r1 =>
    rw [h1] at h
    have k1 := hrec _ _ h1
    obtain ⟨e1, E1, D1, σ1, rfl⟩ := ok_code k1
    cases e1 with
    | normal =>
      simp only [seqK] at h
      have k2 := hrec _ _ h
      obtain ⟨e2, E2, D2, σ2, rfl⟩ := ok_code k2
      intro l w0 F B w a hl hs ha
      refine hc l _ a w (fun _ _ _ hq => ⟨_, hq.1⟩) (wpIn_mono (k1 l w0 F B w a hl hs ha) ?_)
      rintro e a1 w1 ⟨rfl, B1, hp1, hs1, ha1⟩
      refine wpIn_mono (k2 l w0 F B1 w1 a1 hl hs1 ha1) ?_
      rintro e a2 w2 ⟨he, B2, hp2, hs2, ha2⟩
      exact ⟨he, B2, hp1.trans hp2, hs2, ha2⟩
    | exit id =>
      simp only [seqK] at h
      cases h
      intro l w0 F B w a hl hs ha
      refine hc l _ a w (fun _ _ _ hq => ⟨_, hq.1⟩) (wpIn_mono (k1 l w0 F B w a hl hs ha) ?_)
      rintro e a1 w1 ⟨rfl, h1⟩
      exact ⟨rfl, h1⟩
    | ret =>
      simp only [seqK] at h
      cases h
      intro l w0 F B w a hl hs ha
      refine hc l _ a w (fun _ _ _ hq => ⟨_, hq.1⟩) (wpIn_mono (k1 l w0 F B w a hl hs ha) ?_)
      rintro e a1 w1 ⟨rfl, h1⟩
      exact ⟨rfl, h1⟩
theorem exit_len {id : Nat} : ∀ {k k' : List Item}, exitTo id k = some k' → k'.length ≤ k.length
  | [], k', h => by simp [exitTo] at h
  | x :: k, k', h => by
    cases x with
    | inBlock i =>
      simp only [exitTo] at h
      split at h
      · cases h; simp
      · have := exit_len h; simp; omega
    | _ => simp only [exitTo] at h; have := exit_len h; simp; omega
theorem steps_alike {I : Machine → Prop} {m1 m2 m' T : Machine} (h1 : I m1) (s1 : step P m1 = .next m') (s2 : step P m2 = .next m') (hne : m2 ≠ T) (h : StepsIn I P m2 T) : StepsIn I P m1 T := by
  cases h with
  | refl => exact absurd rfl hne
  | head hI hs h' =>
    rw [s2] at hs
    cases hs
    exact .head h1 s1 h'
theorem lone_todo {b b' : Frame} {a a' : Act} {k k' : List Item} {cs : List Frame} {w w' : World} (h : lone (b.atR a k) cs w = lone (b'.atR a' k') cs w') : k = k' := by
  simp only [lone, Machine.mk.injEq] at h
  have h2 := h.2.1
  simp only [Array.mk.injEq, List.cons.injEq, Goroutine.mk.injEq, Frame.atR, Frame.mk.injEq] at h2
  exact h2.1.1.2.2.1
theorem lone_mode {b : Frame} {a a' : Act} {k k' : List Item} {cs : List Frame} {w w' : World} : lone (b.atR a k) cs w ≠ lone { b.atR a' k' with mode := .returning } cs w' := by
  intro h
  simp only [lone, Machine.mk.injEq] at h
  have h2 := h.2.1
  simp only [Array.mk.injEq, List.cons.injEq, Goroutine.mk.injEq, Frame.atR, Frame.mk.injEq] at h2
  exact (by have := h2.1.1.2.2.2.2.1; cases this)
theorem arrive_alike {l : Option Nat} {x : Code} {b : Frame} {a1 a' : Act} {k : List Item} {cs : List Frame} {w1 w' : World} {z : Xt} (h1 : (lone (b.atR a1 (.inLoop x :: k)) cs w1).fenced P (Wz l))
    (h : ArrivesIn (Machine.fenced P (Wz l)) P (lone (b.atR a1 (.code (.loop x) :: k)) cs w1) b k cs (xt z) a' w') : ArrivesIn (Machine.fenced P (Wz l)) P (lone (b.atR a1 (.inLoop x :: k)) cs w1) b k cs (xt z) a' w' := by
  have s1 : step P (lone (b.atR a1 (.inLoop x :: k)) cs w1) = .next (lone (b.atR a1 (.code x :: .inLoop x :: k)) cs w1) := stepR_inLoop
  have s2 : step P (lone (b.atR a1 (.code (.loop x) :: k)) cs w1) = .next (lone (b.atR a1 (.code x :: .inLoop x :: k)) cs w1) := stepR_loop
  cases z with
  | normal => exact steps_alike h1 s1 s2 (fun e => by have := congrArg List.length (lone_todo e); simp at this) h
  | exit id =>
    refine ⟨fun k' hk => steps_alike h1 s1 s2 (fun e => ?_) (h.1 k' hk), fun hr hn => ?_⟩
    · have e1 := congrArg List.length (lone_todo e)
      have := exit_len hk
      simp at e1
      omega
    · obtain ⟨k₁, hk, hs⟩ := h.2 hr hn
      exact ⟨k₁, hk, steps_alike h1 s1 s2 (fun e => by have := lone_todo e; cases this) hs⟩
  | ret =>
    refine ⟨fun hr => ?_, fun hr => ?_⟩
    · obtain ⟨todo, hs⟩ := h.1 hr
      exact ⟨todo, steps_alike h1 s1 s2 (fun e => lone_mode e) hs⟩
    · obtain ⟨k₁, hs⟩ := h.2 hr
      exact ⟨k₁, steps_alike h1 s1 s2 (fun e => by have := lone_todo e; cases this) hs⟩
theorem loop_once {l : Option Nat} {x : Code} {Q : Exit → Act → World → Prop} {a : Act} {w : World} (hQ : ∀ e a w, Q e a w → ∃ z, e = xt z) (h : x.wpIn (Wz l) 0 P (Exit.then ((Code.loop x).wpIn (Wz l) 0 P Q) Q) a w) : (Code.loop x).wpIn (Wz l) 0 P Q a w := by
  intro b k cs hro hb hr
  obtain ⟨e, a₁, w₁, hq, harr⟩ := h b (.inLoop x :: k) cs hro hb hr
  have s0 : StepsIn (Machine.fenced P (Wz l)) P (lone (b.atR a (.code (.loop x) :: k)) cs w) (lone (b.atR a (.code x :: .inLoop x :: k)) cs w) := .one (fenced_calm hb hr rfl) stepR_loop
  cases e with
  | normal =>
    obtain ⟨e₂, a₂, w₂, hq₂, harr₂⟩ := hq b k cs hro hb hr
    refine ⟨e₂, a₂, w₂, hq₂, .of_steps (s0.trans harr) ?_⟩
    obtain ⟨z, rfl⟩ := hQ _ _ _ hq₂
    exact arrive_alike (fenced_calm (fr := b.atR a₁ (.inLoop x :: k)) hb hr rfl) harr₂
  | exit id => exact ⟨_, a₁, w₁, hq, .of_steps s0 (.pass (x := .inLoop x) rfl (fun _ _ => .inl (by simp)) harr)⟩
  | goto l => exact ⟨_, a₁, w₁, hq, .of_steps s0 (.pass (x := .inLoop x) rfl (fun _ _ => .inl (by simp)) harr)⟩
  | ret => exact ⟨_, a₁, w₁, hq, .of_steps s0 (.pass (x := .inLoop x) rfl (fun _ _ => .inl (by simp)) harr)⟩
  | panic ch => exact ⟨_, a₁, w₁, hq, .of_steps s0 (.pass (x := .inLoop x) rfl (fun _ _ => .inl (by simp)) harr)⟩
  | outgrown => exact ⟨_, a₁, w₁, hq, .of_steps s0 (.pass (x := .inLoop x) rfl (fun _ _ => .inl (by simp)) harr)⟩
end
end Go.Proofs.YtpofmnfkdkmieaaGreat.S
