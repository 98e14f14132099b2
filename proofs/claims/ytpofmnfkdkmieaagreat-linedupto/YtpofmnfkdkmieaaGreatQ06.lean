/- What is proved here: code that is gone through over memory th -/
import Derived.Test.YtpofmnfkdkmieaaGreatQ05
import Derived.TacticsIn
import Derived.DefersIn
set_option linter.unusedVariables false
set_option linter.unusedSimpArgs false
namespace Go.Proofs.YtpofmnfkdkmieaaGreat
namespace S
open Go Go.RowKit E
def Wz (ro:Option Nat):Fence:={ Fence.wide with round:=ro }
def xt:Xt->Exit
 | .normal=>.normal
 | .exit id=>.exit id
 | .ret=>.ret
/-- A place of old: below n, or one that is only spoken of (from lim on). -/
def Lo (n i:Nat):Prop:=i<n\/lim<=i
theorem Lo.up {n m i:Nat} (h:Lo n i) (hnm:n<=m):Lo m i:=h.imp (fun h=>Nat.lt_of_lt_of_le h hnm) id
/-- There are more places; those that were there lie where they lay. -/
def Gr (n n':Nat) (B B':Nm):Prop:=Pre B B'/\n<=n'/\∀ i,Lo n i->B' i=B i
theorem Gr.refl (n:Nat) (B:Nm):Gr n n B B:=⟨Pre.refl B,Nat.le_refl _,fun _ _=>rfl⟩
theorem Gr.trans {n m k:Nat} {A B C:Nm} (h:Gr n m A B) (h':Gr m k B C):Gr n k A C:=⟨h.1.trans h'.1,Nat.le_trans h.2.1 h'.2.1,fun i hi=>(h'.2.2 i (hi.up h.2.1)).trans (h.2.2 i hi)⟩
/-- What a task's answer says. -/
def Ok (P:Program):Tk->Rs->Prop
 | .code ro n c E D σ,.code e E' D' σ'=>∀ (l:Option Nat) (w0:World) (F:List Nat) (B:Nm) (w:World) (a:Act),l.isSome=ro->Sx w0 F B σ w->Ags n a E D B ->
   c.wpIn (Wz l) 0 P (fun e' a' w'=>e'=xt e/\∃ B',Gr σ.n σ'.n B B'/\Sx w0 F B' σ' w'/\Ags n a' E' D' B') a w
 | .call f args σ,.val v σ'=>(∃ fn,P.funcs[f]?=some fn/\fn.body.isNone=false)/\∀ (w0:World) (F:List Nat) (B:Nm) (w:World) (vs:List Value),Sx w0 F B σ w->Ym B args=some vs ->
   CallsIn (Wz none) 0 P f vs.toArray w fun e w'=>∃ x B',e=.returned x/\Gr σ.n σ'.n B B'/\den B' v=some x/\Sx w0 F B' σ' w'
 | .round b args σ,.val v σ'=>∀ (w0:World) (F:List Nat) (B:Nm) (w:World) (vs:List Value) (p:Nat × Nat),Sx w0 F B σ w->Ym B args=some vs->B b=some p ->
   ∃ f tmps x y,(Instr.yield p.1 vs.toArray).run P w=.ok (.round p.1 f tmps x y) w/\RoundIn (Wz none) 0 P p.1 f tmps x y w fun e w'=>∃ x B',e=.returned x/\Gr σ.n σ'.n B B'/\den B' v=some x/\Sx w0 F B' σ' w'
 | _,_=>False
def T3 (P:Program) (rec:Rec):Prop:=∀ t r,rec t=some r->Ok P t r
def Vh (P:Program):Prop:=∀ (f:Nat) (fn:Func),P.funcs[f]?=some fn->(fn.name=="runtime.NumGoroutine")=false
section
variable {P:Program} {n:Nat} {w0 w w':World} {F:List Nat} {B:Nm} {σ:St} {a:Act} {E:SE} {D:List SD} {o:Oper} {rec:Rec}
theorem Um {q:Option Rs} {v:SV} {τ:St} (h:valOf q=some (v,τ)):q=some (.val v τ):=by
 unfold valOf at h;split at h
 ·cases h;rfl
 ·cases h
/-! ### Operations in their order -/
theorem Y6 {all:Array Oper} {b:Bool} (ha:Ags n a E D B) (h:wants E all o.guard=some b):Region.wanted o (yielded all a.tmps)=b:=by
 unfold wants at h;unfold Region.wanted;split at h
 ·rename_i hg;cases h;rw [hg]
 ·rename_i j want hg
  rw [hg];simp only;cases hd:(all[j]?).bind (·.dst) with
  | none=>rw [hd] at h;cases h
  | some d =>
   rw [hd] at h;simp only at h;unfold yielded;rw [hd];simp only [Option.bind_some];unfold wantsV at h;split at h
   ·rename_i b' hs
    cases h;obtain ⟨x,hx,ht⟩:=ha.tm.2 d _ hs;have:=Xk hx;subst this;rw [ht];rfl
   ·rename_i l hs
    cases h;obtain ⟨x,hx,ht⟩:=ha.tm.2 d _ hs;obtain ⟨xs,_,e⟩:=De hx;rw [ht,e];rfl
   ·cases h
theorem W5 {v:SV} {x:Value} {d:Option Nat} {E':SE} (ha:Ags n a E D B) (hv:den B v=some x) (h:putD n E d v=some E'):Ags n (a.put d x) E' D B:=by
 cases d with
 | none=>cases h;exact ha
 | some d =>
  simp only [putD] at h;cases hb:Nat.blt d n with
  | false=>rw [hb] at h;cases h
  | true=>rw [hb] at h;cases h;exact ha.put hb hv
theorem W7 {r:OpR} (h:act P E σ o=some (.val r)):∀ c,o.op≠.defer c:=by
 intro c e;unfold act at h;rw [e] at h;simp only at h;unfold acDefer at h;split at h
 ·split at h<;>cases h
 ·cases h
theorem He {g:SV} {l:List SV} (h:act P E σ o=some (.call g l)):∃ x xs ts,o.op=.call ⟨.value x,xs,ts⟩/\sev E x=some g/\sargs E xs.toList=some l:=by
 have hof:∀ {q:Option OpR},Ar.of q=some (.call g l)->False:=by
  intro q hq;cases q<;>cases hq
 unfold act at h
 split at h<;>first
  | exact (hof h).elim
  |skip
 ·split at h
  ·exact (hof h).elim
  ·cases h
 ·split at h
  ·exact (hof h).elim
  ·cases h
 ·rename_i c ho
  obtain ⟨callee,xs,ts⟩:=c;cases callee with
  | value x =>
   simp only [acCall] at h;split at h
   ·rename_i v m hx hm
    cases h;exact ⟨x,xs,ts,ho,hx,hm⟩
   ·cases h
  | invoke _ _=>cases h
  | builtin b=>exact (hof h).elim
 ·unfold acDefer at h;split at h
  ·split at h<;>cases h
  ·cases h
 ·cases h
theorem act_dfr {d:SD} (h:act P E σ o=some (.dfr d)):∃ x xs ts f c,o.op=.defer ⟨.value x,xs,ts⟩/\xs.toList=[]/\sev E x=some (.fn f [] c)/\d=.clo f c:=by
 have hof:∀ {q:Option OpR},Ar.of q=some (.dfr d)->False:=by
  intro q hq;cases q<;>cases hq
 unfold act at h
 split at h<;>first
  | exact (hof h).elim
  |skip
 ·split at h
  ·exact (hof h).elim
  ·cases h
 ·split at h
  ·exact (hof h).elim
  ·cases h
 ·rename_i c ho
  obtain ⟨callee,xs,ts⟩:=c;cases callee with
  | value x =>
   simp only [acCall] at h;split at h<;>cases h
  | invoke _ _=>cases h
  | builtin b=>exact (hof h).elim
 ·rename_i c ho
  obtain ⟨callee,xs,ts⟩:=c;cases callee with
  | value x =>
   simp only [acDefer] at h;split at h
   ·rename_i f c hx hxs
    cases h;exact ⟨x,xs,ts,f,c,ho,hxs,hx,J⟩
   ·cases h
  | _=>cases h
 ·cases h
/-- A value is C9 where it belongs. -/
theorem Oq {r:OpR} {v:SV} {n0:Nat} {τ:St} (hok:Wx P w0 F B a w o r) (h:lodge n0 r=some (v,τ)):∃ x w' B',((execOp a.eval o).run P w=.ok (.value x) w'\/(x=undef/\(execOp a.eval o).run P w=.ok .skip w'))/\Gr n0 τ.n B B'/\den B' v=some x/\Sx w0 F B' τ w':=by
 obtain ⟨ρ,sb,f⟩:=r;cases sb with
 | none =>
  simp only [lodge] at h;cases hb:Nat.ble n0 ρ.n with
  | false=>rw [hb] at h;cases h
  | true =>
   rw [hb] at h;cases h;obtain ⟨x,w',hr,hd,hs⟩:=hok;exact ⟨x,w',B,hr,⟨Pre.refl B,Nat.le_of_ble_eq_true hb,fun _ _=>J⟩,hd,hs⟩
 | some sb =>
  simp only [lodge] at h;cases hb:Nat.ble n0 ρ.n&&Nat.blt ρ.n 15999 with
  | false=>rw [hb] at h;cases h
  | true =>
   rw [hb] at h;cases h;rw [Bool.and_eq_true] at hb;have hle:=Nat.le_of_ble_eq_true hb.1;have hlt:ρ.n<15999:=by simpa using hb.2
   obtain ⟨x,w',p,hr,hs,hnew,hF,hne⟩:=hok;have hB:B ρ.n=none:=(hs.new ρ.n (Nat.le_refl _)).1 (by unfold lim;omega);obtain ⟨h1,h2⟩:=hnew ρ.n hB;have he:=hs.ext 1 (by unfold lim;omega);refine ⟨x,w',upd B ρ.n p,.inl hr,⟨Pre.upd hB p,by show n0<=ρ.n+1;omega,fun i hi=>by unfold upd;rw [if_neg (by unfold Lo lim at hi;omega)]⟩,h2,he.lay (by show ρ.n<ρ.n+1;omega) hB h1 hF hne⟩
theorem Qq {x:Operand} {xs:Array Operand} {ts:Array TypeId} {f:Nat} {u v:List Value} (hng:Vh P) (hf:∃ fn,P.funcs[f]?=some fn/\fn.body.isNone=false) (ho:o.op=.call ⟨.value x,xs,ts⟩) (hx:a.eval x=.func (.func f) u.toArray v.toArray) :
  (execOp a.eval o).run P w=.ok (.enter f (u++xs.toList.map a.eval++v).toArray) w:=by
 obtain ⟨fn,hfn,hb⟩:=hf;have hn:=hng f fn hfn;simp only [execOp,ho,resolve,hx,Deferred.ofValue,Sem.run_bind,Sem.run_pure,Result.andThen_ok,invoke,callFunc];have hp:(program:Sem Program).run P w=.ok P w:=rfl;rw [hp];simp only [Result.andThen_ok,hfn,hn,hb,Bool.false_eq_true,if_false,Sem.run_pure];rw [<- C5];simp
theorem Sc (hng:Vh P) (hrec:T3 P rec) {l:Option Nat} {ro:Bool} (hro:l.isSome=ro) {all:Array Oper} {Q:Exit->Act->World->Prop}:∀ (L:List Oper) {E:SE} {D:List SD} {σ:St} {E':SE} {D':List SD} {σ':St} {B:Nm} {a:Act} {w:World},
  opers P rec ro n all L E D σ=some (E',D',σ')->(∀ B' a' w',Gr σ.n σ'.n B B'->Sx w0 F B' σ' w'->Ags n a' E' D' B'->Q .normal a' w')->Sx w0 F B σ w->Ags n a E D B->wpListIn (Wz l) 0 P all Q L a w
 | [],E,D,σ,E',D',σ',B,a,w,h,hQ,hs,ha=>by
  rw [Cs] at h;cases h;exact hQ B a w (Gr.refl _ B) hs ha
 | o::L,E,D,σ,E',D',σ',B,a,w,h,hQ,hs,ha=>by
  rw [Gf] at h;unfold opers1 at h;cases hw:wants E all o.guard with
  | none=>rw [hw] at h;cases h
  | some b =>
   rw [hw] at h;have hwant:=Y6 ha hw;simp only [wpListIn,hwant];cases b with
   | false =>
    simp only at h;cases hp:putD n E o.dst (.tup []) with
    | none=>rw [hp] at h;cases h
    | some E1 =>
     rw [hp] at h;simp only [Option.bind_some] at h;refine ⟨fun _ _=>trivial,?_⟩;exact Sc hng hrec hro L h hQ hs (W5 ha (v:=.tup []) (x:=undef) J hp)
   | true =>
    simp only [if_true] at h ⊢;refine ⟨fun _ _=>trivial,?_⟩;cases hac:act P E σ o with
    | none=>rw [hac] at h;cases h
    | some r =>
     rw [hac] at h;cases r with
     | val r =>
      rw [Oper.semAt_eq _ _ _ (W7 hac)];simp only [opersK] at h;cases hl:lodge σ.n r with
      | none=>rw [hl] at h;cases h
      | some q =>
       obtain ⟨v,τ⟩:=q;rw [hl] at h;simp only at h;cases hp:putD n E o.dst v with
       | none=>rw [hp] at h;cases h
       | some E1 =>
        rw [hp] at h;simp only [Option.bind_some] at h;obtain ⟨x,w1,B1,hr,hpre,hd,hs1⟩:=Oq (U7 hs ha hac) hl;have hgo:=Sc hng hrec hro L h (fun B' a' w' hp'=>hQ B' a' w' (hpre.trans hp')) hs1 (W5 (ha.mono hpre.1) hd hp);rcases hr with hr | ⟨rfl,hr⟩
        ·rw [hr];exact hgo
        ·rw [hr];exact hgo
     | call g m =>
      obtain ⟨x,xs,ts,ho,hx,hxs⟩:=He hac;rw [Oper.semAt_eq _ _ _ (fun c e=>by rw [ho] at e;cases e)];simp only [opersK] at h;cases hcv:callV rec σ m g with
      | none=>rw [hcv] at h;cases h
      | some q =>
       obtain ⟨v,τ⟩:=q;rw [hcv] at h;simp only at h;cases hp:putD n E o.dst v with
       | none=>rw [hp] at h;cases h
       | some E1 =>
        rw [hp] at h;simp only [Option.bind_some] at h;have he:=ha.eval hx;have hm:=Ug ha hxs
        have hgo:∀ (y:Value) (B1:Nm) (w1:World),Gr σ.n τ.n B B1->den B1 v=some y->Sx w0 F B1 τ w1->wpListIn (Wz l) 0 P all Q L (a.put o.dst y) w1:=fun y B1 w1 hpre hd hs1 =>
         Sc hng hrec hro L h (fun B' a' w' hp'=>hQ B' a' w' (hpre.trans hp')) hs1 (W5 (ha.mono hpre.1) hd hp)
        unfold callV at hcv;split at hcv
        ·rename_i f u c
         have hr:=hrec _ _ (Um hcv);obtain ⟨us,vs,hus,hvs,hfe⟩:=Uu he;rw [Qq hng hr.1 ho hfe];refine ⟨fun h=>(by cases h),?_⟩;refine CallsIn.mono (hr.2 w0 F B w _ hs (Y8 (Y8 hus hm) hvs)) ?_;rintro e w1 ⟨y,B1,rfl,hpre,hd,hs1⟩;exact hgo y B1 w1 hpre hd hs1
        ·rename_i b
         have hr:=hrec _ _ (Um hcv);have he':=he;simp only [den,Option.map_eq_some_iff] at he';obtain ⟨p,hp',hfe⟩:=he';obtain ⟨f,tmps,cx,cy,hy,hround⟩:=hr w0 F B w _ p hs hm hp'
         have hrun:(execOp a.eval o).run P w=(Instr.yield p.1 (xs.map a.eval)).run P w:=by
          simp [execOp,ho,resolve,Deferred.ofValue,<- hfe,invoke]
         rw [hrun,<- C5,hy];refine ⟨fun h=>(by cases h),?_⟩;refine RoundIn.mono (show RoundIn (Wz l) (0 - 1) P p.1 f tmps cx cy w _ from hround) ?_;rintro e w1 ⟨y,B1,rfl,hpre,hd,hs1⟩;exact hgo y B1 w1 hpre hd hs1
        ·cases hcv
     | dfr d =>
      simp only [opersK] at h;cases ro with
      | true=>cases h
      | false =>
       simp only [cond_false] at h;cases hp:putD n E o.dst (.tup []) with
       | none=>rw [hp] at h;cases h
       | some E1 =>
        rw [hp] at h;simp only [Option.bind_some] at h;obtain ⟨x,xs,ts,f,c,ho,hxs,hx,rfl⟩:=act_dfr hac
        have hl:l=none:=by
         cases l with
         | none=>rfl
         | some _=>cases hro
        subst hl;obtain ⟨us,vs,hus,hvs,hfe⟩:=Uu (ha.eval hx);simp only [Ym] at hus;cases hus;have hxs':xs=#[]:=by rw [<- Array.toArray_toList (xs:=xs),hxs]
        have hrun:(o.semAt (Wz none).round a.eval).run P w=.ok (.defer { target:=.fn (.func f) vs.toArray,args:=#[] }) w:=by
         show (Oper.semAt none a.eval o).run P w=_;rw [Oper.semAt_none];simp [execOp,ho,resolve,hfe,Deferred.ofValue,hxs']
        rw [hrun];have ha':Ags n { a with defers:={ target:=.fn (.func f) vs.toArray,args:=#[] }::a.defers } E (.clo f c::D) B:=⟨ha.tm,Vl.2 ⟨_,_,by simp [Rh,hvs],ha.df,rfl⟩⟩;exact Sc hng hrec hro L h hQ hs (W5 ha' (v:=.tup []) (x:=undef) J hp)
end
end S
namespace S
open Go Go.RowKit E
/-- A function that lays what was recovered (nothing) into a variable. -/
def Fu (P:Program) (dc:FuncId->Bool):Prop:=∀ f,dc f=true->(∃ fn,P.funcs[f]?=some fn/\fn.body.isNone=false)/\∀ (w:World) (b k:Nat) (cs:List Value) (t:TypeId),w.heap[b]?=some (.cells cs.toArray t (0,0))->k<cs.length ->
 CallsDIn (Wz none) 0 P f #[.pointer (some ⟨b,k,none⟩)] .returning w fun e u w'=>(∃ v,e=.returned v)/\u=.returning/\w'=w.setRow b (put cs k [.nilIface]).toArray
/-- A region whose order is drawn. -/
def DrOk (P:Program) (draw:Bool->Ft):Prop:=∀ (ro:Bool) (n id:Nat) (ops:Array Oper) (E:SE) (D:List SD) (σ:St) (E':SE) (D':List SD) (σ':St),draw ro n ops E D σ=some (E',D',σ')->Ok P (.code ro n (.region id ops true) E D σ) (.code .normal E' D' σ')
def XOk (P:Program) (X:Ext):Prop:=∀ f g args σ v σ',X f=some g->g args σ=some (v,σ')->Ok P (.call f args σ) (.val v σ')
section
variable {P:Program} {n:Nat} {w0 w w':World} {F:List Nat} {B:Nm} {σ:St} {a:Act} {E:SE} {D:List SD} {o:Oper} {rec:Rec}
theorem S3 {ro:Bool} {c:Code} {r:Rs} (h:Ok P (.code ro n c E D σ) r):∃ e E' D' σ',r=.code e E' D' σ':=by
 cases r with
 | code e E' D' σ'=>exact ⟨e,E',D',σ',rfl⟩
 | val v σ'=>exact h.elim
theorem ok_val {f:FuncId} {args:List SV} {r:Rs} (h:Ok P (.call f args σ) r):∃ v σ',r=.val v σ':=by
 cases r with
 | code e E' D' σ'=>exact h.elim
 | val v σ'=>exact ⟨v,σ',rfl⟩
theorem Zak {ro:Bool} {x y:Code} {r:Rs} (hrec:T3 P rec) (h:seqK (fun E D σ=>rec (.code ro n y E D σ)) (rec (.code ro n x E D σ))=some r)
  (c:Code) (hc:∀ (l:Option Nat) (Q:Exit->Act->World->Prop) (a:Act) (w:World),(∀ e a w,Q e a w->∃ z,e=xt z)->x.wpIn (Wz l) 0 P (Exit.then (y.wpIn (Wz l) 0 P Q) Q) a w->c.wpIn (Wz l) 0 P Q a w):Ok P (.code ro n c E D σ) r:=by
 cases h1:rec (.code ro n x E D σ) with
 | none=>rw [h1] at h;cases h
 | some r1 =>
  rw [h1] at h;have k1:=hrec _ _ h1;obtain ⟨e1,E1,D1,σ1,rfl⟩:=S3 k1;cases e1 with
  | normal =>
   simp only [seqK] at h;have k2:=hrec _ _ h;obtain ⟨e2,E2,D2,σ2,rfl⟩:=S3 k2;intro l w0 F B w a hl hs ha;refine hc l _ a w (fun _ _ _ hq=>⟨_,hq.1⟩) (wpIn_mono (k1 l w0 F B w a hl hs ha) ?_);rintro e a1 w1 ⟨rfl,B1,hp1,hs1,ha1⟩;refine wpIn_mono (k2 l w0 F B1 w1 a1 hl hs1 ha1) ?_;rintro e a2 w2 ⟨he,B2,hp2,hs2,ha2⟩;exact ⟨he,B2,hp1.trans hp2,hs2,ha2⟩
  | exit id =>
   simp only [seqK] at h;cases h;intro l w0 F B w a hl hs ha;refine hc l _ a w (fun _ _ _ hq=>⟨_,hq.1⟩) (wpIn_mono (k1 l w0 F B w a hl hs ha) ?_);rintro e a1 w1 ⟨rfl,h1⟩;exact ⟨J,h1⟩
  | ret =>
   simp only [seqK] at h;cases h;intro l w0 F B w a hl hs ha;refine hc l _ a w (fun _ _ _ hq=>⟨_,hq.1⟩) (wpIn_mono (k1 l w0 F B w a hl hs ha) ?_);rintro e a1 w1 ⟨rfl,h1⟩;exact ⟨J,h1⟩
theorem O2 {id:Nat}:∀ {k k':List Item},exitTo id k=some k'->k'.length<=k.length
 | [],k',h=>by simp [exitTo] at h
 | x::k,k',h=>by
  cases x with
  | inBlock i =>
   simp only [exitTo] at h;split at h
   ·cases h;simp
   ·have:=O2 h;simp;omega
  | _=>simp only [exitTo] at h;have:=O2 h;simp;omega
theorem V1 {I:Machine->Prop} {m1 m2 m' T:Machine} (h1:I m1) (s1:step P m1=.next m') (s2:step P m2=.next m') (hne:m2≠T) (h:StepsIn I P m2 T):StepsIn I P m1 T:=by
 cases h with
 | refl=>exact absurd rfl hne
 | head hI hs h' =>
  rw [s2] at hs;cases hs;exact .head h1 s1 h'
theorem S4 {b b':Frame} {a a':Act} {k k':List Item} {cs:List Frame} {w w':World} (h:lone (b.atR a k) cs w=lone (b'.atR a' k') cs w'):k=k':=by
 simp only [lone,Machine.mk.injEq] at h;have h2:=h.2.1;simp only [Array.mk.injEq,List.cons.injEq,Goroutine.mk.injEq,Frame.atR,Frame.mk.injEq] at h2;exact h2.1.1.2.2.1
theorem C7 {b:Frame} {a a':Act} {k k':List Item} {cs:List Frame} {w w':World}:lone (b.atR a k) cs w≠lone { b.atR a' k' with mode:=.returning } cs w':=by
 intro h;simp only [lone,Machine.mk.injEq] at h;have h2:=h.2.1;simp only [Array.mk.injEq,List.cons.injEq,Goroutine.mk.injEq,Frame.atR,Frame.mk.injEq] at h2;exact (by have:=h2.1.1.2.2.2.2.1;cases this)
theorem K5 {l:Option Nat} {x:Code} {b:Frame} {a1 a':Act} {k:List Item} {cs:List Frame} {w1 w':World} {z:Xt} (h1:(lone (b.atR a1 (.inLoop x::k)) cs w1).fenced P (Wz l))
  (h:ArrivesIn (Machine.fenced P (Wz l)) P (lone (b.atR a1 (.code (.loop x)::k)) cs w1) b k cs (xt z) a' w'):ArrivesIn (Machine.fenced P (Wz l)) P (lone (b.atR a1 (.inLoop x::k)) cs w1) b k cs (xt z) a' w':=by
 have s1:step P (lone (b.atR a1 (.inLoop x::k)) cs w1)=.next (lone (b.atR a1 (.code x::.inLoop x::k)) cs w1):=stepR_inLoop;have s2:step P (lone (b.atR a1 (.code (.loop x)::k)) cs w1)=.next (lone (b.atR a1 (.code x::.inLoop x::k)) cs w1):=stepR_loop;cases z with
 | normal=>exact V1 h1 s1 s2 (fun e=>by have:=congrArg List.length (S4 e);simp at this) h
 | exit id =>
  refine ⟨fun k' hk=>V1 h1 s1 s2 (fun e=>?_) (h.1 k' hk),fun hr hn=>?_⟩
  ·have e1:=congrArg List.length (S4 e);have:=O2 hk;simp at e1;omega
  ·obtain ⟨k₁,hk,hs⟩:=h.2 hr hn;exact ⟨k₁,hk,V1 h1 s1 s2 (fun e=>by have:=S4 e;cases this) hs⟩
 | ret =>
  refine ⟨fun hr=>?_,fun hr=>?_⟩
  ·obtain ⟨todo,hs⟩:=h.1 hr;exact ⟨todo,V1 h1 s1 s2 (fun e=>C7 e) hs⟩
  ·obtain ⟨k₁,hs⟩:=h.2 hr;exact ⟨k₁,V1 h1 s1 s2 (fun e=>by have:=S4 e;cases this) hs⟩
theorem Mf {l:Option Nat} {x:Code} {Q:Exit->Act->World->Prop} {a:Act} {w:World} (hQ:∀ e a w,Q e a w->∃ z,e=xt z) (h:x.wpIn (Wz l) 0 P (Exit.then ((Code.loop x).wpIn (Wz l) 0 P Q) Q) a w):(Code.loop x).wpIn (Wz l) 0 P Q a w:=by
 intro b k cs hro hb hr;obtain ⟨e,a₁,w₁,hq,harr⟩:=h b (.inLoop x::k) cs hro hb hr;have s0:StepsIn (Machine.fenced P (Wz l)) P (lone (b.atR a (.code (.loop x)::k)) cs w) (lone (b.atR a (.code x::.inLoop x::k)) cs w):=.one (fenced_calm hb hr rfl) stepR_loop;cases e with
 | normal =>
  obtain ⟨e₂,a₂,w₂,hq₂,harr₂⟩:=hq b k cs hro hb hr;refine ⟨e₂,a₂,w₂,hq₂,.of_steps (s0.trans harr) ?_⟩;obtain ⟨z,rfl⟩:=hQ _ _ _ hq₂;exact K5 (fenced_calm (fr:=b.atR a₁ (.inLoop x::k)) hb hr J) harr₂
 | exit id=>exact ⟨_,a₁,w₁,hq,.of_steps s0 (.pass (x:=.inLoop x) rfl (fun _ _=>.inl (by simp)) harr)⟩
 | goto l=>exact ⟨_,a₁,w₁,hq,.of_steps s0 (.pass (x:=.inLoop x) rfl (fun _ _=>.inl (by simp)) harr)⟩
 | ret=>exact ⟨_,a₁,w₁,hq,.of_steps s0 (.pass (x:=.inLoop x) rfl (fun _ _=>.inl (by simp)) harr)⟩
 | panic ch=>exact ⟨_,a₁,w₁,hq,.of_steps s0 (.pass (x:=.inLoop x) rfl (fun _ _=>.inl (by simp)) harr)⟩
 | outgrown=>exact ⟨_,a₁,w₁,hq,.of_steps s0 (.pass (x:=.inLoop x) rfl (fun _ _=>.inl (by simp)) harr)⟩
end
end S
namespace S
open Go Go.RowKit E
section
variable {P:Program} {n:Nat} {w0 w w':World} {F:List Nat} {B:Nm} {σ:St} {a:Act} {E:SE} {D:List SD} {o:Oper} {rec:Rec}
theorem Sx.loopAt (hs:Sx w0 F B σ w) {b:Nat} {st:LoopState} {pd:Option Code} {E0:SE} {n0:Nat} {ps:Array Tmp} {x y:Code} {p:Nat × Nat} (hb:σ.get b=some (.loop st pd E0 n0 ps x y)) (hp:B b=some p) :
  ∃ r:Loop,w.heap[p.1]?=some (.loop r)/\r.state=st/\r.pending=pd/\Tm B E0 n0 r.tmps/\r.params=ps/\r.assign=x/\r.body=y:=by
 obtain ⟨q,hq,hk,_⟩:=hs.own b _ hb;rw [hp] at hq;cases hq;exact hk
theorem Mm (w:World) (b:Nat) (o:Obj):w.grownBy (w.putObj b o) (some b):=⟨rfl,rfl,rfl,by rw [World.putObj_size];exact Nat.le_refl _,fun k _ hk=>World.putObj_heap_other (fun e=>hk (by rw [e]))⟩
/-! ### Rounds -/
theorem Jy:∀ {ps:List Tmp} {args:List SV} {vs:List Value} {E E':SE} {t:Array Value},putPs n ps args E=some E'->Ym B args=some vs->Tm B E n t->vs.length=ps.length/\Tm B E' n ((ps.zip vs).foldl (fun tmps (x:Tmp × Value)=>tmps.setIfInBounds x.1 x.2) t)
 | [],[],vs,E,E',t,h,hd,ht=>by
  simp only [Ym] at hd;cases hd;simp only [putPs] at h;cases h;exact ⟨J,ht⟩
 | [],_::_,vs,E,E',t,h,hd,ht=>by simp [putPs] at h
 | _::_,[],vs,E,E',t,h,hd,ht=>by simp [putPs] at h
 | p::ps,v::args,vs,E,E',t,h,hd,ht=>by
  obtain ⟨x,xs,hx,hxs,rfl⟩:=Y5.1 hd;simp only [putPs] at h;cases hb:Nat.blt p n with
  | false=>rw [hb] at h;cases h
  | true =>
   rw [hb] at h;have:=Jy h hxs (ht.put hb hx);exact ⟨by simp [this.1],by simpa using this.2⟩
theorem R9 {b:Nat} {st:LoopState} {pd:Option Code} {q:Option SB} {τ:St} (h:setLoop σ b st pd q=some τ):∃ st0 pd0 E0 n0 ps x y,q=some (.loop st0 pd0 E0 n0 ps x y)/\τ=σ.set b (some (.loop st pd E0 n0 ps x y)):=by
 unfold setLoop at h;split at h
 ·cases h;exact ⟨_,_,_,_,_,_,_,J,J⟩
 ·cases h
theorem Cj {b:Nat} {st:LoopState} {pd:Option Code} {q:Option SB} {τ:St} (h:setLoop σ b st pd q=some τ):τ.n=σ.n:=by
 obtain ⟨_,_,_,_,_,_,_,_,rfl⟩:=R9 h;rfl
theorem Zaj {b:Nat} {st:LoopState} {pd:Option Code} {τ:St} {p:Nat × Nat} (hs:Sx w0 F B σ w) (hp:B b=some p) (h:setLoop σ b st pd (σ.get b)=some τ) (jump:Option Code) (hst:st=if jump.isNone then .ready else .done) (hpd:pd=jump) :
  ∃ w',(Instr.endRound p.1 jump).run P w=.ok (.bool jump.isNone) w'/\Sx w0 F B τ w':=by
 obtain ⟨st0,pd0,E0,n0,ps,x,y,hg,rfl⟩:=R9 h;obtain ⟨r,hr,h1,h2,h3,h4,h5,h6⟩:=hs.loopAt hg hp;refine ⟨_,run_endRound jump hr,hs.putObj hg hp _ _ ?_⟩;exact ⟨_,J,by rw [hst],by rw [hpd],h3,h4,h5,h6⟩
theorem Zau (hrec:T3 P rec) {b:Nat} {args:List SV} {r:Rs} (h:stepRound rec b args σ=some r):Ok P (.round b args σ) r:=by
 unfold stepRound at h;split at h
 ·rename_i pd E0 n0 ps x y hb
  split at h
  ·rename_i E1 hE1
   unfold beginK at h;split at h
   ·rename_i E2 σ1 h1
    split at h
    ·rename_i pd1 E01 n01 ps1 x1 y1 hb1
     have k1:=hrec _ _ h1;unfold endK at h
     have key:∀ (e:Xt) (E3:SE) (σ2 τ:St) (q:Bool) (st:LoopState) (jump:Option Code),rec (.code true n0 y E2 [] (σ1.set b (some (.loop .busy pd1 E01 n01 ps1 x1 y1))))=some (.code e E3 [] σ2)->setLoop σ2 b st jump (σ2.get b)=some τ ->
       st=(if jump.isNone then .ready else .done)->q=jump.isNone->(e=.normal/\jump=none\/e=.ret/\jump=some .ret\/∃ id,e=.exit id/\jump=some (.exit id))->Ok P (.round b args σ) (.val (.v (.bool q)) τ):=by
      intro e E3 σ2 τ q st jump h2 h3 hst hq hej;have k2:=hrec _ _ h2;intro w0 F B w vs p hs hd hp;obtain ⟨rl,hr,hst0,_,htm,hps,hx,hy⟩:=hs.loopAt hb hp;obtain ⟨hlen,htm1⟩:=Jy hE1 hd htm;subst hx;subst hy;subst hps;have hsz:vs.toArray.size=rl.params.size:=by simpa using hlen
      refine ⟨_,_,_,_,run_yield hr hsz,?_⟩;refine roundIn_of_wpIn trivial ?_
      have htm2:Tm B E1 n0 ((rl.params.zip vs.toArray).foldl (fun tmps (t,a)=>tmps.setIfInBounds t a) rl.tmps):=by
       rw [<- Array.foldl_toList]
       simpa using htm1
      refine wpIn_mono (k1 (some p.1) w0 F B w { tmps:=_,defers:=[] } J hs ⟨htm2,J⟩) ?_;rintro e1 a1 w1 ⟨rfl,B1,hp1,hs1,ha1⟩;have hpb1:=hp1.1 b p hp;obtain ⟨r1,hr1,hst1,hpd1,htm1',hps1,hx1,hy1⟩:=hs1.loopAt hb1 hpb1;refine ⟨_,run_beginRound hr1 hst1,?_⟩;have hs2:Sx w0 F B1 (σ1.set b (some (.loop .busy pd1 E01 n01 ps1 x1 y1))) (w1.putObj p.1 (.loop { r1 with state:=.busy })):=hs1.putObj hb1 hpb1 _ _ ⟨_,rfl,rfl,hpd1,htm1',hps1,hx1,hy1⟩;refine wpIn_mono (k2 (some p.1) w0 F B1 _ a1 J hs2 ha1) ?_;rintro e2 a2 w2 ⟨rfl,B2,hp2,hs3,ha2⟩;obtain ⟨w3,hend,hs4⟩:=Zaj (P:=P) hs3 (hp2.1 b p hpb1) h3 jump hst rfl;have hfin:∃ v w',(Instr.endRound p.1 jump).run P w2=.ok v w'/\∃ x B',Ending.returned v=.returned x/\Gr σ.n τ.n B B'/\den B' (.v (.bool q))=some x/\Sx w0 F B' τ w':=⟨_,w3,hend,_,B2,rfl,by rw [Cj h3];exact hp1.trans hp2,by rw [hq];rfl,hs4⟩;rcases hej with ⟨rfl,rfl⟩ | ⟨rfl,rfl⟩ | ⟨id,rfl,rfl⟩<;>exact hfin
     split at h
     ·rename_i E3 σ2 h2
      cases h3:setLoop σ2 b .ready none (σ2.get b) with
      | none=>rw [h3] at h;cases h
      | some τ=>rw [h3] at h;cases h;exact key .normal E3 σ2 τ true .ready none h2 h3 J J (.inl ⟨J,J⟩)
     ·rename_i E3 σ2 h2
      cases h3:setLoop σ2 b .done (some .ret) (σ2.get b) with
      | none=>rw [h3] at h;cases h
      | some τ=>rw [h3] at h;cases h;exact key .ret E3 σ2 τ false .done (some .ret) h2 h3 J J (.inr (.inl ⟨J,J⟩))
     ·rename_i id E3 σ2 h2
      cases h3:setLoop σ2 b .done (some (.exit id)) (σ2.get b) with
      | none=>rw [h3] at h;cases h
      | some τ=>rw [h3] at h;cases h;exact key (.exit id) E3 σ2 τ false .done (some (.exit id)) h2 h3 J J (.inr (.inr ⟨id,J,J⟩))
     ·cases h
    ·cases h
   ·cases h
  ·cases h
 ·cases h
/-! ### Ranges over functions -/
theorem Zaz (hng:Vh P) (hrec:T3 P rec) {g:Operand} {ps:Array Tmp} {x y:Code} {r:Rs} (h:rangeS rec n ps x y E D σ (sev E g)=some r):Ok P (.code false n (.rangeFunc g ps x y) E D σ) r:=by
 unfold rangeS at h;split at h
 ·rename_i f u c hg
  cases hb:Nat.blt σ.n 15998 with
  | false=>rw [hb] at h;cases h
  | true =>
   rw [hb] at h;simp only [cond_true] at h;have hlt:σ.n<15998:=by simpa using hb
   split at h
   ·rename_i v σ' hcall
    have k1:=hrec _ _ (Um hcall)
    have key:∀ (r':Rs) (st:LoopState) (pd:Option Code) (E0:SE) (n0:Nat) (ps0:Array Tmp) (x0 y0:Code),σ'.get (σ.n+1)=some (.loop st pd E0 n0 ps0 x0 y0)->st≠.busy->pendK rec n E (.mark σ.n::D) (σ'.set (σ.n+1) none) pd=some r'->Ok P (.code false n (.rangeFunc g ps x y) E D σ) r':=by
     intro r' st pd E0 n0 ps0 x0 y0 hl hst hpend
     have hr':∃ e E2 D2 σ2,r'=.code e E2 D2 σ2:=by
      cases pd with
      | none=>cases hpend;exact ⟨_,_,_,_,J⟩
      | some cc=>exact S3 (hrec _ _ hpend)
     obtain ⟨e,E2,D2,σ2,rfl⟩:=hr';intro l w0 F B w a hro hs ha
     have hl0:l=none:=by
      cases l with
      | none=>rfl
      | some _=>cases hro
     subst hl0;obtain ⟨us,vs,hus,hvs,hfe⟩:=Uu (ha.eval hg);refine wpIn_rangeFunc fun fn _=>?_;have hB0:B σ.n=none:=(hs.new σ.n (Nat.le_refl _)).1 (by unfold lim;omega);have he:=hs.ext 2 (by unfold lim;omega);have s1:=he.alloc (r:=σ.n) (by show σ.n<σ.n+2;omega) hB0 (.deferred (some [])) 0 .defd rfl;have hB1:upd B σ.n (w.heap.size,0) (σ.n+1)=none:=by unfold upd;rw [if_neg (by omega)];exact (hs.new (σ.n+1) (by omega)).1 (by unfold lim;omega)
     have hpre1:Pre B (upd B σ.n (w.heap.size,0)):=Pre.upd hB0 _;have hsz1:(w.alloc (.deferred (some []))).heap.size=w.heap.size+1:=World.size_alloc ..
     have s2:=s1.alloc (r:=σ.n+1) (by show σ.n+1<σ.n+2;omega) hB1 (.loop { state:=.ready,pending:=none,fn,tmps:=a.tmps,params:=ps,assign:=x,body:=y,defers:=w.heap.size }) 0 (.loop .ready none E n ps x y)
      ⟨_,rfl,rfl,rfl,ha.tm.mono (hpre1.trans (Pre.upd hB1 _)),rfl,rfl,rfl⟩
     rw [hsz1] at s2;have hpre2:Pre B (upd (upd B σ.n (w.heap.size,0)) (σ.n+1) (w.heap.size+1,0)):=hpre1.trans (Pre.upd hB1 _);have hen:=run_enterLoop_outer (P:=P) (w:=w) fn a.tmps ps x y;generalize (w.alloc (.deferred (some []))).alloc (.loop { state:=.ready,pending:=none,fn,tmps:=a.tmps,params:=ps,assign:=x,body:=y,defers:=w.heap.size })=W at s2 hen;refine ⟨w.heap.size+1,[{ target:=.collected w.heap.size,args:=#[] }],W,{ target:=.fn (.func f) vs.toArray,args:=(us++[Value.func (.yield (w.heap.size+1)) #[] #[]]).toArray },W,f,(us++[Value.func (.yield (w.heap.size+1)) #[] #[]]++vs).toArray,W,hen,?_,fun _ _=>trivial,?_,fun h=>(by cases h),?_⟩
     ·simp only [resolve,rangeCall,hfe,Deferred.ofValue];simp;rfl
     ·obtain ⟨fn',hfn,hbody⟩:=k1.1;have hn:=hng f fn' hfn;have hp:(program:Sem Program).run P W=.ok P W:=rfl;simp only [invoke,callFunc,Sem.run_bind];rw [hp];simp only [Result.andThen_ok,hfn,hn,hbody,Bool.false_eq_true,if_false,Sem.run_pure];simp
     ·have hargs:Ym (upd (upd B σ.n (w.heap.size,0)) (σ.n+1) (w.heap.size+1,0)) (u++[.yd (σ.n+1)]++c)=some (us++[Value.func (.yield (w.heap.size+1)) #[] #[]]++vs) :=
       Y8 (Y8 (Y9 hpre2 _ _ hus) (by simp [Ym,den,X2])) (Y9 hpre2 _ _ hvs)
      refine CallsIn.mono (k1.2 w0 F _ _ _ s2 hargs) ?_;rintro e' w3 ⟨z,B3,rfl,hp3,hdz,hs3⟩;have hpl:B3 (σ.n+1)=some (w.heap.size+1,0):=hp3.1 _ _ (X2 ..);have hpm:B3 σ.n=some (w.heap.size,0):=hp3.1 _ _ (by unfold upd;rw [if_neg (by omega),if_pos rfl]);obtain ⟨rl,hrl,hst1,hpd1,_⟩:=hs3.loopAt hl hpl;refine ⟨_,_,run_endLoop hrl (by rw [hst1];exact hst),?_⟩;have hs4:Sx w0 F B3 (σ'.set (σ.n+1) none) (w3.putObj (w.heap.size+1) (.loop { rl with state:=.exhausted })):=hs3.loose hl hpl (Mm _ _ _);have hg2:Gr σ.n (σ.n+2) B (upd (upd B σ.n (w.heap.size,0)) (σ.n+1) (w.heap.size+1,0)):=⟨hpre2,by omega,fun i hi=>by unfold upd;rw [if_neg (by unfold Lo lim at hi;omega),if_neg (by unfold Lo lim at hi;omega)]⟩;have hg3:Gr σ.n σ'.n B B3:=hg2.trans hp3;have hpre3:Pre B B3:=hg3.1;have ha3:Ags n { a with defers:=[{ target:=.collected w.heap.size,args:=#[] }]++a.defers } E (.mark σ.n::D) B3:=⟨ha.tm.mono hpre3,Vl.2 ⟨_,_,by simp [Rh,hpm],Tt hpre3 _ _ ha.df,rfl⟩⟩;rw [hpd1] at hs4 ⊢;cases pd with
      | none =>
       cases hpend;exact ⟨J,B3,hg3,hs4,ha3⟩
      | some cc =>
       have k2:=hrec _ _ hpend;refine wpIn_mono (k2 none w0 F B3 _ _ J hs4 ha3) ?_;rintro e2 a2 w4 ⟨he2,B4,hp4,hs5,ha5⟩;exact ⟨he2,B4,hg3.trans hp4,hs5,ha5⟩
    unfold rangeK at h;split at h
    ·rename_i hl;exact key r .ready _ _ _ _ _ _ hl (by simp) h
    ·rename_i hl;exact key r .done _ _ _ _ _ _ hl (by simp) h
    ·cases h
   ·cases h
 ·cases h
/-! ### Statements -/
theorem code_ok (hng:Vh P) (hrec:T3 P rec) {draw:Bool->Ft} (hdraw:DrOk P draw) {ro:Bool} {c:Code} {r:Rs} (h:stepCode P rec (draw ro) ro n E D σ c=some r):Ok P (.code ro n c E D σ) r:=by
 cases c with
 | skip =>
  cases h;exact fun l w0 F B w a hl hs ha=>wpIn_skip ⟨J,B,Gr.refl _ B,hs,ha⟩
 | ret =>
  cases h;exact fun l w0 F B w a hl hs ha=>wpIn_ret ⟨J,B,Gr.refl _ B,hs,ha⟩
 | exit id =>
  cases h;exact fun l w0 F B w a hl hs ha=>wpIn_exit ⟨J,B,Gr.refl _ B,hs,ha⟩
 | seq x y=>exact Zak hrec h _ (fun l Q a w _ hx=>wpIn_seq hx)
 | loop x=>exact Zak hrec h _ (fun l Q a w hQ hx=>Mf hQ hx)
 | cond c x y =>
  simp only [stepCode] at h;unfold condK at h;split at h
  ·rename_i hc
   have k:=hrec _ _ h;obtain ⟨e,E',D',σ',rfl⟩:=S3 k;intro l w0 F B w a hl hs ha;exact wpIn_cond_true (Xk (ha.eval hc)) (k l w0 F B w a hl hs ha)
  ·rename_i hc
   have k:=hrec _ _ h;obtain ⟨e,E',D',σ',rfl⟩:=S3 k;intro l w0 F B w a hl hs ha;exact wpIn_cond_false (Xk (ha.eval hc)) (k l w0 F B w a hl hs ha)
  ·cases h
 | block id x =>
  simp only [stepCode] at h;cases h1:rec (.code ro n x E D σ) with
  | none=>rw [h1] at h;cases h
  | some r1 =>
   rw [h1] at h;have k:=hrec _ _ h1;obtain ⟨e,E',D',σ',rfl⟩:=S3 k;cases e with
   | normal =>
    simp only [blockK] at h;cases h;intro l w0 F B w a hl hs ha;refine wpIn_block (wpIn_mono (k l w0 F B w a hl hs ha) ?_);rintro e a1 w1 ⟨rfl,h1⟩;exact ⟨J,h1⟩
   | ret =>
    simp only [blockK] at h;cases h;intro l w0 F B w a hl hs ha;refine wpIn_block (wpIn_mono (k l w0 F B w a hl hs ha) ?_);rintro e a1 w1 ⟨rfl,h1⟩;exact ⟨J,h1⟩
   | exit i =>
    simp only [blockK] at h;cases hb:Nat.beq i id with
    | true =>
     rw [hb] at h;cases h;have hi:=Nat.eq_of_beq_eq_true hb;subst hi;intro l w0 F B w a hl hs ha;refine wpIn_block (wpIn_mono (k l w0 F B w a hl hs ha) ?_);rintro e a1 w1 ⟨rfl,h1⟩;simp only [xt,Exit.inBlock,if_true];exact ⟨trivial,h1⟩
    | false =>
     rw [hb] at h;cases h;have hi:i≠id:=fun e=>by rw [e,Nat.beq_refl] at hb;cases hb
     intro l w0 F B w a hl hs ha;refine wpIn_block (wpIn_mono (k l w0 F B w a hl hs ha) ?_);rintro e a1 w1 ⟨rfl,h1⟩;simp only [xt,Exit.inBlock,if_neg hi];exact ⟨trivial,h1⟩
 | region id ops dr =>
  simp only [stepCode] at h;cases dr with
  | true =>
   simp only [cond_true] at h;cases hd:draw ro n ops E D σ with
   | none=>rw [hd] at h;cases h
   | some q =>
    obtain ⟨E',D',σ'⟩:=q;rw [hd] at h;cases h;exact hdraw ro n id ops E D σ E' D' σ' hd
  | false =>
   simp only [cond_false] at h;cases hd:opers P rec ro n ops ops.toList E D σ with
   | none=>rw [hd] at h;cases h
   | some q =>
    obtain ⟨E',D',σ'⟩:=q;rw [hd] at h;cases h;intro l w0 F B w a hl hs ha;have:=wpIn_region_lit (id:=id) (Sc hng hrec hl (all:=ops) (Q:=fun e' a' w'=>e'=xt .normal/\∃ B',Gr σ.n σ'.n B B'/\Sx w0 F B' σ' w'/\Ags n a' E' D' B') ops.toList hd (fun B' a' w' hp hs' ha'=>⟨rfl,B',hp,hs',ha'⟩) hs ha |> fun h=>by simpa using h)
    simpa using this
 | rangeFunc g ps x y =>
  simp only [stepCode] at h;cases ro with
  | true=>cases h
  | false=>exact Zaz hng hrec h
 | _=>cases h
end
end S
namespace S
open Go Go.RowKit E
section
variable {P:Program} {n:Nat} {w0 w w':World} {F:List Nat} {B:Nm} {σ:St} {a:Act} {E:SE} {D:List SD} {o:Oper} {rec:Rec}
theorem Ot {dc:FuncId->Bool}:∀ {D:List SD} {σ σ':St},leaves dc D σ=some σ'->σ'.n=σ.n
 | [],σ,σ',h=>by simp only [leaves] at h;cases h;rfl
 | .mark b::D,σ,σ',h=>by
  simp only [leaves] at h;split at h
  ·exact Ot (σ:=σ.set b none) h
  ·cases h
 | .clo f c::D,σ,σ',h=>by
  simp only [leaves] at h;cases hf:dc f with
  | false=>rw [hf] at h;cases h
  | true =>
   rw [hf] at h;simp only [cond_true] at h;split at h
   ·split at h
    ·rename_i b k _ l hb
     cases hk:Nat.blt k l.length with
     | false=>rw [hk] at h;cases h
     | true =>
      rw [hk] at h;exact Ot (σ:=σ.set b (some (.cells (sput l k [.v .nilIface])))) h
    ·cases h
   ·cases h
theorem Uh {dc:FuncId->Bool} (hng:Vh P) (hdc:Fu P dc) {fn:Func} {tmps:Array Value} {R:Ending->World->Prop}:∀ (D:List SD) {σ σ':St} {w:World} {ds:List Deferred},leaves dc D σ=some σ'->Sx w0 F B σ w->W8 B D=some ds ->
  (∀ w',Sx w0 F B σ' w'->LeavesIn (Wz none) 0 P fn tmps R [] .returning w')->LeavesInM (Wz none) 0 P fn tmps R ds .returning w
 | [],σ,σ',w,ds,h,hs,hd,hR=>by
  simp only [leaves] at h;cases h;simp only [W8] at hd;cases hd;exact hR w hs
 | .mark b::D,σ,σ',w,ds,h,hs,hd,hR=>by
  obtain ⟨d,ds',hd1,hd2,rfl⟩:=Vl.1 hd;simp only [leaves] at h;split at h
  ·rename_i hb
   simp only [Rh,Option.map_eq_some_iff] at hd1;obtain ⟨p,hp,rfl⟩:=hd1;obtain ⟨q,hq,hk,_⟩:=hs.own b _ hb;rw [hp] at hq;cases hq;have hob:w.heap[p.1]?=some (.deferred (some [])):=hk;refine ⟨by simp,.inl ⟨p.1,_,J,run_takeDeferred hob,?_⟩⟩;exact Uh hng hdc D h (hs.loose hb hp (Mm _ _ _)) hd2 hR
  ·cases h
 | .clo f c::D,σ,σ',w,ds,h,hs,hd,hR=>by
  obtain ⟨d,ds',hd1,hd2,rfl⟩:=Vl.1 hd;simp only [leaves] at h;cases hf:dc f with
  | false=>rw [hf] at h;cases h
  | true =>
   rw [hf] at h;simp only [cond_true] at h;split at h
   ·rename_i b k
    split at h
    ·rename_i l hb
     cases hk:Nat.blt k l.length with
     | false=>rw [hk] at h;cases h
     | true =>
      rw [hk] at h;simp only [cond_true] at h;have hkl:k<l.length:=by simpa using hk
      simp only [Rh,Option.map_eq_some_iff] at hd1;obtain ⟨ys,hys,rfl⟩:=hd1;obtain ⟨y,ys',hy,hys',rfl⟩:=Y5.1 hys;simp only [Ym] at hys';cases hys';obtain ⟨p,hp,rfl⟩:=Wr hy;obtain ⟨q,hq,⟨us,t,hus,hob⟩,_⟩:=hs.own b _ hb;rw [hp] at hq;cases hq;obtain ⟨⟨fn',hfn,hbody⟩,hcall⟩:=hdc f hf;have hn:=hng f fn' hfn;refine ⟨by simp,.inr ⟨fun h=>(by cases h),.func f,_,f,#[.pointer (some ⟨p.1,k,none⟩)],J,?_,fun _ _=>trivial,?_⟩⟩
      ·have hpg:(program:Sem Program).run P w=.ok P w:=rfl;simp only [invoke,callFunc,Sem.run_bind];rw [hpg];simp only [Result.andThen_ok,hfn,hn,hbody,Bool.false_eq_true,if_false,Sem.run_pure];simp
      ·refine CallsDIn.mono (hcall w p.1 k us t hob (by rw [Y7 hus];exact hkl)) ?_;rintro e u w1 ⟨⟨v,rfl⟩,rfl,rfl⟩;refine Uh hng hdc D h ?_ hd2 hR;refine hs.turn (w':=w.setRow p.1 (put us k [.nilIface]).toArray) hb hp ⟨J,J,J⟩ (by simp) (fun j hj=>setRow_other w p.1 j _ hj) _ ?_;exact ⟨_,t,Sg hus (c:=[.v .nilIface]) (vs:=[.nilIface]) J k,setRow_heap w p.1 _ _ t _ hob⟩
    ·cases h
   ·cases h
def rvS (tmps:Array Value):ResultVar->Sem Value
 | .tmp t=>pure (tmps.getD t undef)
 | .cell y t=>do loadVar t (<- asAddr (tmps.getD y undef))
theorem Ga (fn:Func) (tmps:Array Value):results fn tmps=(do let vs <- fn.results.mapM (rvS tmps);pure (if h:vs.size=1 then vs[0] else .tuple vs)):=by
 unfold results;congr 1
theorem res_one {r:ResultVar} {v:SV} (hs:Sx w0 F B σ w) (ha:Tm B E n a.tmps) (h:resOf P E σ r=some v):∃ x,den B v=some x/\(rvS a.tmps r).run P w=.ok x w:=by
 cases r with
 | tmp t =>
  obtain ⟨x,hx,ht⟩:=ha.2 t v h;refine ⟨x,hx,?_⟩;simp only [rvS,Sem.run_pure];rw [Array.getD_eq_getD_getElem?,ht];rfl
 | cell y t =>
  simp only [resOf] at h;cases hy:slook E y with
  | none=>rw [hy] at h;cases h
  | some u =>
   rw [hy] at h;obtain ⟨x,hx,ht⟩:=ha.2 y u hy;cases u with
   | ptr b k =>
    obtain ⟨p,hp,rfl⟩:=Wr hx;obtain ⟨z,hz,hr⟩:=P8 hs hp h;refine ⟨z,hz,?_⟩;have e:a.tmps.getD y undef=.pointer (some ⟨p.1,k,none⟩):=by rw [Array.getD_eq_getD_getElem?,ht];rfl
    simp only [rvS,e];simp [asAddr,hr]
   | _=>cases h
theorem Ed (hs:Sx w0 F B σ w) (ha:Tm B E n a.tmps):∀ {rs:List ResultVar} {l:List SV},resL P E σ rs=some l->∃ xs,Ym B l=some xs/\(rs.mapM (rvS a.tmps)).run P w=.ok xs w
 | [],l,h=>by simp only [resL] at h;cases h;exact ⟨[],J,J⟩
 | r::rs,l,h=>by
  simp only [resL] at h;cases h1:resOf P E σ r with
  | none=>rw [h1] at h;cases h
  | some v =>
   rw [h1] at h;cases h2:resL P E σ rs with
   | none=>rw [h2] at h;cases h
   | some m =>
    rw [h2] at h;cases h;obtain ⟨x,hx,hr⟩:=res_one (P:=P) (a:=a) hs ha h1;obtain ⟨xs,hxs,hrs⟩:=Ed hs ha h2;refine ⟨x::xs,Y5.2 ⟨x,xs,hx,hxs,J⟩,?_⟩;rw [List.mapM_cons,Sem.run_bind,hr];simp only [Result.andThen_ok];rw [Sem.run_bind,hrs];rfl
theorem L2 {fn:Func} {l:List SV} (hs:Sx w0 F B σ w) (ha:Tm B E n a.tmps) (h:resL P E σ fn.results.toList=some l):∃ x,den B (resV l)=some x/\(results fn a.tmps).run P w=.ok x w:=by
 obtain ⟨xs,hxs,hr⟩:=Ed (P:=P) (a:=a) hs ha h
 have hr':(fn.results.mapM (rvS a.tmps)).run P w=.ok xs.toArray w:=by
  rw [Array.mapM_eq_mapM_toList];show (List.toArray <$> _:Sem (Array Value)).run P w=_;rw [<- bind_pure_comp,Sem.run_bind,hr];rfl
 rw [Ga,Sem.run_bind,hr'];simp only [Result.andThen_ok,Sem.run_pure];cases l with
 | nil =>
  simp only [Ym] at hxs;cases hxs;exact ⟨_,J,J⟩
 | cons v l =>
  obtain ⟨x,xs',hx,hxs',rfl⟩:=Y5.1 hxs;cases l with
  | nil =>
   simp only [Ym] at hxs';cases hxs';exact ⟨x,hx,J⟩
  | cons u l =>
   obtain ⟨y,ys,hy,hys,rfl⟩:=Y5.1 hxs';refine ⟨.tuple (x::y::ys).toArray,by simp only [resV,den];rw [hxs];rfl,?_⟩;rw [dif_neg (by simp)]
theorem Tq:∀ (l:List SV) (k i:Nat) (v:SV),slook (snumber k l) i=some v->k<=i/\l[i - k]?=some v
 | [],_,_,_,h=>by simp [snumber,Qp] at h
 | u::r,k,i,v,h=>by
  simp only [snumber,Z9] at h;cases hb:Nat.beq i k with
  | true =>
   rw [hb] at h;have e:=Nat.eq_of_beq_eq_true hb;subst e;cases h;simp
  | false =>
   rw [hb] at h;have ⟨h1,h2⟩:=Tq r (k+1) i v h;refine ⟨by omega,?_⟩;have e:i - k=(i - (k+1))+1:=by omega
   rw [e,List.getElem?_cons_succ];exact h2
theorem B9 {f:FuncId} {fn:Func} {c:Code} (h:bodyOf P f=some (fn,c)):P.funcs[f]?=some fn/\fn.body=some c:=by
 unfold bodyOf at h;split at h
 ·rename_i fn' hf
  split at h
  ·rename_i c' hc;cases h;exact ⟨hf,hc⟩
  ·cases h
 ·cases h
theorem call_ok {X:Ext} {dc:FuncId->Bool} (hng:Vh P) (hX:XOk P X) (hdc:Fu P dc) (hrec:T3 P rec) {f:FuncId} {args:List SV} {r:Rs} (h:stepCall P X dc rec f args σ=some r):Ok P (.call f args σ) r:=by
 unfold stepCall at h;cases hx:X f with
 | some g =>
  rw [hx] at h;simp only at h;cases hg:g args σ with
  | none=>rw [hg] at h;cases h
  | some q =>
   obtain ⟨v,σ'⟩:=q;rw [hg] at h;cases h;exact hX f g args σ v σ' hx hg
 | none =>
  rw [hx] at h;simp only at h;cases hb:bodyOf P f with
  | none=>rw [hb] at h;cases h
  | some q =>
   obtain ⟨fn,c⟩:=q;rw [hb] at h;simp only at h;obtain ⟨hf,hbody⟩:=B9 hb;cases hl:Nat.ble args.length fn.ntmps with
   | false=>rw [hl] at h;cases h
   | true =>
    rw [hl] at h;simp only [cond_true] at h
    have key:∀ (e:Xt) (E':SE) (D':List SD) (σ1 σ2:St) (l:List SV),(e=.normal\/e=.ret)->rec (.code false fn.ntmps c (snumber 0 args) [] σ)=some (.code e E' D' σ1)->leaves dc D' σ1=some σ2->resL P E' σ2 fn.results.toList=some l->Ok P (.call f args σ) (.val (resV l) σ2):=by
     intro e E' D' σ1 σ2 l he h1 h2 h3;have k1:=hrec _ _ h1;refine ⟨⟨fn,hf,by rw [hbody];rfl⟩,fun w0 F B w vs hs hd=>?_⟩;refine callsIn_of_wp_marks hf hbody trivial ?_
     have hag:Ags fn.ntmps { tmps:=vs.toArray++Array.replicate (fn.ntmps - vs.toArray.size) undef,defers:=[] } (snumber 0 args) [] B:=by
      refine ⟨⟨by simp only [Array.size_append,Array.size_replicate];omega,fun i v hv=>?_⟩,rfl⟩;obtain ⟨_,hv⟩:=Tq args 0 i v hv;rw [Nat.sub_zero] at hv;obtain ⟨x,hx,hdx⟩:=Vt hd hv;refine ⟨x,hdx,?_⟩;have hlt:i<vs.length:=(List.getElem?_eq_some_iff.1 hx).1;rw [Array.getElem?_append_left (by simpa using hlt)]
      simpa using hx
     refine wpIn_mono (k1 none w0 F B w _ J hs hag) ?_;rintro e' a' w1 ⟨rfl,B1,hp1,hs1,ha1⟩
     have hlv:LeavesInM (Wz none) 0 P fn a'.tmps (fun e w'=>∃ x B',e=.returned x/\Gr σ.n σ2.n B B'/\den B' (resV l)=some x/\Sx w0 F B' σ2 w') a'.defers .returning w1:=by
      refine Uh hng hdc D' h2 hs1 ha1.df fun w2 hs2=>?_;obtain ⟨x,hx,hr⟩:=L2 (P:=P) (a:=a') hs2 ha1.tm h3;exact ⟨x,hr,x,B1,J,by rw [Ot h2];exact hp1,hx,hs2⟩
     rcases he with rfl | rfl
     ·exact hlv
     ·exact hlv
    have key2:∀ (e:Xt) (E':SE) (D':List SD) (σ1:St),(e=.normal\/e=.ret)->rec (.code false fn.ntmps c (snumber 0 args) [] σ)=some (.code e E' D' σ1)->resK P E' fn.results.toList (leaves dc D' σ1)=some r->Ok P (.call f args σ) r:=by
     intro e E' D' σ1 he h1 h2;cases h3:leaves dc D' σ1 with
     | none=>rw [h3] at h2;cases h2
     | some σ2 =>
      rw [h3] at h2;simp only [resK] at h2;cases h4:resL P E' σ2 fn.results.toList with
      | none=>rw [h4] at h2;cases h2
      | some l =>
       rw [h4] at h2;cases h2;exact key e E' D' σ1 σ2 l he h1 h3 h4
    unfold bodyK at h;split at h
    ·rename_i E' D' σ1 h1;exact key2 .normal E' D' σ1 (.inl J) h1 h
    ·rename_i E' D' σ1 h1;exact key2 .ret E' D' σ1 (.inr J) h1 h
    ·cases h
end
/-! ### The whole -/
noncomputable def step1 (P:Program) (X:Ext) (dc:FuncId->Bool) (draw:Rec->Bool->Ft) (rec:Rec):Rec
 | .code ro n c E D σ=>stepCode P rec (draw rec ro) ro n E D σ c
 | .call f args σ=>stepCall P X dc rec f args σ
 | .round b args σ=>stepRound rec b args σ
noncomputable def run (P:Program) (X:Ext) (dc:FuncId->Bool) (draw:Rec->Bool->Ft) (k:Nat):Rec:=Nat.rec (fun _=>none) (fun _ ih=>step1 P X dc draw ih) k
theorem H6 {P:Program} {X:Ext} {dc:FuncId->Bool} {draw:Rec->Bool->Ft} (hng:Vh P) (hX:XOk P X) (hdc:Fu P dc) (hdraw:∀ rec,T3 P rec->DrOk P (draw rec)):∀ k,T3 P (run P X dc draw k)
 | 0=>fun t r h=>by cases h
 | k+1=>fun t r h=>by
  have ih:=H6 hng hX hdc hdraw k;cases t with
  | code ro n c E D σ=>exact code_ok hng ih (hdraw _ ih) h
  | call f args σ=>exact call_ok hng hX hdc ih h
  | round b args σ=>exact Zau ih h
end S
end Go.Proofs.YtpofmnfkdkmieaaGreat
