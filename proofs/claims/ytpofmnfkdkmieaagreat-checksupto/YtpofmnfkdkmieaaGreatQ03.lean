/- What is proved here: rules for calls that may give up by a pa -/
import Derived.Test.YtpofmnfkdkmieaaGreatQ02
import Derived.Defers
import Derived.Recover
set_option linter.unusedVariables false
set_option linter.unusedSimpArgs false
namespace Go.Proofs.YtpofmnfkdkmieaaGreat
namespace E
open Go Go.RowKit
def Ou:List PanicEntry:=[{ v:=.iface 48 (.int .i64 1),recovered:=false }]
def Qj (P:Program) (f:FuncId) (args:Array Value) (w:World) (ok:Bool):Prop :=
 Calls P f args w fun e w'=>((ok=true∧e=.returned (.tuple #[]))∨(ok=false∧e=.panicked Ou))∧Below w.heap.size w w'
theorem Qj.of_eq {P:Program} {f:FuncId} {args:Array Value} {w:World} {a b:Bool} (h:Qj P f args w a) (e:a=b):Qj P f args w b:=e ▸ h
section
variable {P:Program} {n:Nat} {E:Env} {w0:World} {F:List Nat} {H:Hp} {R:Asr} {fn:Func} {Z:Ending→World→Prop} {κ:List Kf}
theorem Z7 {all:Array Oper} {l:List Oper} {d f:Nat} {xs:List Operand} {vs:List Value} {ts:Array TypeId} {t:TypeId} {p:String} {e:Array Edge} {ok:Bool} (hf:IsFn P f)
  (hd:Nat.blt d n=true) (hx:args E xs=some vs) (hc:∀ w,Sat w0 F H R w→Qj P f vs.toArray w ok) (hy:ok=true→WL P n all l ((d,.tuple #[])::E) w0 F H R fn Z κ) (hn:ok=false→WQ P n (.panic Ou) E w0 F H R fn Z κ) :
  WL P n all (⟨some d,.call ⟨.value (.func f),xs.toArray,ts⟩,t,p,e,none⟩::l) E w0 F H R fn Z κ :=
 ⟨fun w hs a ha=>wpList_plain rfl fun K hK=>by
  unfold Oper.wp;rw [V8 rfl hf,Ve ha xs vs hx];refine (hc w hs).mono ?_;rintro e w' ⟨h1,hb'⟩;rcases h1 with ⟨hok,rfl⟩ | ⟨hok,rfl⟩
  ·exact hK _ _ ((hy hok).go w' (hs.keep hb') _ (ha.put hd _))
  ·exact (hn hok).go w' (hs.keep hb') _ ha⟩
theorem WL_panic {all:Array Oper} {l:List Oper} {d:Option Nat} {x:Operand} {t u:TypeId} {v:Value} {p:String} {e:Array Edge} (hx:ev E x=some (.iface u v)) (h:WQ P n (.panic [{ v:=.iface u v,recovered:=false }]) E w0 F H R fn Z κ) :
  WL P n all (⟨d,.panic x,t,p,e,none⟩::l) E w0 F H R fn Z κ :=
 ⟨fun w hs a ha=>wpList_plain rfl fun K hK=>by
  have hr:(execOp a.eval ⟨d,.panic x,t,p,e,none⟩).run P w=.halt (.panic (.iface u v)) w:=by
   simp only [execOp];rw [ha.eval hx];rfl
  unfold Oper.wp;rw [hr];exact h.go w hs _ ha⟩
theorem Ex_iface {t:TypeId} {k:IntKind} {x:Operand} {v:Value} (ht:TI P t k) (hx:ev E x=some v):Ex P n E w0 F H R (.makeInterface t x) (.iface t v):=⟨fun w _ a ha _ _ _ _ _=>by
 simp only [execOp];rw [ha.eval hx];simp [Instr.makeInterface,run_underlying ht]⟩
theorem Uf {n:Nat} {E:Env} {w0:World} {H:Hp} {R:Asr} {fn:Func} {ok:Bool} (hr:fn.results=#[]) (h:ok=true) :
  WQ P n .normal E w0 [] H R fn (fun e w'=>((ok=true∧e=.returned (.tuple #[]))∨(ok=false∧e=.panicked Ou))∧Below w0.heap.size w0 w') [] :=
 WQ_end0 hr fun _ hs=>⟨.inl ⟨h,rfl⟩,hs.low.below⟩
theorem PP_endr {n:Nat} {E:Env} {w0:World} {H:Hp} {R:Asr} {fn:Func} {ok:Bool} (hr:fn.results=#[]) (h:ok=true) :
  WQ P n .ret E w0 [] H R fn (fun e w'=>((ok=true∧e=.returned (.tuple #[]))∨(ok=false∧e=.panicked Ou))∧Below w0.heap.size w0 w') [] :=
 WQ_end0r hr fun _ hs=>⟨.inl ⟨h,rfl⟩,hs.low.below⟩
theorem Ym {n:Nat} {E:Env} {w0:World} {H:Hp} {R:Asr} {fn:Func} {ok:Bool} (h:ok=false) :
  WQ P n (.panic Ou) E w0 [] H R fn (fun e w'=>((ok=true∧e=.returned (.tuple #[]))∨(ok=false∧e=.panicked Ou))∧Below w0.heap.size w0 w') [] :=
 WQ_dies fun _ hs=>⟨.inr ⟨h,rfl⟩,hs.low.below⟩
theorem Np {a:Act} {w:World} {o:Oper} {f:FuncId} {g:Operand} {xs:Array Operand} {ts:Array TypeId} {first cap:Array Value} (ho:o.op=.call ⟨.value g,xs,ts⟩) (hg:a.eval g=.func (.func f) first cap) (hf:IsFn P f) :
  (execOp a.eval o).run P w=.ok (.enter f (first++xs.map a.eval++cap)) w:=by
 obtain ⟨fn,hf,hb,hnm⟩:=hf.is;simp [execOp,ho,resolve,hg,Deferred.ofValue,invoke,callFunc,hf];rw [if_neg (by simpa using hnm),if_neg (by intro h;rw [h] at hb;cases hb)]
theorem WL_callV {all:Array Oper} {l:List Oper} {d f:Nat} {g:Operand} {xs:List Operand} {vs:List Value} {ts:Array TypeId} {t:TypeId} {p:String} {e:Array Edge} {v:Value} (hf:IsFn P f)
  (hd:Nat.blt d n=true) (hg:ev E g=some (.func (.func f) #[] #[])) (hx:args E xs=some vs) (hc:∀ w,Sat w0 F H R w→Vc P f vs.toArray w v) (h:WL P n all l ((d,v)::E) w0 F H R fn Z κ) :
  WL P n all (⟨some d,.call ⟨.value g,xs.toArray,ts⟩,t,p,e,none⟩::l) E w0 F H R fn Z κ :=
 ⟨fun w hs a ha=>wpList_plain rfl fun K hK=>by
  unfold Oper.wp;rw [Np rfl (ha.eval hg) hf,Ve ha xs vs hx];rw [show (#[]++vs.toArray++#[]:Array Value)=vs.toArray by simp];refine (hc w hs).mono ?_;rintro e w' ⟨rfl,hb'⟩;exact hK _ _ (h.go w' (hs.keep hb') _ (ha.put hd v))⟩
theorem Ex_eqlN {t t':TypeId} {x y:Operand} {as bs:Array Value} {r:Bool} (hm:P.eqGuardType P.depth t=false) (hx:ev E x=some (.agg as)) (hy:ev E y=some (.agg bs)) (h:∀ w:World,(Op.equalIn 10000 t (.agg as) (.agg bs)).run P w=.ok r w) :
  Ex P n E w0 F H R (.binOp .eql t x y t') (.bool r):=⟨fun w _ a ha _ _ _ _ _=>by
 simp only [execOp];rw [ha.eval hx,ha.eval hy];have h1:=run_eqGuard_agg (P:=P) w .eql t x y as bs hm;have h2:=run_eql_struct (P:=P) w t as bs;have h3:=h w;simp [h1,h2,h3]⟩
theorem Ex_neqN {t t':TypeId} {x y:Operand} {as bs:Array Value} {r:Bool} (hm:P.eqGuardType P.depth t=false) (hx:ev E x=some (.agg as)) (hy:ev E y=some (.agg bs)) (h:∀ w:World,(Op.equalIn 10000 t (.agg as) (.agg bs)).run P w=.ok r w) :
  Ex P n E w0 F H R (.binOp .neq t x y t') (.bool (!r)):=⟨fun w _ a ha _ _ _ _ _=>by
 simp only [execOp];rw [ha.eval hx,ha.eval hy];have h1:=run_eqGuard_agg (P:=P) w .neq t x y as bs hm;have h2:=run_neq_struct (P:=P) w t as bs;have h3:=h w;simp [h1,h2,h3]⟩
end
end E
namespace E
open Go Go.RowKit
structure Asr.Imp (R R':Asr):Prop where
 s:∀ k ∈ R'.S,k ∈ R.S
 a:∀ w,R.A w→R'.A w
theorem Asr.Imp.refl (R:Asr):R.Imp R:=⟨fun _ h=>h,fun _ h=>h⟩
theorem Asr.Imp.trans {A B C:Asr} (h:A.Imp B) (k:B.Imp C):A.Imp C:=⟨fun x hx=>h.s x (k.s x hx),fun w hw=>k.a w (h.a w hw)⟩
theorem Asr.Imp.and {A A' B B':Asr} (h:A.Imp A') (k:B.Imp B'):(A.and B).Imp (A'.and B') :=
 ⟨fun x hx=>(List.mem_append.1 hx).elim (fun hx=>List.mem_append_left _ (h.s x hx)) (fun hx=>List.mem_append_right _ (k.s x hx)),
  fun w hw=>⟨h.a w hw.1,k.a w hw.2.1,fun x hx hy=>hw.2.2 x (h.s x hx) (k.s x hy)⟩⟩
theorem Asr.Imp.left {A A' B:Asr} (h:A.Imp A'):(A.and B).Imp (A'.and B):=h.and (.refl B)
theorem Asr.Imp.right {A B B':Asr} (h:B.Imp B'):(A.and B).Imp (A.and B'):=(Asr.Imp.refl A).and h
theorem Asr.comm (A B:Asr):(A.and B).Imp (B.and A) :=
 ⟨fun x hx=>(List.mem_append.1 hx).elim (fun hx=>List.mem_append_right _ hx) (fun hx=>List.mem_append_left _ hx),fun w hw=>⟨hw.2.1,hw.1,fun x hx hy=>hw.2.2 x hy hx⟩⟩
theorem Asr.assoc (A B C:Asr):((A.and B).and C).Imp (A.and (B.and C)) :=
 ⟨fun x hx=>by simp only [Asr.and,List.mem_append] at hx ⊢;rcases hx with h | h | h<;>simp [h],
  fun w hw=>⟨hw.1.1,⟨hw.1.2.1,hw.2.1,fun x hx hy=>hw.2.2 x (List.mem_append_right _ hx) hy⟩,fun x hx hy=>(List.mem_append.1 hy).elim (fun hy=>hw.1.2.2 x hx hy) (fun hy=>hw.2.2 x (List.mem_append_left _ hx) hy)⟩⟩
theorem Asr.cossa (A B C:Asr):(A.and (B.and C)).Imp ((A.and B).and C) :=
 ⟨fun x hx=>by simp only [Asr.and,List.mem_append] at hx ⊢;rcases hx with (h | h) | h<;>simp [h],
  fun w hw=>⟨⟨hw.1,hw.2.1.1,fun x hx hy=>hw.2.2 x hx (List.mem_append_left _ hy)⟩,hw.2.1.2.1,fun x hx hy=>(List.mem_append.1 hx).elim (fun hx=>hw.2.2 x hx (List.mem_append_right _ hy)) (fun hx=>hw.2.1.2.2 x hx hy)⟩⟩
theorem Asr.fst (A B:Asr):(A.and B).Imp A:=⟨fun _ hx=>List.mem_append_left _ hx,fun _ hw=>hw.1⟩
theorem Asr.snd (A B:Asr):(A.and B).Imp B:=⟨fun _ hx=>List.mem_append_right _ hx,fun _ hw=>hw.2.1⟩
theorem Asr.toNone (A:Asr):A.Imp Asr.none:=⟨fun _ hx=>by simp [Asr.none] at hx,fun _ _=>trivial⟩
theorem Asr.addNone (A:Asr):A.Imp (A.and Asr.none):=⟨fun x hx=>by simpa [Asr.and,Asr.none] using hx,fun _ hw=>⟨hw,trivial,fun _ _ hy=>by simp [Asr.none] at hy⟩⟩
theorem Asr.noneAdd (A:Asr):A.Imp (Asr.none.and A):=⟨fun x hx=>by simpa [Asr.and,Asr.none] using hx,fun _ hw=>⟨trivial,hw,fun _ hx=>by simp [Asr.none] at hx⟩⟩
theorem Asr.swap (A B C:Asr):(A.and (B.and C)).Imp (B.and (A.and C)):=(Asr.cossa A B C).trans (((Asr.comm A B).left).trans (Asr.assoc B A C))
def Qa:List Asr→Asr
 | []=>Asr.none
 | r::l=>r.and (Qa l)
theorem bigA_snoc (r:Asr):∀ l:List Asr,(r.and (Qa l)).Imp (Qa (l++[r]))
 | []=>Asr.Imp.refl _
 | a::l=>(Asr.swap r a (Qa l)).trans (Asr.Imp.right (bigA_snoc r l))
theorem bigA_take:∀ (l:List Asr) (k:Nat) (r:Asr),l[k]?=some r→(Qa l).Imp r
 | [],_,_,h=>by simp at h
 | a::l,0,r,h=>by simp at h;subst h;exact Asr.fst _ _
 | a::l,k+1,r,h=>(Asr.snd a (Qa l)).trans (bigA_take l k r (by simpa using h))
theorem Sat.leads {w0 w:World} {F:List Nat} {H:Hp} {R R':Asr} (h:Sat w0 F H R w) (i:R.Imp R'):Sat w0 F H R' w :=
 ⟨h.low,h.own,h.hi,h.apart,i.a w h.res,fun k hk=>h.rhi k (i.s k hk),fun p hp hk=>h.rapart p hp (i.s _ hk)⟩
theorem lN {w0:World} {F:List Nat} {H:Hp} {R:Asr} (w:World) (hs:Sat w0 F H R w):Sat w0 F H Asr.none w:=hs.leads (Asr.toNone _)
section
variable {P:Program} {n:Nat} {E:Env} {w0:World} {F:List Nat} {H:Hp} {R R':Asr} {fn:Func} {Z:Ending→World→Prop} {κ:List Kf}
theorem Zz {all:Array Oper} {l:List Oper} (i:R.Imp R') (h:WL P n all l E w0 F H R' fn Z κ):WL P n all l E w0 F H R fn Z κ:=⟨fun w hs a ha=>h.go w (hs.leads i) a ha⟩
theorem Xt {c:Code} (i:R.Imp R') (h:WC P n c E w0 F H R' fn Z κ):WC P n c E w0 F H R fn Z κ:=⟨fun w hs a ha=>h.go w (hs.leads i) a ha⟩
theorem Lg {x:Exit} (i:R.Imp R') (h:WQ P n x E w0 F H R' fn Z κ):WQ P n x E w0 F H R fn Z κ:=⟨fun w hs a ha=>h.go w (hs.leads i) a ha⟩
theorem Xc {all:Array Oper} {l:List Oper} {p:Prop} (hp:∀ w,Sat w0 F H R w→p) (h:p→WL P n all l E w0 F H R fn Z κ):WL P n all l E w0 F H R fn Z κ:=⟨fun w hs a ha=>(h (hp w hs)).go w hs a ha⟩
theorem Th {c:Code} {p:Prop} (hp:∀ w,Sat w0 F H R w→p) (h:p→WC P n c E w0 F H R fn Z κ):WC P n c E w0 F H R fn Z κ:=⟨fun w hs a ha=>(h (hp w hs)).go w hs a ha⟩
end
structure RcAt (u w:World) (b:Nat) (cs:List Value):Prop where
 base:Below u.heap.size u w
 hb:u.heap.size≤b
 cell:∃ t,w.heap[b]?=some (.cells cs.toArray t (0,0))
theorem RcAt.sat {u w:World} {b:Nat} {cs:List Value} (h:RcAt u w b cs):Sat w [b] [(b,cs)] Asr.none w:=by
 refine ⟨Fr.refl _ _,?_,?_,by simp,trivial,(by intro k hk;simp [Asr.none] at hk),(by intro p _ hk;simp [Asr.none] at hk)⟩
 ·intro p hp;simp only [List.mem_singleton] at hp;subst hp;exact h.cell
 ·intro p hp;simp only [List.mem_singleton] at hp;subst hp;exact .inl List.mem_cons_self
def RcZ (u:World) (b:Nat) (w:World) (ok:Value→List Value→Asr→Prop) (may:Prop):Ending→World→Prop:=fun e w' =>
 (∃ v cs' R',e=.returned v∧ok v cs' R'∧Sat w [b] [(b,cs')] R' w')∨(may∧e=.panicked Ou∧Below u.heap.size u w')
def RcP (P:Program) (f:FuncId) (args:Array Value) (u:World) (b:Nat) (cs:List Value) (ok:Value→List Value→Asr→Prop) (may:Prop):Prop :=
 ∀ w,RcAt u w b cs→Calls P f args w (RcZ u b w ok may)
theorem Xp {u w0 w:World} {F:List Nat} {H:Hp} {R:Asr} (hu:Below u.heap.size u w0) (hF:∀ x ∈ F,u.heap.size≤x) (hs:Sat w0 F H R w):Below u.heap.size u w :=
 ⟨hs.low.os.trans hu.os,hs.low.tape.trans hu.tape,hs.low.output.trans hu.output,Nat.le_trans hu.size hs.low.size,fun k hk=>by
  rw [hs.low.block k (Nat.lt_of_lt_of_le hk hu.size) (fun hm=>by have:=hF k hm;omega)];exact hu.block k hk⟩
theorem rc_now {u w0 w:World} {F:List Nat} {H:Hp} {R:Asr} {b i:Nat} {cs:List Value} (hu:Below u.heap.size u w0) (hF:∀ x ∈ F,u.heap.size≤x) (hs:Sat w0 F H R w) (hp:H[i]?=some (b,cs)):RcAt u w b cs:=by
 have hm:=List.mem_of_getElem? hp;refine ⟨Xp hu hF hs,(hs.hi _ hm).elim (hF b) (fun h=>Nat.le_trans hu.size h),hs.own _ hm⟩
theorem Sat.only {w0 w:World} {F:List Nat} {H:Hp} {R:Asr} {b i:Nat} {cs:List Value} (hs:Sat w0 F H R w) (hp:H[i]?=some (b,cs)):Sat w0 F [(b,cs)] R w:=by
 have hm:=List.mem_of_getElem? hp;have h1:∀ p ∈ [(b,cs)],p ∈ H:=fun p hq=>by simp only [List.mem_singleton] at hq;subst hq;exact hm
 exact ⟨hs.low,fun p hq=>hs.own p (h1 p hq),fun p hq=>hs.hi p (h1 p hq),by simp,hs.res,hs.rhi,fun p hq=>hs.rapart p (h1 p hq)⟩
theorem rc_then {w0 w w':World} {F:List Nat} {H:Hp} {R R':Asr} {b i:Nat} {cs cs':List Value} (hs:Sat w0 F H R w) (hp:H[i]?=some (b,cs)) (hw:Sat w [b] [(b,cs')] R' w'):Sat w0 F (H.set i (b,cs')) (R'.and R) w':=by
 have hm:=List.mem_of_getElem? hp
 have hmap:(H.set i (b,cs')).map (·.1)=H.map (·.1):=by
  rw [List.map_set];exact set_same (by rw [List.getElem?_map,hp];rfl)
 have hkeep:∀ p ∈ H.set i (b,cs'),p=(b,cs')∨(p ∈ H∧p.1≠b):=by
  intro p hpm;obtain ⟨j,hj⟩:=List.mem_iff_getElem?.1 hpm;rw [List.getElem?_set] at hj;split at hj
  ·split at hj
   ·cases hj;exact .inl J
   ·cases hj
  ·rename_i hij
   refine .inr ⟨List.mem_of_getElem? hj,fun e=>?_⟩;have h1:(H.map (·.1))[i]?=some b:=by rw [List.getElem?_map,hp];rfl
   have h2:(H.map (·.1))[j]?=some b:=by rw [List.getElem?_map,hj,← e];rfl
   exact hij (Pv hs.apart h1 h2)
 have hnew:∀ k ∈ R'.S,w.heap.size≤k∧k<w'.heap.size:=by
  intro k hk;refine ⟨(hw.rhi k hk).1.elim (fun h=>?_) id,(hw.rhi k hk).2⟩;simp only [List.mem_singleton] at h;subst h;exact absurd hk (hw.rapart (k,cs') List.mem_cons_self)
 have hold:∀ k,k<w.heap.size→k≠b→w'.heap[k]?=w.heap[k]?:=fun k hk hne=>hw.low.block k hk (by simpa using hne);have hRb:∀ k ∈ R.S,k≠b:=fun k hk e=>hs.rapart _ hm (by rw [← e];exact hk);refine ⟨hs.low.trans hw.low ?_,?_,?_,by rw [hmap];exact hs.apart,⟨hw.res,?_,?_⟩,?_,?_⟩
 ·intro x hx;simp only [List.mem_singleton] at hx;subst hx;exact hs.hi _ hm
 ·intro p hpm;rcases hkeep p hpm with rfl | ⟨hq,hne⟩
  ·exact hw.own _ List.mem_cons_self
  ·rw [hold p.1 (hs.lt hq) hne];exact hs.own p hq
 ·intro p hpm;rcases hkeep p hpm with rfl | ⟨hq,_⟩
  ·exact hs.hi (b,cs) hm
  ·exact hs.hi p hq
 ·exact R.st w w' hs.res (fun k hk=>hold k (hs.rhi k hk).2 (hRb k hk))
 ·intro k hk hk2;have:=(hnew k hk).1;have:=(hs.rhi k hk2).2;omega
 ·intro k hk;rcases List.mem_append.1 hk with hk | hk
  ·exact ⟨.inr (Nat.le_trans hs.low.size (hnew k hk).1),(hnew k hk).2⟩
  ·exact ⟨(hs.rhi k hk).1,Nat.lt_of_lt_of_le (hs.rhi k hk).2 hw.low.size⟩
 ·intro p hpm hk;rcases List.mem_append.1 hk with hk | hk
  ·rcases hkeep p hpm with rfl | ⟨hq,_⟩
   ·exact hw.rapart (b,cs') List.mem_cons_self hk
   ·have:=(hnew _ hk).1;have:=hs.lt hq;omega
  ·rcases hkeep p hpm with rfl | ⟨hq,_⟩
   ·exact hs.rapart (b,cs) hm hk
   ·exact hs.rapart p hq hk
structure WD (P:Program) (n:Nat) (E:Env) (u:World) (fn:Func) (Z:Ending→World→Prop) (κ:List Kf):Prop where
 go:∀ w,Below u.heap.size u w→∀ a,Ag n a E→den P fn Z κ (.panic Ou) a w
section
variable {P:Program} {n:Nat} {E:Env} {w0:World} {F:List Nat} {H:Hp} {R:Asr} {fn:Func} {Z:Ending→World→Prop} {κ:List Kf}
theorem Yv {u:World} {k:Kf} (h:WD P n E u fn Z κ):WD P n E u fn Z (k::κ) :=
 ⟨fun w hb a ha=>by
  have:=h.go w hb a ha;obtain ⟨tag,_,_,_⟩:=k
  match tag with
  | 0=>exact this
  | 1=>exact this
  | _+2=>exact this⟩
theorem Xq {u w:World} {b:Nat} {ok:Value→List Value→Asr→Prop} {may:Prop} (h:may):WD P n E u fn (RcZ u b w ok may) [] :=
 ⟨fun _ hb _ ha=>⟨ha.no,.inr ⟨h,rfl,hb⟩⟩⟩
theorem WD_of {u:World} (hu:Below u.heap.size u w0) (hF:∀ x ∈ F,u.heap.size≤x) (h:WD P n E u fn Z κ):WQ P n (.panic Ou) E w0 F H R fn Z κ :=
 ⟨fun w hs a ha=>h.go w (Xp hu hF hs) a ha⟩
theorem Vr {u w:World} {b:Nat} {cs:List Value} (h0:RcAt u w b cs):∀ x ∈ [b],u.heap.size≤x:=fun x hx=>by simp only [List.mem_singleton] at hx;subst hx;exact h0.hb
theorem Sh {u w:World} {b:Nat} {cs':List Value} {ok:Value→List Value→Asr→Prop} {may:Prop} {t:Tmp} {v:Value} (hr:fn.results=#[.tmp t]) (hv:look E t=some v) (i:Nat) (hp:H[i]?=some (b,cs')) (h:ok v cs' R) :
  WQ P n .ret E w [b] H R fn (RcZ u b w ok may) [] :=
 WQ_end1 hr hv fun _ hs=>.inl ⟨v,cs',R,rfl,h,hs.only hp⟩
theorem Ss {all:Array Oper} {l:List Oper} {d f b:Nat} {xs:List Operand} {vs:List Value} {ts:Array TypeId} {t:TypeId} {p:String} {e:Array Edge} {cs:List Value} {u:World} {ok:Value→List Value→Asr→Prop} {may:Prop} (hf:IsFn P f)
  (hd:Nat.blt d n=true) (hx:args E xs=some vs) (i:Nat) (hp:H[i]?=some (b,cs)) (hu:Below u.heap.size u w0) (hF:∀ x ∈ F,u.heap.size≤x) (hc:RcP P f vs.toArray u b cs ok may)
  (hn:may→WD P n E u fn Z κ)
  (h:∀ v cs' R',ok v cs' R'→WL P n all l ((d,v)::E) w0 F (H.set i (b,cs')) (R'.and R) fn Z κ) :
  WL P n all (⟨some d,.call ⟨.value (.func f),xs.toArray,ts⟩,t,p,e,none⟩::l) E w0 F H R fn Z κ :=
 ⟨fun w hs a ha=>wpList_plain rfl fun K hK=>by
  unfold Oper.wp;rw [V8 rfl hf,Ve ha xs vs hx];refine (hc w (rc_now hu hF hs hp)).mono ?_;rintro e w' (⟨v,cs',R',rfl,hok,hw⟩ | ⟨hm,rfl,hb⟩)
  ·exact hK _ _ ((h v cs' R' hok).go w' (rc_then hs hp hw) _ (ha.put hd _))
  ·exact (hn hm).go w' hb _ ha⟩
theorem Y9 {all:Array Oper} {l:List Oper} {d f b:Nat} {xs:List Operand} {vs:List Value} {ts:Array TypeId} {t:TypeId} {p:String} {e:Array Edge} {cs:List Value} {u:World} {ok:Value→List Value→Asr→Prop} {may:Prop} (hf:IsFn P f)
  (hd:Nat.blt d n=true) (hx:args E xs=some vs) (i:Nat) (hp:H[i]?=some (b,cs)) (hu:Below u.heap.size u w0) (hF:∀ x ∈ F,u.heap.size≤x) (hc:RcP P f vs.toArray u b cs ok may)
  (hn:may→WD P n E u fn Z κ)
  (h:∀ v cs',(∃ R',ok v cs' R')→WL P n all l ((d,v)::E) w0 F (H.set i (b,cs')) R fn Z κ) :
  WL P n all (⟨some d,.call ⟨.value (.func f),xs.toArray,ts⟩,t,p,e,none⟩::l) E w0 F H R fn Z κ :=
 Ss hf hd hx i hp hu hF hc hn fun v cs' R' hok=>Zz (Asr.snd R' R) (h v cs' ⟨R',hok⟩)
end
def PureQ (P:Program) (f:FuncId) (args:Array Value) (w:World) (o:Option Value):Prop :=
 Calls P f args w fun e w'=>((∃ v,o=some v∧e=.returned v)∨(o=none∧e=.panicked Ou))∧Below w.heap.size w w'
theorem PQ_end1 {P:Program} {n:Nat} {E:Env} {w0:World} {H:Hp} {R:Asr} {fn:Func} {t:Tmp} {v:Value} {o:Option Value} (hr:fn.results=#[.tmp t]) (hv:look E t=some v) (h:o=some v) :
  WQ P n .ret E w0 [] H R fn (fun e w'=>((∃ v,o=some v∧e=.returned v)∨(o=none∧e=.panicked Ou))∧Below w0.heap.size w0 w') [] :=
 WQ_end1 hr hv fun _ hs=>⟨.inl ⟨v,h,rfl⟩,hs.low.below⟩
theorem PQ_dies {P:Program} {n:Nat} {E:Env} {w0:World} {H:Hp} {R:Asr} {fn:Func} {o:Option Value} (h:o=none) :
  WQ P n (.panic Ou) E w0 [] H R fn (fun e w'=>((∃ v,o=some v∧e=.returned v)∨(o=none∧e=.panicked Ou))∧Below w0.heap.size w0 w') [] :=
 WQ_dies fun _ hs=>⟨.inr ⟨h,rfl⟩,hs.low.below⟩
end E
namespace E
open Go Go.RowKit
theorem below_then {u w w':World} (h:Below u.heap.size u w) (k:Below w.heap.size w w'):Below u.heap.size u w' :=
 ⟨k.os.trans h.os,k.tape.trans h.tape,k.output.trans h.output,Nat.le_trans h.size k.size,fun i hi=>(k.block i (Nat.lt_of_lt_of_le hi h.size)).trans (h.block i hi)⟩
def FnZ (w:World) (ok:Value→Asr→Prop) (may:Prop):Ending→World→Prop:=fun e w' =>
 (∃ v R',e=.returned v∧ok v R'∧Sat w [] [] R' w')∨(may∧e=.panicked Ou∧Below w.heap.size w w')
def FnP (P:Program) (f:FuncId) (args:Array Value) (w:World) (ok:Value→Asr→Prop) (may:Prop):Prop:=Calls P f args w (FnZ w ok may)
theorem fn_then {w0 w w':World} {F:List Nat} {H:Hp} {R R':Asr} (hs:Sat w0 F H R w) (hw:Sat w [] [] R' w'):Sat w0 F H (R'.and R) w':=by
 have hb:=hw.low.below;have hk:=hs.keep hb;have hnew:∀ k ∈ R'.S,w.heap.size≤k∧k<w'.heap.size:=fun k hk=>⟨(hw.rhi k hk).1.elim (fun h=>by cases h) id,(hw.rhi k hk).2⟩;refine ⟨hk.low,hk.own,hk.hi,hk.apart,⟨hw.res,hk.res,?_⟩,?_,?_⟩
 ·intro k h1 h2;have:=(hnew k h1).1;have:=(hs.rhi k h2).2;omega
 ·intro k hm;rcases List.mem_append.1 hm with hm | hm
  ·exact ⟨.inr (Nat.le_trans hs.low.size (hnew k hm).1),(hnew k hm).2⟩
  ·exact hk.rhi k hm
 ·intro p hp hm;rcases List.mem_append.1 hm with hm | hm
  ·have:=(hnew _ hm).1;have:=hs.lt hp;omega
  ·exact hk.rapart p hp hm
theorem Sat.bare {w0 w:World} {F:List Nat} {H:Hp} {R:Asr} (hs:Sat w0 F H R w):Sat w0 F [] R w :=
 ⟨hs.low,(fun p hp=>by cases hp),(fun p hp=>by cases hp),List.nodup_nil,hs.res,hs.rhi,(fun p hp=>by cases hp)⟩
section
variable {P:Program} {n:Nat} {E:Env} {w0:World} {F:List Nat} {H:Hp} {R:Asr} {fn:Func} {Z:Ending→World→Prop} {κ:List Kf}
theorem X8 {all:Array Oper} {l:List Oper} {d f:Nat} {xs:List Operand} {vs:List Value} {ts:Array TypeId} {t:TypeId} {p:String} {e:Array Edge} {ok:Value→Asr→Prop} {may:Prop} (hf:IsFn P f)
  (hd:Nat.blt d n=true) (hx:args E xs=some vs) (hc:∀ w,Sat w0 F H R w→FnP P f vs.toArray w ok may) (hn:may→WQ P n (.panic Ou) E w0 F H R fn Z κ)
  (h:∀ v R',ok v R'→WL P n all l ((d,v)::E) w0 F H (R'.and R) fn Z κ) :
  WL P n all (⟨some d,.call ⟨.value (.func f),xs.toArray,ts⟩,t,p,e,none⟩::l) E w0 F H R fn Z κ :=
 ⟨fun w hs a ha=>wpList_plain rfl fun K hK=>by
  unfold Oper.wp;rw [V8 rfl hf,Ve ha xs vs hx];refine Calls.mono (hc w hs) ?_;rintro e w' (⟨v,R',rfl,hok,hw⟩ | ⟨hm,rfl,hb⟩)
  ·exact hK _ _ ((h v R' hok).go w' (fn_then hs hw) _ (ha.put hd _))
  ·exact (hn hm).go w' (hs.keep hb) _ ha⟩
theorem WL_callQ {all:Array Oper} {l:List Oper} {d f:Nat} {xs:List Operand} {vs:List Value} {ts:Array TypeId} {t:TypeId} {p:String} {e:Array Edge} {o:Option Value} (hf:IsFn P f)
  (hd:Nat.blt d n=true) (hx:args E xs=some vs) (hc:∀ w,Sat w0 F H R w→PureQ P f vs.toArray w o) (hn:o=none→WQ P n (.panic Ou) E w0 F H R fn Z κ)
  (h:∀ v,o=some v→WL P n all l ((d,v)::E) w0 F H R fn Z κ) :
  WL P n all (⟨some d,.call ⟨.value (.func f),xs.toArray,ts⟩,t,p,e,none⟩::l) E w0 F H R fn Z κ :=
 ⟨fun w hs a ha=>wpList_plain rfl fun K hK=>by
  unfold Oper.wp;rw [V8 rfl hf,Ve ha xs vs hx];refine Calls.mono (hc w hs) ?_;rintro e w' ⟨⟨v,hv,rfl⟩ | ⟨hv,rfl⟩,hb⟩
  ·exact hK _ _ ((h v hv).go w' (hs.keep hb) _ (ha.put hd _))
  ·exact (hn hv).go w' (hs.keep hb) _ ha⟩
theorem FnP.of_Q {f:FuncId} {args:Array Value} {w:World} {o:Option Value} (h:PureQ P f args w o):FnP P f args w (fun v R'=>o=some v∧R'=Asr.none) (o=none):=by
 refine Calls.mono h ?_;rintro e w' ⟨⟨v,hv,rfl⟩ | ⟨hv,rfl⟩,hb⟩
 ·exact .inl ⟨v,Asr.none,J,⟨hv,J⟩,(Sat.first w []).keep hb⟩
 ·exact .inr ⟨hv,J,hb⟩
theorem Ex_cap {g:Nat} {x:Operand} {v:Value} (hx:ev E x=some v):Ex P n E w0 F H R (.makeFunc (.func g) #[] #[x]) (.func (.func g) #[] #[v]):=⟨fun w _ a ha _ _ _ _ _=>by
 simp only [execOp];simp [ha.eval hx,Instr.makeFunc]⟩
structure Res (P:Program) (n:Nat) (E:Env) (w0:World) (F:List Nat) (H:Hp) (R:Asr) (fn:Func) (v:Value):Prop where
 go:∀ w,Sat w0 F H R w→∀ a:Act,Ag n a E→(results fn a.tmps).run P w=.ok v w
def rvIs (P:Program) (a:Act) (w:World) (v:Value):ResultVar→Prop
 | .tmp t=>a.tmps.getD t undef=v
 | .cell x t=>∃ b,a.tmps.getD x undef=.pointer (some b)∧(loadVar t b).run P w=.ok v w
structure RV (P:Program) (n:Nat) (E:Env) (w0:World) (F:List Nat) (H:Hp) (R:Asr) (r:ResultVar) (v:Value):Prop where
 go:∀ w,Sat w0 F H R w→∀ a:Act,Ag n a E→rvIs P a w v r
theorem X9 {t:Nat} {v:Value} (h:look E t=some v):RV P n E w0 F H R (.tmp t) v:=⟨fun w _ a ha=>ha.eval (x:=.tmp t) h⟩
theorem Wf {x t k b o:Nat} {vs:List Value} (ht:TN P t k) (h:look E x=some (.pointer (some ⟨b,o,none⟩))) (hc:Row w0 F H R b o vs) (hl:vs.length=k):RV P n E w0 F H R (.cell x t) (.agg vs.toArray):=⟨fun w hs a ha=>by
 have h1:=(ht w).1;have h2:=(ht w).2
 have h3:(loadCells ⟨b,o,none⟩ k).run P w=.ok vs.toArray w:=by
  rw [← hl];exact run_loadCells_list w ⟨b,o,none⟩ vs fun j v hj=>by rw [Addr.add_lit];exact hc.go w hs j v hj
 exact ⟨_,ha.eval (x:=.tmp x) h,by simp [loadVar,h1,h2,h3]⟩⟩
theorem results_1 {a:Act} {w:World} {r:ResultVar} {v:Value} (hr:fn.results=#[r]) (h:rvIs P a w v r):(results fn a.tmps).run P w=.ok v w:=by
 unfold results;rw [hr];simp only [List.mapM_toArray,Sem.run_bind,List.mapM_cons,List.mapM_nil];cases r with
 | tmp t=>simp only [rvIs] at h;simp only [h];simp
 | cell x t =>
  obtain ⟨b,h1,h2⟩:=h;simp only [h1];simp [asAddr,h2]
theorem Qo {a:Act} {w:World} {r s:ResultVar} {v x:Value} (hr:fn.results=#[r,s]) (h:rvIs P a w v r) (k:rvIs P a w x s):(results fn a.tmps).run P w=.ok (.tuple #[v,x]) w:=by
 unfold results;rw [hr];simp only [List.mapM_toArray,Sem.run_bind,List.mapM_cons,List.mapM_nil];cases r with
 | tmp t =>
  simp only [rvIs] at h;cases s with
  | tmp t'=>simp only [rvIs] at k;simp only [h,k];simp
  | cell x t' =>
   obtain ⟨b,h1,h2⟩:=k;simp only [h,h1];simp [asAddr,h2]
 | cell x t =>
  obtain ⟨b,h1,h2⟩:=h;cases s with
  | tmp t'=>simp only [rvIs] at k;simp only [h1,k];simp [asAddr,h2]
  | cell x t' =>
   obtain ⟨b',k1,k2⟩:=k;simp only [h1,k1];simp [asAddr,h2,k2]
theorem We {r:ResultVar} {v:Value} (hr:fn.results=#[r]) (h:RV P n E w0 F H R r v):Res P n E w0 F H R fn v:=⟨fun w hs a ha=>results_1 hr (h.go w hs a ha)⟩
theorem Res_2 {r s:ResultVar} {v x:Value} (hr:fn.results=#[r,s]) (h:RV P n E w0 F H R r v) (k:RV P n E w0 F H R s x):Res P n E w0 F H R fn (.tuple #[v,x]):=⟨fun w hs a ha=>Qo hr (h.go w hs a ha) (k.go w hs a ha)⟩
theorem WQ_res' {v:Value} (hr:Res P n E w0 F H R fn v) (h:∀ w,Sat w0 F H R w→Z (.returned v) w):WQ P n .ret E w0 F H R fn Z [] :=
 ⟨fun w hs a ha=>bodyPost_ret (hr.go w hs a ha) ha.no (h w hs)⟩
theorem T0 {w:World} {ok:Value→Asr→Prop} {may:Prop} {v:Value} (hr:Res P n E w [] H R fn v) (h:ok v R):WQ P n .ret E w [] H R fn (FnZ w ok may) [] :=
 WQ_res' hr fun _ hs=>.inl ⟨v,R,rfl,h,hs.bare⟩
theorem Fn_dies {w:World} {ok:Value→Asr→Prop} {may:Prop} (h:may):WQ P n (.panic Ou) E w [] H R fn (FnZ w ok may) [] :=
 WQ_dies fun _ hs=>.inr ⟨h,rfl,hs.low.below⟩
theorem P_endR {v v':Value} (hr:Res P n E w0 [] H R fn v) (h:v=v'):WQ P n .ret E w0 [] H R fn (fun e w'=>e=.returned v'∧Below w0.heap.size w0 w') [] :=
 WQ_res' hr fun _ hs=>⟨by rw [h],hs.low.below⟩
theorem S4 {u w:World} {b:Nat} {cs':List Value} {ok:Value→List Value→Asr→Prop} {may:Prop} {v:Value} (hr:Res P n E w [b] H R fn v) (i:Nat) (hp:H[i]?=some (b,cs')) (h:ok v cs' R) :
  WQ P n .ret E w [b] H R fn (RcZ u b w ok may) [] :=
 WQ_res' hr fun _ hs=>.inl ⟨v,cs',R,rfl,h,hs.only hp⟩
theorem setCell_row {w:World} {b:Nat} {old v:Value} {t:TypeId} (h:w.heap[b]?=some (.cells #[old] t (0,0))):w.setCell ⟨b,0,none⟩ v=w.setRow b #[v]:=by
 unfold World.setCell World.setRow;congr 1;apply Array.ext_getElem?;intro i;rw [Array.getElem?_modify,Array.getElem?_modify];split
 ·rename_i e;subst e;rw [h];rfl
 ·rfl
theorem Sat.set1 {w:World} (h:Sat w0 F H R w) {i b:Nat} {old v:Value} (hp:H[i]?=some (b,[old])):Sat w0 F (H.set i (b,[v])) R (w.setCell ⟨b,0,none⟩ v):=by
 obtain ⟨t,ht⟩:=h.own _ (List.mem_of_getElem? hp);rw [setCell_row ht];exact h.store (new:=[v]) hp
theorem Sat.cell1 {w:World} (h:Sat w0 F H R w) {i b:Nat} {old:Value} (hp:H[i]?=some (b,[old])):w.cell? ⟨b,0,none⟩=some old∧w.frozen? ⟨b,0,none⟩=false:=by
 obtain ⟨t,ht⟩:=h.own _ (List.mem_of_getElem? hp);refine ⟨by rw [h.mine (List.mem_of_getElem? hp)];rfl,?_⟩;unfold World.frozen?;simp only at ht;simp [ht]
structure AgD (D:List Deferred) (n:Nat) (a:Act) (E:Env):Prop where
 ag:Ag n { a with defers:=[] } E
 no:a.defers=D
structure WLD (P:Program) (n:Nat) (all:Array Oper) (l:List Oper) (E:Env) (w0:World) (F:List Nat) (H:Hp) (R:Asr) (D:List Deferred) (Q:Exit→Act→World→Prop):Prop where
 go:∀ w,Sat w0 F H R w→∀ a,AgD D n a E→wpList P all Q l a w
variable {D:List Deferred} {Q:Exit→Act→World→Prop}
theorem AgD.put {a:Act} (h:AgD D n a E) {d:Nat} (hd:Nat.blt d n=true) (v:Value):AgD D n (a.put (some d) v) ((d,v)::E):=⟨h.ag.put hd v,h.no⟩
theorem Po {all:Array Oper} (h:∀ w,Sat w0 F H R w→∀ a,AgD D n a E→Q .normal a w):WLD P n all [] E w0 F H R D Q:=⟨fun w hs a ha=>wpList_nil (h w hs a ha)⟩
theorem Nh {all:Array Oper} {l:List Oper} {d:Nat} {o:Op} {t:TypeId} {p:String} {x:Array Edge} {v:Value} (hd:Nat.blt d n=true) (he:Ex P n E w0 F H R o v)
  (h:WLD P n all l ((d,v)::E) w0 F H R D Q):WLD P n all (⟨some d,o,t,p,x,none⟩::l) E w0 F H R D Q :=
 ⟨fun w hs a ha=>wpList_plain rfl fun K hK=>by
  have hr:(execOp a.eval ⟨some d,o,t,p,x,none⟩).run P w=.ok (.value v) w:=he.go w hs _ ha.ag (some d) t p x none;unfold Oper.wp;rw [hr];exact hK _ _ (h.go w hs _ (ha.put hd v))⟩
theorem WLD_alloc {all:Array Oper} {l:List Oper} {d:Nat} {s:TypeId} {t:TypeId} {p:String} {e:Array Edge} {cs:List Value} (hd:Nat.blt d n=true) (hz:TZ P s cs)
  (h:∀ b,w0.heap.size≤b→WLD P n all l ((d,pt b)::E) w0 F ((b,cs)::H) R D Q):WLD P n all (⟨some d,.alloc s,t,p,e,none⟩::l) E w0 F H R D Q :=
 ⟨fun w hs a ha=>wpList_plain rfl fun K hK=>by
  have hz':∃ v,(zeroValue s).run P w=.ok v w∧v.cells=cs.toArray:=by
   have h1:=hz w;cases hq:(zeroValue s).run P w with
   | ok v w'=>simp [hq] at h1;exact ⟨v,by rw [h1.2],h1.1⟩
   | halt x w'=>simp [hq] at h1
  obtain ⟨v,hv,hc⟩:=hz'
  have hr:(execOp a.eval ⟨some d,.alloc s,t,p,e,none⟩).run P w=.ok (.value (.pointer (some ⟨w.heap.size,0,none⟩))) (w.alloc (.cells cs.toArray s)):=by
   simp only [execOp];simp [Instr.alloc,hv,newVar,newRow,hc]
  unfold Oper.wp;rw [hr];exact hK _ _ ((h w.heap.size hs.low.size).go (w.alloc _) (hs.alloc cs s) _ (ha.put hd _))⟩
theorem WLD_store {all:Array Oper} {l:List Oper} {t ty k:TypeId} {x y:Operand} {p:String} {e:Array Edge} {b o:Nat} {cs vs:List Value} {v:Value} (ht:∀ w:World,(sizeOf t).run P w=.ok k w) (hx:ev E x=some (.pointer (some ⟨b,o,none⟩))) (hy:ev E y=some v)
  (hv:v.cells=vs.toArray) (hl:vs.length=k) (h1:vs.all (·.oneCell')=true)
  (i:Nat) (hp:H[i]?=some (b,cs)) (hf:Nat.ble (o+vs.length) cs.length=true) (h:WLD P n all l E w0 F (H.set i (b,put cs o vs)) R D Q):WLD P n all (⟨none,.store t x y,ty,p,e,none⟩::l) E w0 F H R D Q :=
 ⟨fun w hs a ha=>wpList_plain rfl fun K hK=>by
  have hr:=O9 (P:=P) (d:=none) (ty:=ty) (p:=p) (e:=e) (g:=none) ht (ha.ag.eval hx) (ha.ag.eval hy) hv hl h1 hs hp hf;unfold Oper.wp;rw [show (execOp a.eval ⟨none,.store t x y,ty,p,e,none⟩).run P w=.ok .skip (w.setRow b (put cs o vs).toArray) from hr];exact hK _ _ (h.go _ (hs.store hp) _ ha)⟩
theorem WLD_defer {all:Array Oper} {l:List Oper} {t ty:TypeId} {ts:Array TypeId} {p:String} {e:Array Edge} {fv:Fn} {cap:Array Value} (hx:look E t=some (.func fv #[] cap))
  (h:WLD P n all l E w0 F H R (⟨.fn fv cap,#[]⟩::D) Q):WLD P n all (⟨none,.defer ⟨.value (.tmp t),#[],ts⟩,ty,p,e,none⟩::l) E w0 F H R D Q :=
 ⟨fun w hs a ha=>wpList_plain rfl fun K hK=>by
  have he:a.eval (.tmp t)=.func fv #[] cap:=ha.ag.eval (x:=.tmp t) hx
  have hr:(execOp a.eval ⟨none,.defer ⟨.value (.tmp t),#[],ts⟩,ty,p,e,none⟩).run P w=.ok (.defer ⟨.fn fv cap,#[]⟩) w:=by
   simp [execOp,resolve,he,Deferred.ofValue]
  unfold Oper.wp;rw [hr];exact hK _ _ (h.go w hs _ ⟨ha.ag,by show _::a.defers=_;rw [ha.no]⟩)⟩
theorem WLD_call {all:Array Oper} {l:List Oper} {d t g:Nat} {ts:Array TypeId} {ty:TypeId} {p:String} {e:Array Edge} {cap:Value} {ok:Value→Asr→Prop} {may:Prop} (hf:IsFn P g)
  (hd:Nat.blt d n=true) (hx:look E t=some (.func (.func g) #[] #[cap])) (hc:∀ w,Sat w0 F H R w→FnP P g #[cap] w ok may) (hn:may→∀ w,Sat w0 F H R w→∀ a,AgD D n a E→Q (.panic Ou) a w)
  (h:∀ v R',ok v R'→WLD P n all l ((d,v)::E) w0 F H (R'.and R) D Q) :
  WLD P n all (⟨some d,.call ⟨.value (.tmp t),#[],ts⟩,ty,p,e,none⟩::l) E w0 F H R D Q :=
 ⟨fun w hs a ha=>wpList_plain rfl fun K hK=>by
  unfold Oper.wp;rw [Np rfl (show a.eval (.tmp t)=_ from ha.ag.eval (x:=.tmp t) hx) hf];refine Calls.mono (P:=P) (f:=g) (by have:=hc w hs;simpa [FnP] using this) ?_;rintro e w' (⟨v,R',rfl,hok,hw⟩ | ⟨hm,rfl,hb⟩)
  ·exact hK _ _ ((h v R' hok).go w' (fn_then hs hw) _ (ha.put hd _))
  ·exact hn hm w' (hs.keep hb) _ ha⟩
end
end E
namespace E
open Go Go.RowKit
theorem Sat.turn {w0 w w':World} {F:List Nat} {H:Hp} {G G' R:Asr} (hs:Sat w0 F H (G.and R) w) (ho:w'.os=w.os∧w'.tape=w.tape∧w'.output=w.output) (hsz:w.heap.size≤w'.heap.size)
  (hne:∀ k,k<w.heap.size→k ∉ G.S→w'.heap[k]?=w.heap[k]?) (hA:G'.A w') (hS:∀ k ∈ G'.S,k<w'.heap.size∧(k ∈ G.S∨w.heap.size≤k)):Sat w0 F H (G'.and R) w':=by
 have hG:∀ k ∈ G.S,(k ∈ F∨w0.heap.size≤k)∧k<w.heap.size:=fun k hk=>hs.rhi k (List.mem_append_left _ hk);have hR:∀ k ∈ R.S,k ∉ G.S:=fun k hk hg=>hs.res.2.2 k hg hk;have hRr:∀ k ∈ R.S,(k ∈ F∨w0.heap.size≤k)∧k<w.heap.size:=fun k hk=>hs.rhi k (List.mem_append_right _ hk);refine ⟨⟨ho.1.trans hs.low.os,ho.2.1.trans hs.low.tape,ho.2.2.trans hs.low.output,Nat.le_trans hs.low.size hsz,fun k hk hF=>?_⟩,fun q hq=>?_,hs.hi,hs.apart,⟨hA,R.st w w' hs.res.2.1 (fun k hk=>hne k (hRr k hk).2 (hR k hk)),fun k h1 h2=>?_⟩,fun k hk=>?_,fun q hq hk=>?_⟩
 ·rw [hne k (Nat.lt_of_lt_of_le hk hs.low.size) (fun hg=>(hG k hg).1.elim hF (fun h=>by omega))];exact hs.low.block k hk hF
 ·rw [hne q.1 (hs.lt hq) (fun hg=>hs.rapart q hq (List.mem_append_left _ hg))];exact hs.own q hq
 ·rcases (hS k h1).2 with h | h
  ·exact hR k h2 h
  ·have:=(hRr k h2).2;omega
 ·rcases List.mem_append.1 hk with hk | hk
  ·refine ⟨?_,(hS k hk).1⟩;rcases (hS k hk).2 with h | h
   ·exact (hG k h).1
   ·exact .inr (Nat.le_trans hs.low.size h)
  ·exact ⟨(hRr k hk).1,Nat.lt_of_lt_of_le (hRr k hk).2 hsz⟩
 ·rcases List.mem_append.1 hk with hk | hk
  ·rcases (hS _ hk).2 with h | h
   ·exact hs.rapart q hq (List.mem_append_left _ h)
   ·have:=hs.lt hq;omega
  ·exact hs.rapart q hq (List.mem_append_right _ hk)
def rep (m:List Value):Nat→List Value
 | 0=>[]
 | k+1=>rep m k++m
theorem Oa (m:List Value):∀ k,(rep m k).length=k*m.length
 | 0=>by simp [rep]
 | k+1=>by rw [rep,List.length_append,Oa m k,Nat.add_mul];omega
theorem rep_get (m:List Value):∀ (k j t:Nat) (x:Value),j<k→m[t]?=some x→(rep m k)[j*m.length+t]?=some x
 | 0,_,_,_,h,_=>by omega
 | k+1,j,t,x,h,hx=>by
  have ht:t<m.length:=by
   rcases Nat.lt_or_ge t m.length with h' | h'
   ·exact h'
   ·rw [List.getElem?_eq_none h'] at hx;cases hx
  rw [rep];by_cases hj:j<k
  ·have h1:(j+1)*m.length≤k*m.length:=Nat.mul_le_mul_right _ hj;rw [Nat.add_mul] at h1;rw [List.getElem?_append_left (by rw [Oa];omega)];exact rep_get m k j t x hj hx
  ·have:j=k:=by omega
   subst this;rw [List.getElem?_append_right (by rw [Oa];omega),Oa];rw [show j*m.length+t - j*m.length=t by omega];exact hx
def marked (w:World) (u:Value) (m:List Value):Prop :=
 ∃ p n c,u=.slice p n c∧n≤maxLen∧(0<n→∃ g,p=some ⟨g,0,none⟩∧∀ j t x,j<n→m[t]?=some x→w.cell? ⟨g,j*m.length+t,none⟩=some x)
theorem marked_kept {w w':World} {u:Value} {m:List Value} (h:marked w u m) (hk:∀ k ∈ u.ownBlock.toList,w'.heap[k]?=w.heap[k]?):marked w' u m:=by
 obtain ⟨p,n,c,rfl,hb,hn⟩:=h;refine ⟨p,n,c,J,hb,fun h0=>?_⟩;obtain ⟨g,rfl,hc⟩:=hn h0;refine ⟨g,J,fun j t x hj hx=>?_⟩;rw [World.cell?_of_block (w:=w) (hk g (by simp [Value.ownBlock]))];exact hc j t x hj hx
theorem marked_own {w:World} {e sz n:Nat} {v:Value} {m:List Value} (h:w.ownsRow 0 e sz v n (rep m n)):marked w v m:=by
 rcases h.2 with ⟨rfl,rfl⟩ | ⟨g,cap,cur,rfl,_,_,hnc,hcm,_⟩
 ·exact ⟨none,0,0,J,Nat.zero_le _,fun h=>by omega⟩
 ·refine ⟨some ⟨g,0,none⟩,n,cap,J,Nat.le_trans hnc hcm,fun _=>⟨g,J,fun j t x hj hx=>?_⟩⟩;have:=h.cells (g:=g) rfl (j*m.length+t) x (rep_get m n j t x hj hx);rw [Addr.add_lit,Nat.zero_add] at this;exact this
def blks (us:List Value):List Nat:=us.flatMap (·.ownBlock.toList)
theorem Ok {us:List Value} {k:Nat}:k ∈ blks us↔∃ u ∈ us,u.ownBlock=some k:=by
 unfold blks;rw [List.mem_flatMap];constructor
 ·rintro ⟨u,hu,hk⟩;refine ⟨u,hu,?_⟩;cases hb:u.ownBlock with
  | none=>rw [hb] at hk;simp at hk
  | some g=>rw [hb] at hk;simp at hk;rw [hk]
 ·rintro ⟨u,hu,hk⟩;exact ⟨u,hu,by rw [hk];simp⟩
def Q7 (mk:Nat→List Value) (vs:List Value):Asr:=⟨blks vs,fun w=>∀ i u,vs[i]?=some u→marked w u (mk (i/4)),fun w w' h hk i u hu =>
 marked_kept (h i u hu) (fun k hm=>hk k (Ok.2 ⟨u,List.mem_of_getElem? hu,by cases hb:u.ownBlock with | none=>rw [hb] at hm;simp at hm | some g=>rw [hb] at hm;simp at hm;rw [hm]⟩))⟩
def short (u:Value) (n:Nat):Prop:=∃ p k c,u=.slice p k c∧k≤n
def Ry (e sz:Nat) (m:List Value) (v:Value) (n:Nat) (us:List Value):Asr:=⟨v.ownBlock.toList++blks us,fun w=>w.ownsRow 0 e sz v n (rep m n)∧∀ u ∈ us,marked w u m∧short u n,fun w w' h hk =>
 ⟨owns_kept h.1 (fun k hm=>hk k (List.mem_append_left _ hm)),fun u hu=>⟨marked_kept (h.2 u hu).1 (fun k hm=>hk k (List.mem_append_right _ (Ok.2 ⟨u,hu,by cases hb:u.ownBlock with | none=>rw [hb] at hm;simp at hm | some g=>rw [hb] at hm;simp at hm;rw [hm]⟩))),(h.2 u hu).2⟩⟩⟩
theorem Qu {e sz n:Nat} {m:List Value} {v:Value}:(Y0 e sz v n (rep m n)).Imp (Ry e sz m v n []):=⟨fun k hk=>by simpa [Ry,blks,Y0] using hk,fun w h=>⟨h,fun u hu=>by cases hu⟩⟩
theorem Og {e sz n:Nat} {mk:Nat→List Value} {v:Value} {vs us:List Value} (h4:vs.length % 4=0) (hu:us.length≤4):((Ry e sz (mk (vs.length/4)) v n us).and (Q7 mk vs)).Imp (Q7 mk (vs++us)):=by
 refine ⟨fun k hk=>?_,fun w h i u hi=>?_⟩
 ·obtain ⟨u,hu,hb⟩:=Ok.1 hk;rcases List.mem_append.1 hu with hu | hu
  ·exact List.mem_append_right _ (Ok.2 ⟨u,hu,hb⟩)
  ·exact List.mem_append_left _ (List.mem_append_right _ (Ok.2 ⟨u,hu,hb⟩))
 ·by_cases hiv:i<vs.length
  ·rw [List.getElem?_append_left hiv] at hi;exact h.2.1 i u hi
  ·rw [List.getElem?_append_right (by omega)] at hi
   have hlt:i - vs.length<us.length:=by
    rcases Nat.lt_or_ge (i - vs.length) us.length with h' | h'
    ·exact h'
    ·rw [List.getElem?_eq_none h'] at hi;cases hi
   have e:i/4=vs.length/4:=by omega
   rw [e];exact (h.1.2 u (List.mem_of_getElem? hi)).1
section
variable {P:Program}
theorem append_kind {w w':World} {t ty e size bytes:Nat} {z v v':Value} {k m c:Nat} {xs news:List Value} {a:Addr} (ht:TA P t e size bytes z) (hown:w.ownsRow 0 e size v k xs)
  (hl:news.length=m*size) (hnews:∀ j u,news[j]?=some u→w.cell? (a.add j)=some u) (h1:∀ u ∈ news,u.oneCell'=true)
  (h63:k+m≤maxLen) (hbytes:(k+m)*bytes≤140737488355328) (hr:(Builtin.append_ #[t,t] ty #[v,.slice (some a) m c]).run P w=.ok v' w') :
  v'.ownBlock=v.ownBlock∨∀ k,k<w.heap.size→w'.heap[k]?=w.heap[k]?:=by
 obtain ⟨i,hi,hz,hs,hb⟩:=info_parts ht.inf;subst hs;subst hb;have hsmall:k+m≤9223372036854775807:=by simp only [maxLen] at h63;omega
 rcases hown.2 with ⟨rfl,rfl⟩ | ⟨g0,cap,cur,rfl,_,hg0,hnc,hcm,hcs,htake⟩
 ·by_cases hm:m=0
  ·subst hm
   have hr':(Builtin.append_ #[t,t] ty #[.slice none 0 0,.slice (some a) 0 c]).run P w=.ok (.slice none 0 0) w:=by
    simp [Builtin.append_,run_underlying ht.sl,sizeOf,typeInfo,hi,Builtin.lenOf,Builtin.firstCells,loadCells,loadCellsFrom]
   rw [hr'] at hr;cases hr;exact .inl J
  ·have hr':=run_append_nil (P:=P) w t ty e i z ht.sl hi hz a m c news hl hnews (by omega) (by omega) (by have hb:=hbytes;simp only [Nat.zero_add] at hb;omega);rw [hr] at hr';cases hr';exact .inr fun k hk=>heap_alloc_old w.drew _ hk
 ·by_cases hroom:k+m≤cap
  ·have hfit:k*i.size+news.length≤cur.size:=by rw [hl,hcs,← Nat.add_mul];exact Nat.mul_le_mul_right _ hroom
   have hr':=run_append_room (P:=P) w t ty e i ht.sl hi g0 k cap cur hg0 a m c news hl hnews h1 hroom hfit;rw [hr] at hr';cases hr';exact .inl J
  ·have holds:∀ j u,xs[j]?=some u→w.cell? ((⟨g0,0,none⟩:Addr).add j)=some u:=hown.cells (g:=g0) rfl;have hr':=run_append_grow (P:=P) w t ty e i z ht.sl hi hz ⟨g0,0,none⟩ k cap xs hown.1 holds a m c news hl hnews (by omega) (by omega) (growslice_fits (by omega) hbytes);rw [hr] at hr';cases hr';exact .inr fun k hk=>heap_alloc_old w.drew _ hk
variable {n:Nat} {E:Env} {w0:World} {F:List Nat} {H:Hp} {R:Asr} {fn:Func} {Z:Ending→World→Prop} {κ:List Kf}
theorem Li {all:Array Oper} {l:List Oper} {d:Nat} {t ty e sz bytes:Nat} {z v:Value} {x y:Operand} {p:String} {g:Array Edge} {k c b:Nat} {m us:List Value} (hd:Nat.blt d n=true) (ht:TA P t e sz bytes z) (hx:ev E x=some v)
  (hy:ev E y=some (.slice (some ⟨b,0,none⟩) 1 c)) (hc:Row w0 F H ((Ry e sz m v k us).and R) b 0 m) (hl:m.length=sz) (h1:m.all (·.oneCell')=true) (h63:k+1≤maxLen) (hbytes:(k+1)*bytes≤140737488355328)
  (h:∀ v',WL P n all l ((d,v')::E) w0 F H ((Ry e sz m v' (k+1) (us++[v])).and R) fn Z κ) :
  WL P n all (⟨some d,.call ⟨.builtin .append,#[x,y],#[t,t]⟩,ty,p,g,none⟩::l) E w0 F H ((Ry e sz m v k us).and R) fn Z κ :=
 ⟨fun w hs a ha=>wpList_plain rfl fun K hK=>by
  obtain ⟨i,hi,hz,hsz,hb⟩:=info_parts ht.inf;have hnews:∀ j u,m[j]?=some u→w.cell? ((⟨b,0,none⟩:Addr).add j)=some u:=fun j u hj=>by rw [Addr.add_lit];exact hc.go w hs j u hj
  have hown:w.ownsRow 0 e sz v k (rep m k):=hs.res.1.1;have hl':m.length=1*sz:=by omega
  obtain ⟨v',w',hr,ho,hg,_⟩:=run_append_own w 0 t ty e i z sz bytes ht.sl hi hz hsz hb ht.zs ht.pos v k (rep m k) hown ⟨b,0,none⟩ 1 c m hl' hnews (Pj h1) h63 hbytes (Nat.zero_le _);have hw:=Le ht hown hl' hnews (Pj h1) h63 hbytes hr;have hkind:=append_kind ht hown hl' hnews (Pj h1) h63 hbytes hr
  have he:(execOp a.eval ⟨some d,.call ⟨.builtin .append,#[x,y],#[t,t]⟩,ty,p,g,none⟩).run P w=.ok (.value v') w':=by
   simp only [execOp,resolve,invoke,builtin];simp [ha.eval hx,ha.eval hy,hr]
  unfold Oper.wp;rw [he]
  have hin:∀ u ∈ us++[v],∀ g,u.ownBlock=some g→g ∈ (Ry e sz m v k us).S:=by
   intro u hu g hgb;rcases List.mem_append.1 hu with hu | hu
   ·exact List.mem_append_right _ (Ok.2 ⟨u,hu,hgb⟩)
   ·simp only [List.mem_singleton] at hu;rw [hu] at hgb;exact List.mem_append_left _ (by rw [hgb];simp)
  have hold:∀ u ∈ us++[v],marked w u m∧short u k:=by
   intro u hu;rcases List.mem_append.1 hu with hu | hu
   ·exact hs.res.1.2 u hu
   ·simp only [List.mem_singleton] at hu;subst hu;refine ⟨marked_own hown,?_⟩;rcases hown.2 with ⟨rfl,rfl⟩ | ⟨g,cap,cur,rfl,_⟩
    ·exact ⟨_,_,_,J,Nat.le_refl _⟩
    ·exact ⟨_,_,_,J,Nat.le_refl _⟩
  have hGlt:∀ g ∈ (Ry e sz m v k us).S,g<w.heap.size:=fun g hg=>(hs.rhi g (List.mem_append_left _ hg)).2
  have hA:(Ry e sz m v' (k+1) (us++[v])).A w':=by
   refine ⟨ho,fun u hu=>⟨?_,?_⟩⟩
   ·obtain ⟨hm,pu,ku,cu,rfl,hku⟩:=hold u hu;by_cases hsame:(Value.slice pu ku cu).ownBlock=v.ownBlock∧v'.ownBlock=v.ownBlock
    ·obtain ⟨p',n',c',he',hbb,hmm⟩:=hm;cases he';refine ⟨pu,ku,cu,J,hbb,fun h0=>?_⟩;obtain ⟨gg,rfl,_⟩:=hmm h0;refine ⟨gg,J,fun j tt x hj hx=>?_⟩;have hvb:v'.ownBlock=some gg:=by rw [hsame.2,← hsame.1];rfl
     have hcell:=ho.cells (g:=gg) (by
      rcases ho.2 with ⟨_,h0'⟩ | ⟨g',cap,cur,hv',_⟩
      ·omega
      ·rw [hv'] at hvb ⊢;simp only [Value.ownBlock,Option.some.injEq] at hvb ⊢;exact hvb) (j*m.length+tt) x (rep_get m (k+1) j tt x (by omega) hx)
     rw [Addr.add_lit,Nat.zero_add] at hcell;exact hcell
    ·refine marked_kept hm (fun q hq=>?_)
     have hqb:(Value.slice pu ku cu).ownBlock=some q:=by
      cases hb':(Value.slice pu ku cu).ownBlock with
      | none=>rw [hb'] at hq;simp at hq
      | some g'=>rw [hb'] at hq;simp at hq;rw [hq]
     have hqlt:=hGlt q (hin _ hu q hqb);rcases hkind with h2 | h2
     ·exact hg.block q hqlt (fun e'=>hsame ⟨by rw [hqb,e'],h2⟩)
     ·exact h2 q hqlt
   ·obtain ⟨_,pu,ku,cu,rfl,hku⟩:=hold u hu;exact ⟨pu,ku,cu,J,by omega⟩
  refine hK _ _ ((h v').go w' (hs.turn ⟨hg.os,hg.tape,hg.output⟩ hg.size (fun q hq hn=>hg.block q hq (fun e'=>hn (List.mem_append_left _ (by rw [← e'];simp)))) hA (fun q hq=>?_)) _ (ha.put hd v'));rcases List.mem_append.1 hq with hq | hq
  ·have hqb:v'.ownBlock=some q:=by
    cases hb':v'.ownBlock with
    | none=>rw [hb'] at hq;simp at hq
    | some g'=>rw [hb'] at hq;simp at hq;rw [hq]
   refine ⟨owns_lt ho q hqb,?_⟩;rcases hw q hqb with h2 | h2
   ·exact .inl (List.mem_append_left _ (by rw [h2];simp))
   ·exact .inr h2
  ·obtain ⟨u,hu,hb'⟩:=Ok.1 hq;have:=hin u hu q hb';exact ⟨Nat.lt_of_lt_of_le (hGlt q this) hg.size,.inl this⟩⟩
end
end E
end Go.Proofs.YtpofmnfkdkmieaaGreat
