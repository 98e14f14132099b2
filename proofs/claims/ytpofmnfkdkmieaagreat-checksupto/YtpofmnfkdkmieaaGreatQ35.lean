/- What is proved here: rules for code that is gone through in a -/
import Derived.Test.YtpofmnfkdkmieaaGreatQ34
import Derived.RangeFuncCalls
import Derived.RangeFuncLeaves
import Derived.RangeFuncRecord
import Derived.TacticsIn
set_option linter.unusedVariables false
set_option linter.unusedSimpArgs false
namespace Go.Proofs.YtpofmnfkdkmieaaGreat
namespace E
open Go Go.RowKit
def Wd (ro:Option Nat):Fence:={ Fence.wide with round:=ro }
theorem callsW {ro:Option Nat} {m:Nat} {P:Program} {f:FuncId} {args:Array Value} {w:World} {R:Ending→World→Prop} (h:Calls P f args w R):CallsIn (Wd ro) m P f args w R:=(callsIn_wide (n:=m)).2 h
theorem rowsW {ro:Option Nat} {m:Nat} {P:Program} {row:String} {args:Array Value} {w:World} {R:Value→World→Prop} (h:Go.Rows P row args w R):RowsIn (Wd ro) m P row args w R:=fun c cs _ =>
 let ⟨v,w',r,s⟩:=h c cs
 ⟨v,w',r,stepsIn_wide.2 s⟩
def noDef (o:Oper):Bool:=match o.op with
 | .defer _=>false
 | _=>true
theorem noDef_ne {o:Oper} (h:noDef o=true):∀ c,o.op≠.defer c:=fun c e=>by unfold noDef at h;rw [e] at h;cases h
theorem upon_in {ro:Option Nat} {m:Nat} {P:Program} {o:Oper} {a:Act} {next next':Act→World→Prop} {Q Q':Exit→Act→World→Prop} (hQ:¬ LetsOut Q) (hP:∀ c a w,Q (.panic c) a w→Q' (.panic c) a w) (hn:∀ a w,next a w→next' a w) :
  ∀ r,o.upon P a next Q r→o.uponIn (Wd ro) m P a next' Q' r:=by
 intro r h;cases r with
 | ok nx w' =>
  cases nx with
  | value v=>exact hn _ _ h
  | skip=>exact hn _ _ h
  | defer d=>exact hn _ _ h
  | enter f args =>
   refine ⟨fun h=>(by cases h),(callsW h).mono fun e w'' he=>?_⟩;cases e with
   | returned v=>exact hn _ _ he
   | panicked c=>exact hP _ _ _ he
   | outgrown=>exact (hQ he).elim
  | row row args=>exact ⟨fun h=>(by cases h),(rowsW h).mono fun v w'' he=>hn _ _ he⟩
  | _=>exact False.elim h
 | halt hh w' =>
  cases hh with
  | panic v=>exact hP _ _ _ h
  | _=>exact False.elim h
theorem list_in {ro:Option Nat} {m:Nat} {P:Program} {ops:Array Oper} {Q Q':Exit→Act→World→Prop} (hQ:¬ LetsOut Q) (hN:∀ a w,Q .normal a w→Q' .normal a w) (hP:∀ c a w,Q (.panic c) a w→Q' (.panic c) a w) :
  ∀ (l:List Oper) (a:Act) (w:World),l.all noDef=true→wpList P ops Q l a w→wpListIn (Wd ro) m P ops Q' l a w
 | [],a,w,_,h=>hN a w h
 | o::l,a,w,hd,h=>by
  simp only [List.all_cons,Bool.and_eq_true] at hd;simp only [wpList] at h;simp only [wpListIn];by_cases hw:Region.wanted o (yielded ops a.tmps)=true
  ·simp only [hw,if_true] at h ⊢;rcases h with h | ⟨_,h⟩
   ·refine ⟨fun _ _=>trivial,?_⟩;rw [Oper.semAt_eq _ _ _ (noDef_ne hd.1)];exact upon_in hQ hP (fun a w=>list_in hQ hN hP l a w hd.2) _ h
   ·exact (hQ h).elim
  ·simp only [hw] at h ⊢;exact ⟨fun _ _=>trivial,list_in hQ hN hP l _ _ hd.2 h⟩
structure RC (ro:Option Nat) (m:Nat) (P:Program) (n:Nat) (c:Code) (E:Env) (w0:World) (F:List Nat) (H:Hp) (R:Asr) (Q:Exit→Act→World→Prop):Prop where
 go:∀ w,Sat w0 F H R w→∀ a,Ag n a E→c.wpIn (Wd ro) m P Q a w
structure RQ (n:Nat) (E:Env) (w0:World) (F:List Nat) (H:Hp) (R:Asr) (Q:Act→World→Prop):Prop where
 go:∀ w,Sat w0 F H R w→∀ a,Ag n a E→Q a w
structure RL (ro:Option Nat) (m:Nat) (P:Program) (n:Nat) (all:Array Oper) (l:List Oper) (E:Env) (w0:World) (F:List Nat) (H:Hp) (R:Asr) (Q:Exit→Act→World→Prop):Prop where
 go:∀ w,Sat w0 F H R w→∀ a,Ag n a E→wpListIn (Wd ro) m P all Q l a w
section
variable {ro:Option Nat} {m:Nat} {P:Program} {n:Nat} {E:Env} {w0:World} {F:List Nat} {H:Hp} {R:Asr} {Q:Exit→Act→World→Prop}
theorem Oq {x y:Code} (h:RC ro m P n x E w0 F H R (Exit.then (y.wpIn (Wd ro) m P Q) Q)):RC ro m P n (.seq x y) E w0 F H R Q:=⟨fun w hs a ha=>wpIn_seq (h.go w hs a ha)⟩
theorem Mm {id:Nat} {c:Code} (h:RC ro m P n c E w0 F H R (Exit.inBlock id Q)):RC ro m P n (.block id c) E w0 F H R Q:=⟨fun w hs a ha=>wpIn_block (h.go w hs a ha)⟩
theorem RC_skip (h:RQ n E w0 F H R (Q .normal)):RC ro m P n .skip E w0 F H R Q:=⟨fun w hs a ha=>wpIn_skip (h.go w hs a ha)⟩
theorem RC_exit {id:Nat} (h:RQ n E w0 F H R (Q (.exit id))):RC ro m P n (.exit id) E w0 F H R Q:=⟨fun w hs a ha=>wpIn_exit (h.go w hs a ha)⟩
theorem RC_if {s:Nat} {x y:Code} {t:Bool} (hc:look E s=some (.bool t)) (ht:t=true→RC ro m P n x E w0 F H R Q) (hf:t=false→RC ro m P n y E w0 F H R Q):RC ro m P n (.cond (.tmp s) x y) E w0 F H R Q :=
 ⟨fun w hs a ha=>wpIn_cond_split (t:=t) (ha.eval hc) (fun h=>(ht h).go w hs a ha) (fun h=>(hf h).go w hs a ha)⟩
theorem RQ_rc {c:Code} (h:RC ro m P n c E w0 F H R Q):RQ n E w0 F H R (fun a w=>c.wpIn (Wd ro) m P Q a w):=⟨h.go⟩
theorem Om {fn:Func} {Z:Ending→World→Prop} {K:Act→World→Prop} (h:RQ n E w0 F H R K):WQ P n .normal E w0 F H R fn Z [⟨2,0,.skip,K⟩]:=⟨h.go⟩
theorem Uc {id:Nat} {l:List Oper} (fn:Func) (Z:Ending→World→Prop) (hd:l.all noDef=true) (hZ:∀ w,¬ Z .outgrown w) (hP:∀ c a w,a.defers=[]→Z (.panicked c) w→Q (.panic c) a w)
  (h:WL P n l.toArray l E w0 F H R fn Z [⟨2,0,.skip,Q .normal⟩]):RC ro m P n (.region id l.toArray false) E w0 F H R Q :=
 ⟨fun w hs a ha=>wpIn_region_lit (list_in (Q:=den P fn Z [⟨2,0,.skip,Q .normal⟩]) (Q':=Q) (by rintro ⟨a,w,h⟩;exact hZ _ h) (fun _ _ h=>h) (fun c a w h=>hP c a w h.1 h.2) l a w hd (h.go w hs a ha))⟩
theorem RC_regionY {id:Nat} {l:List Oper} (h:RL ro m P n l.toArray l E w0 F H R Q):RC ro m P n (.region id l.toArray false) E w0 F H R Q:=⟨fun w hs a ha=>wpIn_region_lit (h.go w hs a ha)⟩
theorem RL_nil {all:Array Oper} (h:RQ n E w0 F H R (Q .normal)):RL ro m P n all [] E w0 F H R Q:=⟨fun w hs a ha=>h.go w hs a ha⟩
theorem RL_op {all:Array Oper} {l:List Oper} {d:Nat} {o:Op} {t:TypeId} {p:String} {x:Array Edge} {v:Value} (hd:Nat.blt d n=true) (hn:noDef ⟨some d,o,t,p,x,none⟩=true) (he:Ex P n E w0 F H R o v)
  (h:RL ro m P n all l ((d,v)::E) w0 F H R Q):RL ro m P n all (⟨some d,o,t,p,x,none⟩::l) E w0 F H R Q :=
 ⟨fun w hs a ha=>wpListIn_plain rfl fun K hK=>by
  refine ⟨fun _ _=>trivial,?_⟩;rw [Oper.semAt_eq _ _ _ (noDef_ne hn),he.go w hs a ha];exact hK _ _ (h.go w hs _ (ha.put hd v))⟩
theorem run_yieldV {d:Option Nat} {t:TypeId} {p:String} {x:Array Edge} {ts:Array TypeId} {a:Act} {g:Operand} {xs:List Operand} {l:Nat} {w:World} (hg:a.eval g=.func (.yield l) #[] #[]) :
  (execOp a.eval ⟨d,.call ⟨.value g,xs.toArray,ts⟩,t,p,x,none⟩).run P w=(Instr.yield l (xs.toArray.map a.eval)).run P w:=by
 simp [execOp,resolve,Deferred.ofValue,hg,invoke]
theorem RL_yield {all:Array Oper} {l:List Oper} {d L:Nat} {g:Operand} {xs:List Operand} {vs:List Value} {ts:Array TypeId} {t:TypeId} {p:String} {e:Array Edge} (hd:Nat.blt d n=true) (hg:ev E g=some (.func (.yield L) #[] #[])) (hx:args E xs=some vs) (Y:Ending→World→Prop)
  (hY:∀ w,Sat w0 F H R w→YieldAt (Wd none) (m - 1) P L vs.toArray w Y)
  (h:∀ v w,Y (.returned v) w→∃ H' R',Sat w0 F H' R' w∧RL ro m P n all l ((d,v)::E) w0 F H' R' Q) (hp:∀ c a w,a.defers=[]→Y (.panicked c) w→Q (.panic c) a w) (ho:∀ w,¬ Y .outgrown w) :
  RL ro m P n all (⟨some d,.call ⟨.value g,xs.toArray,ts⟩,t,p,e,none⟩::l) E w0 F H R Q :=
 ⟨fun w hs a ha=>wpListIn_plain rfl fun K hK=>by
  refine ⟨fun _ _=>trivial,?_⟩;obtain ⟨f,tmps,assign,body,hy,hr⟩:=hY w hs;rw [Oper.semAt_eq _ _ _ (noDef_ne rfl),run_yieldV (ha.eval hg),Ve ha xs vs hx,hy];refine ⟨fun h=>(by cases h),?_⟩;refine RoundIn.mono (show RoundIn (Wd ro) (m - 1) P L f tmps assign body w Y from hr) fun e w' he=>?_;cases e with
  | returned v =>
   obtain ⟨H',R',hs',hrl⟩:=h v w' he;exact hK _ _ (hrl.go w' hs' _ (ha.put hd v))
  | panicked c=>exact hp c a w' ha.no he
  | outgrown=>exact (ho w' he).elim⟩
theorem RC_loop {X:Type} {c:Code} (E:X→Env) (w0:World) (F:List Nat) (H:X→Hp) (R:X→Asr) (I:X→Prop) (μ:X→Nat) (x0:X) (hI:I x0)
  (h:∀ x,I x→RC ro m P n c (E x) w0 F (H x) (R x) (Exit.then (fun a w=>∃ y,μ y<μ x∧I y∧Sat w0 F (H y) (R y) w∧Ag n a (E y)) Q)):RC ro m P n (.loop c) (E x0) w0 F (H x0) (R x0) Q:=by
 refine ⟨?_⟩;intro w hs a ha b k cs hro hb hr
 have key:∀ N x a w,μ x=N→I x→Sat w0 F (H x) (R x) w→Ag n a (E x) →
   ∃ e a' w',Q e a' w'∧ArrivesIn (Machine.fenced P (Wd ro)) P (lone (b.atR a (.code c::.inLoop c::k)) cs w) b k cs e a' w':=by
  intro N;induction N using Nat.strongRecOn with
  | _ N ih =>
   intro x a w hN hIx hs ha;obtain ⟨e,a₁,w₁,hq,harr⟩:=(h x hIx).go w hs a ha b (.inLoop c::k) cs hro hb hr;cases e with
   | normal =>
    obtain ⟨y,hlt,hIy,hs₁,ha₁⟩:=hq;obtain ⟨e₂,a₂,w₂,hq₂,harr₂⟩:=ih (μ y) (hN ▸ hlt) y a₁ w₁ rfl hIy hs₁ ha₁;exact ⟨e₂,a₂,w₂,hq₂,.of_steps (StepsIn.trans harr (.one (fenced_calm hb hr J) stepR_inLoop)) harr₂⟩
   | exit id=>exact ⟨_,a₁,w₁,hq,.pass (x:=.inLoop c) rfl (fun _ _=>.inl (by simp)) harr⟩
   | goto l=>exact ⟨_,a₁,w₁,hq,.pass (x:=.inLoop c) rfl (fun _ _=>.inl (by simp)) harr⟩
   | ret=>exact ⟨_,a₁,w₁,hq,.pass (x:=.inLoop c) rfl (fun _ _=>.inl (by simp)) harr⟩
   | panic ch=>exact ⟨_,a₁,w₁,hq,.pass (x:=.inLoop c) rfl (fun _ _=>.inl (by simp)) harr⟩
   | outgrown=>exact ⟨_,a₁,w₁,hq,.pass (x:=.inLoop c) rfl (fun _ _=>.inl (by simp)) harr⟩
 obtain ⟨e,a',w',hq,harr⟩:=key _ x0 a w rfl hI hs ha;exact ⟨e,a',w',hq,.of_steps (.one (fenced_calm hb hr J) stepR_loop) harr⟩
end
def roundQ (P:Program) (l:Nat) (Y:Ending→World→Prop):Exit→Act→World→Prop
 | .normal,_,w=>∃ v w',(Instr.endRound l none).run P w=.ok v w'∧Y (.returned v) w'
 | .panic c,a,w=>a.defers=[]∧Y (.panicked c) w
 | _,_,_=>False
theorem round_in {m:Nat} {P:Program} {l:Nat} {f:FuncId} {fn:Func} {tmps:Array Value} {assign body:Code} {w:World} {Y:Ending→World→Prop} (hf:P.funcs[f]?=some fn)
  (h:assign.wpIn (Wd (some l)) m P (Exit.then (fun a₁ w₁=>∃ w₂,(Instr.beginRound l).run P w₁=.ok () w₂∧body.wpIn (Wd (some l)) m P (roundQ P l Y) a₁ w₂) (fun _ _ _=>False)) { tmps:=tmps,defers:=[] } w):RoundIn (Wd none) m P l f tmps assign body w Y:=by
 refine ⟨trivial,fun c cs hr=>?_⟩;let b:Frame:={ (default:Frame) with fn:=f,kind:=.normal,roundOf:=some l }
 have hb0:Frame.round l f tmps assign body .normal=b.atR { tmps:=tmps,defers:=[] } [.code assign,.beginRound,.code body]:=by
  simp [Frame.round,Frame.atR,b]
 have hr':(Wd (some l)).room ((c::cs).length+1+m):=hr;have hF':(Wd (some l)).fn b.fn:=trivial;obtain ⟨e,a₁,w₁,hq,harr⟩:=h b [.beginRound,.code body] (c::cs) rfl hF' hr';rw [← hb0] at harr;cases e with
 | normal =>
  obtain ⟨w₂,hbr,hbody⟩:=hq
  have s1:StepsIn (Machine.fenced P (Wd (some l))) P (lone (b.atR a₁ [.beginRound,.code body]) (c::cs) w₁) (lone (b.atR a₁ [.code body]) (c::cs) w₂) :=
   .one (fenced_calm (fr:=b.atR a₁ [.beginRound,.code body]) hF' hr' rfl) (stepR_beginRound rfl hbr)
  obtain ⟨e₂,a₂,w₃,hq₂,harr₂⟩:=hbody b [] (c::cs) rfl hF' hr';cases e₂ with
  | normal =>
   obtain ⟨v,w₄,hend,hR⟩:=hq₂;exact ⟨.returned v,w₄,hR,(StepsIn.trans harr s1).trans (StepsIn.trans harr₂ (.one (fenced_calm (fr:=b.atR a₂ []) hF' hr' J) (stepR_round_end J J hend)))⟩
  | panic chain =>
   obtain ⟨hno,hR⟩:=hq₂;obtain ⟨todo,hs⟩:=harr₂;have hl:({ b.atR a₂ todo with mode:=.panicking chain }:Frame).leaving P w₃ (.panicked chain):=⟨rfl,hno,fn,hf⟩;exact ⟨.panicked chain,w₃,hR,(StepsIn.trans harr s1).trans (StepsIn.trans hs (.one (fenced_leaving (n:=m) trivial hr' hl) (step_leave_panicked hl)))⟩
  | _=>exact hq₂.elim
 | _=>exact hq.elim
def Na (L:Nat) (r:Loop):Asr:=⟨[L],fun w=>w.heap[L]?=some (.loop r),fun w w' h hk=>by rw [hk L List.mem_cons_self];exact h⟩
theorem Sat.putOne {w0 w:World} {F:List Nat} {H:Hp} {A A' R:Asr} {b:Nat} (hA:A.S=[b]) (hA':A'.S=[b]) (hs:Sat w0 F H (A.and R) w) (o:Obj) (ho:A'.A (w.putObj b o)):Sat w0 F H (A'.and R) (w.putObj b o):=by
 have hbS:b ∈ (A.and R).S:=List.mem_append_left _ (by rw [hA];exact List.mem_cons_self);have hSS:(A'.and R).S=(A.and R).S:=by show A'.S++R.S=A.S++R.S;rw [hA,hA']
 have hsz:(w.putObj b o).heap.size=w.heap.size:=World.putObj_size;have hne:∀ k,k≠b→(w.putObj b o).heap[k]?=w.heap[k]?:=fun k hk=>World.putObj_heap_other hk;refine ⟨⟨hs.low.os,hs.low.tape,hs.low.output,by rw [hsz];exact hs.low.size,fun k hk hF=>?_⟩,?_,hs.hi,hs.apart,⟨ho,?_,?_⟩,?_,?_⟩
 ·have hkb:k≠b:=fun e=>by
   subst e;rcases (hs.rhi _ hbS).1 with h | h
   ·exact hF h
   ·omega
  rw [hne k hkb];exact hs.low.block k hk hF
 ·intro p hp;have hpb:p.1≠b:=fun e=>hs.rapart p hp (e ▸ hbS);rw [hne _ hpb];exact hs.own p hp
 ·refine R.st w _ hs.res.2.1 fun k hk=>?_;have hkb:k≠b:=fun e=>hs.res.2.2 b (by rw [hA];exact List.mem_cons_self) (e ▸ hk);exact hne k hkb
 ·rw [hA'];have:=hs.res.2.2;rw [hA] at this;exact this
 ·rw [hSS,hsz];exact hs.rhi
 ·rw [hSS];exact hs.rapart
section
variable {ro:Option Nat} {m:Nat} {P:Program} {n:Nat} {E:Env} {w0:World} {F:List Nat} {H:Hp} {R:Asr} {Q:Exit→Act→World→Prop}
theorem RQ_begin {L:Nat} {r:Loop} {body:Code} (hr:r.state=.ready) (h:RC ro m P n body E w0 F H ((Na L { r with state:=.busy }).and R) Q):RQ n E w0 F H ((Na L r).and R) (fun a w=>∃ w₂,(Instr.beginRound L).run P w=.ok () w₂∧body.wpIn (Wd ro) m P Q a w₂) :=
 ⟨fun w hs a ha=>by
  have hL:w.heap[L]?=some (.loop r):=hs.res.1;have hlt:L<w.heap.size:=(Array.getElem?_eq_some_iff.1 hL).1;exact ⟨_,run_beginRound hL hr,h.go _ (Sat.putOne J J hs _ (World.putObj_heap_same hlt)) a ha⟩⟩
theorem RQ_endR {L:Nat} {r:Loop} {Y:Ending→World→Prop} (h:∀ w,Sat w0 F H ((Na L { r with state:=.ready,pending:=none }).and R) w→Y (.returned (.bool true)) w):RQ n E w0 F H ((Na L r).and R) (roundQ P L Y .normal) :=
 ⟨fun w hs a ha=>by
  have hL:w.heap[L]?=some (.loop r):=hs.res.1;have hlt:L<w.heap.size:=(Array.getElem?_eq_some_iff.1 hL).1;exact ⟨_,_,run_endRound none hL,h _ (Sat.putOne J J hs _ (World.putObj_heap_same hlt))⟩⟩
theorem yield_at {L:Nat} {r:Loop} {vs:Array Value} {w:World} {Y:Ending→World→Prop} (hL:w.heap[L]?=some (.loop r)) (hsz:vs.size=r.params.size) (h:RoundIn (Wd none) m P L r.fn ((r.params.zip vs).foldl (fun tmps (t,a)=>tmps.setIfInBounds t a) r.tmps) r.assign r.body w Y):YieldAt (Wd none) m P L vs w Y :=
 ⟨_,_,_,_,run_yield hL hsz,h⟩
def Sq (w:World) (fn:FuncId) (tmps:Array Value) (ps:Array Tmp) (assign body:Code):World :=
 (w.alloc (.deferred (some []))).alloc (.loop { state:=.ready,pending:=none,fn,tmps,params:=ps,assign,body,defers:=w.heap.size })
theorem ag_enter {fn:Func} {args:List Value} (hn:fn.ntmps=n):Ag n { tmps:=args.toArray++Array.replicate (fn.ntmps - args.toArray.size) undef,defers:=[] } (Nb 0 args):=by
 refine ⟨?_,J,?_⟩
 ·simp only [Array.size_append,Array.size_replicate,hn];omega
 ·intro i v hv;have h1:args.toArray[i]?=some v:=by have:=(Q6 args 0 i v hv).2;simpa using this
  have hi:i<args.toArray.size:=(Array.getElem?_eq_some_iff.1 h1).1;rw [Array.getElem?_append_left hi];exact h1
theorem opensR {f:FuncId} {fn:Func} {c:Code} {args:List Value} {w:World} {Y:Ending→World→Prop} (hS:Sat w F H R w) (hf:P.funcs[f]?=some fn) (hb:fn.body=some c) (hn:fn.ntmps=n)
  (h:RC none m P n c (Nb 0 args) w F H R (bodyPost P fn Y)):CallsIn (Wd none) m P f args.toArray w Y :=
 callsIn_of_wp hf hb trivial (h.go w hS _ (ag_enter hn)) rfl
theorem WL_boxV {fn:Func} {Z:Ending→World→Prop} {κ:List Kf} {all:Array Oper} {l:List Oper} {d:Nat} {s:TypeId} {x:Operand} {t:TypeId} {p:String} {e:Array Edge} {v:Value} (hd:Nat.blt d n=true) (hx:ev E x=some v) (hv:v.cells=#[v])
  (h:∀ b,w0.heap.size≤b→WL P n all l ((d,pt b)::E) w0 F ((b,[v])::H) R fn Z κ):WL P n all (⟨some d,.box s x,t,p,e,none⟩::l) E w0 F H R fn Z κ :=
 ⟨fun w hs a ha=>wpList_plain rfl fun K hK=>by
  have hr:(execOp a.eval ⟨some d,.box s x,t,p,e,none⟩).run P w=.ok (.value (.pointer (some ⟨w.heap.size,0,none⟩))) (w.alloc (.cells [v].toArray s)):=by
   simp only [execOp];rw [ha.eval hx];simp [Instr.box,newVar,newRow,hv]
  unfold Oper.wp;rw [hr];exact hK _ _ ((h w.heap.size hs.low.size).go (w.alloc _) (hs.alloc [v] s) _ (ha.put hd _))⟩
end
def onFn (f0:FuncId) (P:Program) (c:Code) (Q:Exit→Act→World→Prop) (a:Act) (w:World):Prop :=
 ∀ (b:Frame) (k:List Item) (cs:List Frame),b.roundOf=none→b.fn=f0→∃ e a' w',Q e a' w'∧ArrivesIn (Machine.fenced P (Wd none)) P (lone (b.atR a (.code c::k)) cs w) b k cs e a' w'
theorem roomW (ro:Option Nat) (n:Nat):(Wd ro).room n:=fun _ h=>by cases h
theorem onFn_of {f0:FuncId} {m:Nat} {P:Program} {c:Code} {Q:Exit→Act→World→Prop} {a:Act} {w:World} (h:c.wpIn (Wd none) m P Q a w):onFn f0 P c Q a w:=fun b k cs hro _=>h b k cs hro trivial (roomW _ _)
theorem onFn_seq {f0:FuncId} {P:Program} {x y:Code} {Q:Exit→Act→World→Prop} {a:Act} {w:World} (h:onFn f0 P x (Exit.then (onFn f0 P y Q) Q) a w):onFn f0 P (.seq x y) Q a w:=by
 intro b k cs hro hb;obtain ⟨e,a₁,w₁,hq,harr⟩:=h b (.code y::k) cs hro hb;have s0:StepsIn (Machine.fenced P (Wd none)) P (lone (b.atR a (.code (.seq x y)::k)) cs w) (lone (b.atR a (.code x::.code y::k)) cs w):=.one (fenced_calm (n:=0) trivial (roomW _ _) rfl) stepR_seq;cases e with
 | normal =>
  obtain ⟨e₂,a₂,w₂,hq₂,harr₂⟩:=hq b k cs hro hb;exact ⟨e₂,a₂,w₂,hq₂,.of_steps (s0.trans harr) harr₂⟩
 | exit id=>exact ⟨_,a₁,w₁,hq,.of_steps s0 (.pass (x:=.code y) rfl (fun _ _=>.inl (by simp)) harr)⟩
 | goto l=>exact ⟨_,a₁,w₁,hq,.of_steps s0 (.pass (x:=.code y) rfl (fun _ _=>.inl (by simp)) harr)⟩
 | ret=>exact ⟨_,a₁,w₁,hq,.of_steps s0 (.pass (x:=.code y) rfl (fun _ _=>.inl (by simp)) harr)⟩
 | panic ch=>exact ⟨_,a₁,w₁,hq,.of_steps s0 (.pass (x:=.code y) rfl (fun _ _=>.inl (by simp)) harr)⟩
 | outgrown=>exact ⟨_,a₁,w₁,hq,.of_steps s0 (.pass (x:=.code y) rfl (fun _ _=>.inl (by simp)) harr)⟩
theorem onFn_block {f0:FuncId} {P:Program} {id:Nat} {c:Code} {Q:Exit→Act→World→Prop} {a:Act} {w:World} (h:onFn f0 P c (Exit.inBlock id Q) a w):onFn f0 P (.block id c) Q a w:=by
 intro b k cs hro hb;obtain ⟨e,a₁,w₁,hq,harr⟩:=h b (.inBlock id::k) cs hro hb;have s0:StepsIn (Machine.fenced P (Wd none)) P (lone (b.atR a (.code (.block id c)::k)) cs w) (lone (b.atR a (.code c::.inBlock id::k)) cs w):=.one (fenced_calm (n:=0) trivial (roomW _ _) rfl) stepR_block;cases e with
 | normal=>exact ⟨.normal,a₁,w₁,hq,s0.trans (StepsIn.trans harr (.one (fenced_calm (n:=0) trivial (roomW _ _) rfl) stepR_inBlock))⟩
 | exit id' =>
  by_cases hid:id'=id
  ·subst hid;have hq':Q .normal a₁ w₁:=by simpa [Exit.inBlock] using hq
   exact ⟨.normal,a₁,w₁,hq',s0.trans (harr.1 k (by simp [exitTo]))⟩
  ·have hq':Q (.exit id') a₁ w₁:=by simpa [Exit.inBlock,hid] using hq
   have this:(id==id')=false:=by simp;exact fun h=>hid h.symm
   have hx:exitTo id' (.inBlock id::k)=exitTo id' k:=by simp [exitTo,this]
   exact ⟨.exit id',a₁,w₁,hq',fun k' hk=>s0.trans (harr.1 k' (by rw [hx];exact hk)),fun hr'=>by rw [hro] at hr';cases hr'⟩
 | goto l =>
  have hx:gotoIn l (.inBlock id::k)=gotoIn l k:=by simp [gotoIn]
  exact ⟨_,a₁,w₁,hq,fun k' hk=>s0.trans (harr.1 k' (by rw [hx];exact hk)),fun hr'=>by rw [hro] at hr';cases hr'⟩
 | ret=>exact ⟨_,a₁,w₁,hq,.of_steps s0 harr⟩
 | panic ch=>exact ⟨_,a₁,w₁,hq,.of_steps s0 harr⟩
 | outgrown=>exact ⟨_,a₁,w₁,hq,.of_steps s0 harr⟩
def rangeQ (P:Program) (L:Nat) (Q:Exit→Act→World→Prop) (a:Act):Ending→World→Prop
 | .returned _,w=>∃ w',(Instr.endLoop L).run P w=.ok none w'∧Q .normal a w'
 | .panicked c,w=>Q (.panic c) a w
 | .outgrown,_=>False
theorem onFn_range {f0 f:FuncId} {m:Nat} {P:Program} {g:Operand} {ps:Array Tmp} {assign body:Code} {cap:Array Value} {Q:Exit→Act→World→Prop} {a:Act} {w:World} (hf:IsFn P f) (hev:a.eval g=.func (.func f) #[] cap)
  (h:CallsIn (Wd none) m P f (#[.func (.yield (w.heap.size+1)) #[] #[]]++cap) (Sq w f0 a.tmps ps assign body) (rangeQ P (w.heap.size+1) Q { a with defers:={ target:=.collected w.heap.size,args:=#[] }::a.defers })) :
  onFn f0 P (.rangeFunc g ps assign body) Q a w:=by
 intro b k cs hro hb;obtain ⟨fn,hf1,hf2,hf3⟩:=hf.is;have h1:(Instr.enterLoop b.fn a.tmps ps assign body b.roundOf).run P w=.ok (w.heap.size+1,[{ target:=.collected w.heap.size,args:=#[] }]) (Sq w f0 a.tmps ps assign body):=by rw [hro,hb];exact run_enterLoop_outer f0 a.tmps ps assign body
 have h2:(resolve a.eval (rangeCall g (w.heap.size+1)) 0).run P (Sq w f0 a.tmps ps assign body)=.ok { target:=.fn (.func f) cap,args:=#[.func (.yield (w.heap.size+1)) #[] #[]] } (Sq w f0 a.tmps ps assign body):=by
  simp only [resolve,rangeCall,hev,Deferred.ofValue];rw [show #[]++Array.map a.eval #[Operand.const (Value.func (Fn.yield (w.heap.size+1)) #[] #[])]=#[Value.func (Fn.yield (w.heap.size+1)) #[] #[]] by simp;rfl];rfl
 have h3:(invoke (.fn (.func f) cap) #[.func (.yield (w.heap.size+1)) #[] #[]]).run P (Sq w f0 a.tmps ps assign body)=.ok (.enter f (#[.func (.yield (w.heap.size+1)) #[] #[]]++cap)) (Sq w f0 a.tmps ps assign body):=by
  generalize Sq w f0 a.tmps ps assign body=W;simp [invoke,callFunc,hf1];rw [if_neg (by simpa using hf3),if_neg (by intro h;rw [h] at hf2;cases hf2)]
 have henter:=stepR_rangeFunc (P:=P) (b:=b) (a:=a) (k:=k) (cs:=cs) (w:=w) h1 h2 h3;have hall:∀ M:Machine,M.fenced P (Wd none):=fun M=>fenced_wide P M;obtain ⟨e,w₃,fr,hR,hsteps, -,hleave⟩:=h.2 (b.atR { a with defers:={ target:=.collected w.heap.size,args:=#[] }::a.defers } (.inRangeFunc (w.heap.size+1)::k)::cs) (roomW _ _);cases e with
 | outgrown=>exact hR.elim
 | returned v =>
  obtain ⟨w₄,hend,hq⟩:=hR;refine ⟨.normal,_,w₄,hq,.head (hall _) henter (StepsIn.trans hsteps (.head (hall _) ?_ (.one (hall _) (stepR_endRangeFunc (jump:=none) hend))))⟩;rw [← finish_atR_inRangeFunc (w.heap.size+1) v];exact step_leave_returned hleave
 | panicked chain =>
  refine ⟨.panic chain,_,w₃,hR,.inRangeFunc (w.heap.size+1)::k,.head (hall _) henter (StepsIn.trans hsteps (.one (hall _) ?_))⟩;rw [← Frame.raise_atR];exact step_leave_panicked hleave
theorem opensM {P:Program} {n:Nat} {F:List Nat} {H:Hp} {R:Asr} {f:FuncId} {fn:Func} {c:Code} {args:List Value} {w:World} {Y:Ending→World→Prop} (hS:Sat w F H R w) (hf:P.funcs[f]?=some fn) (hb:fn.body=some c) (hn:fn.ntmps=n)
  (h:∀ a,Ag n a (Nb 0 args)→onFn f P c (bodyPostM (Wd none) 0 P fn Y) a w):Calls P f args.toArray w Y:=by
 refine (callsIn_wide (n:=0)).1 (show CallsIn (Wd none) 0 P f args.toArray w Y from ⟨trivial,fun cs hr=>?_⟩);let b:Frame:={ (default:Frame) with fn:=f,kind:=.normal,roundOf:=none }
 have henter:Frame.enter P f args.toArray .normal=b.atR { tmps:=args.toArray++Array.replicate (fn.ntmps - args.toArray.size) undef,defers:=[] } [.code c]:=by
  simp [Frame.enter,Frame.atR,hf,hb,b]
 obtain ⟨e,a',w',hq,harr⟩:=h _ (ag_enter hn) b [] cs rfl rfl;rw [← henter] at harr;have hall:∀ M:Machine,M.fenced P (Wd none):=fun M=>fenced_wide P M;cases e with
 | normal =>
  obtain ⟨e',w'',fr',hR,hs,hfn,hl⟩:=leaves_stepsInM (F:=Wd none) a'.defers .returning w' { b.atR a' [] with mode:=.returning } cs rfl rfl rfl hf rfl trivial hr hq;exact ⟨e',w'',fr',hR,ComesIn.of_steps (StepsIn.trans harr (.one (hall _) (stepR_end J))) hs,hfn,hl⟩
 | ret =>
  obtain ⟨todo,hs₀⟩:=harr.1 rfl;obtain ⟨e',w'',fr',hR,hs,hfn,hl⟩:=leaves_stepsInM (F:=Wd none) a'.defers .returning w' { b.atR a' todo with mode:=.returning } cs rfl rfl rfl hf rfl trivial hr hq;exact ⟨e',w'',fr',hR,ComesIn.of_steps hs₀ hs,hfn,hl⟩
 | panic chain =>
  obtain ⟨todo,hs₀⟩:=harr;obtain ⟨e',w'',fr',hR,hs,hfn,hl⟩:=leaves_stepsInM (F:=Wd none) a'.defers (.panicking chain) w' { b.atR a' todo with mode:=.panicking chain } cs rfl rfl rfl hf rfl trivial hr hq;exact ⟨e',w'',fr',hR,ComesIn.of_steps hs₀ hs,hfn,hl⟩
 | exit id=>exact hq.elim
 | goto l=>exact hq.elim
 | outgrown=>exact ⟨.outgrown,w',b,hq,harr.resolve_left (by simp [b]),rfl,trivial⟩
end E
section
open Go Go.RowKit At E
def StepP (f:FuncId) (args:List Value) (u:World) (b:Nat) (x:WkX) (k:WkM) (g:St→Option St) (T:World→Prop):Prop :=
 ∀ w,Below u.heap.size u w→(∀ y ∈ b::(wkA x k).S,u.heap.size≤y)→Sat w (b::(wkA x k).S) [(b,wkC x k)] (wkA x k) w→T w→Calls Tryz.prog f (pt b::args).toArray w (RxZ b w (wkA x k) (okW x k g) (Vp x.n k.pos) (g (Vl k)=none))
theorem back_any (v:Value) (hv:v.cells=#[v]) (w:World):FnP Tryz.prog 325 #[v] w (fun v' R'=>∃ bx,v'=.func (.func 359) #[] #[pt bx]∧R'.Imp (Pi bx [v])) False:=by
 refine Xf (args:=[v]) Tryz.func325 J Tryz.ntmps325 ?_;refine Zg (Zb (WL_boxV J J hv ?_));intro b1 hb1;refine Za J (Zf J) (Ze (Zc (Zg (Zb (Za J (Ex_cap J) (Za J (Zf J) (Lh (Ze (Zc (Zr (T0 (We J (X9 J)) ?_)))))))))));exact ⟨b1,J,Asr.snd _ _⟩
def RoundW (w1:World) (F:List Nat) (b L:Nat) (r:Loop) (x:WkX) (pos:Nat) (k:WkM) (t:Ty):Ending→World→Prop:=fun e w' =>
 (∃ k',e=.returned (.bool true)∧Sat w1 F [(b,wkC x k')] ((Na L r).and (wkA x k')) w'∧WkOk x k'∧k'.pos=pos∧Va x.c t (Vl k)=some (Vl k')) ∨
 (e=.panicked (Vp x.n pos)∧Va x.c t (Vl k)=none∧Fr F w1 w')
def RoundsW (w1:World) (F:List Nat) (b L:Nat) (r:Loop) (x:WkX) (pos:Nat) (k:WkM) (l:List Ty):Ending→World→Prop:=fun e w' =>
 (∃ v k',e=.returned v∧Sat w1 F [(b,wkC x k')] ((Na L r).and (wkA x k')) w'∧WkOk x k'∧k'.pos=pos∧Xe x.c l (Vl k)=some (Vl k')) ∨
 (e=.panicked (Vp x.n pos)∧Xe x.c l (Vl k)=none∧Fr F w1 w')
theorem takes_app (c:Cl) (s:St):∀ l l':List Ty,Xe c (l++l') s=(Xe c l' s).bind (Xe c l)
 | [],l'=>by cases h:Xe c l' s<;>simp [Xe,h]
 | t::l,l'=>by
  show (Xe c (l++l') s).bind (Va c t)=_;rw [takes_app c s l l',Option.bind_assoc];rfl
theorem takes_step (c:Cl) (s:St) {l:List Ty} {j:Nat} {t:Ty} (h:l[j]?=some t):Xe c (l.drop j) s=(Xe c (l.drop (j+1)) s).bind (Va c t):=by
 have hj:=Wa h
 have e:l.drop j=t::l.drop (j+1):=by
  rw [List.getElem?_eq_getElem hj] at h;cases h;exact List.drop_eq_getElem_cons hj
 rw [e];rfl
theorem takes_none {c:Cl} {s:St} {l:List Ty} {j:Nat} (h:Xe c (l.drop j) s=none):Xe c l s=none:=by
 have:=takes_app c s (l.take j) (l.drop j);rw [List.take_append_drop,h] at this;exact this
theorem backc_any {m:Nat} (u w1:World) (b L bx pos:Nat) (r:Loop) (x:WkX) (k:WkM) (l:List Ty) (v:Value) (F:List Nat) (hk:WkOk x k) (hkp:k.pos=pos)
  (hs0:Sat w1 F [(b,wkC x k)] ((Na L r).and (wkA x k)) w1)
  (hbx:w1.cell? ⟨bx,0,none⟩=some v) (hbF:bx ∉ F) (hA:∀ w',Fr F w1 w'→Yu w' v l)
  (hY:∀ (k':WkM) (t:Ty) (i:Nat),WkOk x k'→k'.pos=pos→∀ w,Sat w1 F [(b,wkC x k')] ((Na L r).and (wkA x k')) w→YieldAt (Wd none) (m - 1) Tryz.prog L #[.int .i64 i,.agg (tyV t).toArray] w (RoundW w1 F b L r x pos k' t)) :
  CallsIn (Wd none) m Tryz.prog 359 [.func (.yield L) #[] #[],pt bx].toArray w1 (RoundsW w1 F b L r x pos k l):=by
 obtain ⟨p,c,rfl,⟨hl1,hl2⟩,hps⟩:=(hA w1 (Fr.refl _ _)).shape;refine opensR hs0 Tryz.func359 J Tryz.ntmps359 ?_;refine Oq (Uc Tryz.f359 (fun _ _=>False) J (fun _ h=>h) (fun _ _ _ _ h=>h.elim) ?_);refine Za J (Zj (t1 J) J (Vi hbx hbF)) (Za J (Zx (ts J) J) (Za J (Q0 J J ⟨by omega,by omega⟩) ?_));refine Za J (Zf J) (Ze (Om (RQ_rc ?_)));refine Mm ?_;refine ⟨fun w hs a ha=>?_⟩;refine (RC_loop (X:=Nat × WkM) (fun y=>[(0,.func (.yield L) #[] #[]),(1,pt bx),(3,.int .i64 ((y.1:Int) - 1))]) w1 F (fun y=>[(b,wkC x y.2)]) (fun y=>(Na L r).and (wkA x y.2)) (fun y=>y.1≤l.length∧WkOk x y.2∧y.2.pos=pos∧Xe x.c (l.drop y.1) (Vl k)=some (Vl y.2)) (fun y=>y.1) (l.length,k) ⟨Nat.le_refl _,hk,hkp,by rw [List.drop_length];rfl⟩ ?_).go w hs a (ha.sub ⟨rfl,rfl,rfl,trivial⟩);rintro ⟨j,k1⟩ ⟨hj,hk1,hp1,ht1⟩;dsimp only at hj hk1 hp1 ht1 ⊢;refine Oq (Oq (Uc Tryz.f359 (fun _ _=>False) J (fun _ h=>h) (fun _ _ _ _ h=>h.elim) ?_));refine Za J (Zd J) (Za J (Rq J J) (Ze (Om (RQ_rc ?_))));refine RC_if J (fun hc=>?_) (fun hc=>?_)
 ·replace hc:=of_decide_eq_true hc;obtain ⟨j,rfl⟩:∃ i,j=i+1:=⟨j - 1,by omega⟩;refine RC_skip (RQ_rc (Oq (Mm (Oq ?_))));obtain ⟨t,hi⟩:∃ t,l[j]?=some t:=⟨_,List.getElem?_eq_getElem (by omega)⟩;obtain ⟨g,o,hgo⟩:=hps (by omega);subst hgo;refine RC_regionY (RL_op J J (Zd J) (RL_op J J (Zd J) (RL_op J J (Zj (t1 J) J (Vi hbx hbF)) (RL_op J J (Zd J) (RL_op (v:=.pointer (some ⟨g,o+j*2,none⟩)) J J (Yo (ts J) J (congrArg some (congrArg (Value.int .i64) (by omega))) (by omega)) ?_)))));refine RL_op J J (Yj (tn J) J (R6 (u:=u) (fun w hs=>hA w hs.low) hi) J) ?_;refine RL_yield (vs:=[iN j,.agg (tyV t).toArray]) J J (show some [Value.int .i64 (((j+1:Nat):Int) - 1),Value.agg (tyV t).toArray]=_ by rw [show (((j+1:Nat):Int) - 1)=(j:Nat) by omega]) (RoundW w1 F b L r x pos k1 t) (hY k1 t j hk1 hp1) ?_ ?_ ?_
  ·rintro v w (⟨k2,he,hs2,hk2,hp2,ht2⟩ | ⟨he,_⟩)
   ·cases he;refine ⟨_,_,hs2,?_⟩;refine RL_op J J (Xv J) (RL_nil (RQ_rc (RC_if J (fun hc=>by cases hc) (fun _=>?_))));refine RC_skip (RQ_rc (Uc Tryz.f359 (fun _ _=>False) J (fun _ h=>h) (fun _ _ _ _ h=>h.elim) ?_));refine Za J (Zd J) ?_;refine Za (v:=.int .i64 ((j:Int) - 1)) J (by rw [show ((j:Int) - 1)=(((j+1:Nat):Int) - 1) - 1 by omega];exact Q0 J J ⟨by omega,by omega⟩) ?_;refine Za J (Zf J) (Ze ?_);exact Om ⟨fun w hs a ha=>⟨(j,k2),Nat.lt_succ_self j,⟨by omega,hk2,hp2,by rw [takes_step x.c _ hi,ht1];exact ht2⟩,hs,ha.sub ⟨J,J,J,trivial⟩⟩⟩
   ·cases he
  ·rintro c a w hno (⟨_,he,_⟩ | ⟨he,hn,hf⟩)
   ·cases he
   ·cases he;exact ⟨hno,.inr ⟨J,takes_none (j:=j) (by rw [takes_step x.c _ hi,ht1];exact hn),hf⟩⟩
  ·rintro w (⟨_,he,_⟩ | ⟨he,_⟩)<;>cases he
 ·replace hc:=of_decide_eq_false hc;have hj0:j=0:=by omega
  subst hj0;refine RC_exit ⟨fun w hs a ha=>?_⟩;have hfin:bodyPost Tryz.prog Tryz.f359 (RoundsW w1 F b L r x pos k l) .normal a w:=⟨ha.no,.tuple #[],results_none rfl _ _ _,.inl ⟨_,k1,rfl,hs,hk1,hp1,ht1⟩⟩;exact hfin
end
namespace E
open Go Go.RowKit
theorem putObj_fr (w:World) (b:Nat) (o:Obj):Fr [b] w (w.putObj b o) :=
 ⟨rfl,rfl,rfl,by rw [World.putObj_size];exact Nat.le_refl _,fun k _ hn=>World.putObj_heap_other (by simpa using hn)⟩
theorem Sat.putOther {w0 w:World} {F:List Nat} {H:Hp} {R:Asr} {b:Nat} (hs:Sat w0 F H R w) (o:Obj) (hH:∀ p ∈ H,p.1≠b) (hR:b ∉ R.S) (hF:b ∈ F∨w0.heap.size≤b):Sat w0 F H R (w.putObj b o) :=
 ⟨hs.low.trans (putObj_fr w b o) (fun x hx=>by simp only [List.mem_singleton] at hx;subst hx;exact hF),fun p hp=>by rw [World.putObj_heap_other (hH p hp)];exact hs.own p hp,hs.hi,hs.apart,
  R.st w _ hs.res (fun k hk=>World.putObj_heap_other (fun e=>hR (e ▸ hk))),fun k hk=>by rw [World.putObj_size];exact hs.rhi k hk,hs.rapart⟩
theorem Sat.rebase {w w0 w':World} {F F':List Nat} {H:Hp} {R:Asr} (hs:Sat w0 F' H R w') (hfr:Fr F w w') (hw:w.heap.size≤w0.heap.size) (hF:∀ x ∈ F',x ∈ F∨w.heap.size≤x):Sat w F H R w' :=
 ⟨hfr,hs.own,fun p hp=>(hs.hi p hp).elim (hF _) (fun h=>.inr (Nat.le_trans hw h)),hs.apart,hs.res,fun k hk=>⟨(hs.rhi k hk).1.elim (hF _) (fun h=>.inr (Nat.le_trans hw h)),(hs.rhi k hk).2⟩,hs.rapart⟩
section
variable {w3:World} {fn:FuncId} {tmps:Array Value} {ps:Array Tmp} {assign body:Code}
def loopR (w3:World) (fn:FuncId) (tmps:Array Value) (ps:Array Tmp) (assign body:Code):Loop:={ state:=.ready,pending:=none,fn,tmps,params:=ps,assign,body,defers:=w3.heap.size }
theorem Rn:(Sq w3 fn tmps ps assign body).heap.size=w3.heap.size+2:=by simp [Sq]
theorem loopW_old {k:Nat} (h:k<w3.heap.size):(Sq w3 fn tmps ps assign body).heap[k]?=w3.heap[k]?:=by
 unfold Sq;rw [heap_alloc_old _ _ (by rw [World.size_alloc];omega),heap_alloc_old _ _ h]
theorem loopW_rec:(Sq w3 fn tmps ps assign body).heap[w3.heap.size+1]?=some (.loop (loopR w3 fn tmps ps assign body)):=by
 have:=heap_alloc_new (w3.alloc (.deferred (some []))) (.loop (loopR w3 fn tmps ps assign body));rw [World.size_alloc] at this;exact this
theorem loopW_def:(Sq w3 fn tmps ps assign body).heap[w3.heap.size]?=some (.deferred (some [])):=by
 unfold Sq;rw [heap_alloc_old _ _ (by rw [World.size_alloc];omega)];exact heap_alloc_new w3 _
theorem loopW_below:Below w3.heap.size w3 (Sq w3 fn tmps ps assign body) :=
 ((Below.refl _ w3).alloc (Nat.le_refl _) _).alloc (by rw [World.size_alloc];omega) _
theorem loop_base {w:World} {F0:List Nat} {H:Hp} {R Rin:Asr} {b i:Nat} {cs:List Value} (hs:Sat w F0 H R w3) (hp:H[i]?=some (b,cs)) (hR:R.Imp Rin) :
  Sat (Sq w3 fn tmps ps assign body) ((w3.heap.size+1)::b::Rin.S) [(b,cs)] ((Na (w3.heap.size+1) (loopR w3 fn tmps ps assign body)).and Rin) (Sq w3 fn tmps ps assign body):=by
 have hm:=List.mem_of_getElem? hp;have hb:=hs.lt hm;have hRlt:∀ k ∈ Rin.S,k<w3.heap.size:=fun k hk=>(hs.rhi k (hR.s k hk)).2;refine ⟨Fr.refl _ _,?_,?_,by simp,⟨loopW_rec,Rin.st w3 _ (hR.a w3 hs.res) (fun k hk=>loopW_old (hRlt k hk)),?_⟩,?_,?_⟩
 ·intro p hq;simp only [List.mem_singleton] at hq;subst hq;rw [loopW_old hb];exact hs.own _ hm
 ·intro p hq;simp only [List.mem_singleton] at hq;subst hq;exact .inl (by simp)
 ·intro k hk hk2;simp only [Na,List.mem_singleton] at hk;have:=hRlt k hk2;omega
 ·intro k hk;rw [Rn];rcases List.mem_append.1 hk with hk | hk
  ·simp only [Na,List.mem_singleton] at hk;subst hk;exact ⟨.inl (by simp),by omega⟩
  ·exact ⟨.inl (by simp [hk]),by have:=hRlt k hk;omega⟩
 ·intro p hq hk;simp only [List.mem_singleton] at hq;subst hq;rcases List.mem_append.1 hk with hk | hk
  ·simp only [Na,List.mem_singleton] at hk;have hk':b=w3.heap.size+1:=hk;have hb':b<w3.heap.size:=hb;omega
  ·exact hs.rapart _ hm (hR.s _ hk)
end
end E
section
open Go Go.RowKit At E
theorem takeAll_round {m:Nat} {u w1 w3:World} {b b1 pos:Nat} {x:WkX} {k:WkM} {t:Ty} {i:Nat} {F:List Nat} {tmps:Array Value} {r:Loop} {L:Nat} (hk:WkOk x k) (hp:k.pos=pos) (hu:Below u.heap.size u w1) (hF:∀ y ∈ F,u.heap.size≤y)
  (hb1:w1.cell? ⟨b1,0,none⟩=some (pt b)) (hbF:b1 ∉ F) (ha:Ag 13 { tmps:=tmps,defers:=[] } [(2,pt b1)])
  (hr1:r.state=.ready) (hr2:r.pending=none) (hr3:r.fn=250) (hr4:r.tmps=tmps) (hr5:r.params=#[8,9])
  (hr:∃ c0 c1,Tryz.f250.body=some (.seq c0 (.seq c1 (.block 0 (.rangeFunc (.tmp 7) #[8,9] r.assign r.body)))))
  {w:World} (hs:Sat w1 F [(b,wkC x k)] ((Na L r).and (wkA x k)) w):YieldAt (Wd none) m Tryz.prog L #[.int .i64 i,.agg (tyV t).toArray] w (RoundW w1 F b L r x pos k t):=by
 obtain ⟨st,pe,rf,rt,rp,ras,rbo,rde⟩:=r;dsimp only at hr1 hr2 hr3 hr4 hr5 hr;subst hr1;subst hr2;subst hr3;subst hr4;subst hr5;obtain ⟨c0,c1,hr⟩:=hr;have hr':=Option.some.inj hr;injection hr' with _ hr'
 injection hr' with _ hr'
 injection hr' with _ hr'
 injection hr' with _ _ hA hB
 subst hA;subst hB;refine yield_at (hs.res.1) J (round_in Tryz.func250 ?_)
 have hag:Ag 13 { tmps:=(#[8,9].zip #[Value.int .i64 i,.agg (tyV t).toArray]).foldl (fun tmps (t,a)=>tmps.setIfInBounds t a) rt,defers:=[] } [(9,.agg (tyV t).toArray),(8,.int .i64 i),(2,pt b1)]:=by
  have h9:=(ha.put (d:=8) rfl (.int .i64 i)).put (d:=9) rfl (.agg (tyV t).toArray)
  simpa [Act.put] using h9
 refine (Uc Tryz.f250 (fun _ _=>False) J (fun _ h=>h) (fun _ _ _ _ h=>h.elim) ?_).go w hs _ hag;refine Yk J (tz J) ?_;intro b5 hb5;refine Z2 (tn J) J J 0 J J J J (Ze (Om (RQ_begin J ?_)));refine Mm (Uc Tryz.f250 (fun e w'=>e=.panicked (Vp x.n pos)∧Va x.c t (Vl k)=none∧Fr F w1 w') J (fun _ h=>by cases h.1) (fun c a w hno h=>⟨hno,.inr h⟩) ?_);refine Za J (Zj (t1 J) J (Vi hb1 hbF)) (Za J (Zv (tn J) J 0 J J) (Zz (Asr.comm _ _) (WL_callX fn257 J J 1 J hu hF (Ov u b x k t hk) (fun hm=>⟨fun w hf a ha=>⟨ha.no,by rw [hp],hm,hf⟩⟩) ?_)));rintro v cs' R' ⟨rfl,k2,rfl,hR2,hk2,hp2,ht2⟩;refine Zz ((hR2.left).trans (Asr.comm _ _)) (Ze (Om ?_));exact RQ_endR fun w hs=>.inl ⟨k2,J,hs.drop 1,hk2,hp2.trans hp,ht2⟩
theorem below_fr {u w w':World} {F:List Nat} (hu:Below u.heap.size u w) (hF:∀ y ∈ F,u.heap.size≤y) (h:Fr F w w'):Below u.heap.size u w' :=
 ⟨h.os.trans hu.os,h.tape.trans hu.tape,h.output.trans hu.output,Nat.le_trans hu.size h.size,fun k hk=>by
  rw [h.block k (Nat.lt_of_lt_of_le hk hu.size) (fun hm=>by have:=hF k hm;omega)];exact hu.block k hk⟩
theorem takeAll_call {u w w3:World} {b b1 bx:Nat} {x:WkX} {k:WkM} {l:List Ty} {p:Option Addr} {c:Nat} {R':Asr} {a3:Act} {A B:Code} (hk:WkOk x k) (hA:∀ w',Fr (b::(wkA x k).S) w w'→Yu w' (.slice p l.length c) l) (hu:Below u.heap.size u w) (hF:∀ y ∈ b::(wkA x k).S,u.heap.size≤y)
  (hR:R'.Imp (Pi bx [.slice p l.length c])) (hs3:Sat w (b::(wkA x k).S) [(b1,[pt b]),(b,wkC x k)] (R'.and (wkA x k)) w3) (ha3:Ag 13 a3 [(2,pt b1)])
  (hr:∃ c0 c1,Tryz.f250.body=some (.seq c0 (.seq c1 (.block 0 (.rangeFunc (.tmp 7) #[8,9] A B))))) :
  CallsIn (Wd none) 1 Tryz.prog 359 (#[.func (.yield (w3.heap.size+1)) #[] #[]]++#[pt bx]) (Sq w3 250 a3.tmps #[8,9] A B)
   (rangeQ Tryz.prog (w3.heap.size+1) (Exit.inBlock 0 (bodyPostM (Wd none) 0 Tryz.prog Tryz.f250 (RxZ b w (wkA x k) (okW x k (Xe x.c l)) (Vp x.n k.pos) (Xe x.c l (Vl k)=none)))) { a3 with defers:={ target:=.collected w3.heap.size,args:=#[] }::a3.defers }):=by
 have hbm:(b,wkC x k) ∈ [(b1,[pt b]),(b,wkC x k)]:=List.mem_cons_of_mem _ List.mem_cons_self;have hb1m:(b1,[pt b]) ∈ [(b1,[pt b]),(b,wkC x k)]:=List.mem_cons_self;have hblt:b<w3.heap.size:=hs3.lt hbm;have hb1lt:b1<w3.heap.size:=hs3.lt hb1m;have hww:w.heap.size≤w3.heap.size:=hs3.low.size;have huw:u.heap.size≤w.heap.size:=hu.size;have hSlt:∀ y ∈ (wkA x k).S,y<w3.heap.size:=fun y hy=>(hs3.rhi y (List.mem_append_right _ hy)).2;have hbxS:bx ∈ R'.S:=hR.s bx List.mem_cons_self;have hbxlt:bx<w3.heap.size:=(hs3.rhi bx (List.mem_append_left _ hbxS)).2;have hbase:=loop_base (fn:=250) (tmps:=a3.tmps) (ps:=#[8,9]) (assign:=A) (body:=B) hs3 (i:=1) rfl (Asr.snd R' (wkA x k));have hu1:=Xp hu hF (hs3.keep (loopW_below (fn:=250) (tmps:=a3.tmps) (ps:=#[8,9]) (assign:=A) (body:=B)))
 have hF1:∀ y ∈ (w3.heap.size+1)::b::(wkA x k).S,u.heap.size≤y:=by
  intro y hy;rcases List.mem_cons.1 hy with rfl | hy
  ·omega
  ·exact hF y hy
 have hD:w3.heap.size ∉ (w3.heap.size+1)::b::(wkA x k).S:=by
  intro hy;rcases List.mem_cons.1 hy with hy | hy
  ·omega
  ·rcases List.mem_cons.1 hy with hy | hy
   ·omega
   ·have:=hSlt _ hy;omega
 have hbxF:bx ∉ (w3.heap.size+1)::b::(wkA x k).S:=by
  intro hy;rcases List.mem_cons.1 hy with hy | hy
  ·omega
  ·rcases List.mem_cons.1 hy with hy | hy
   ·subst hy;exact hs3.rapart _ hbm (List.mem_append_left _ hbxS)
   ·exact hs3.res.2.2 bx hbxS hy
 have hb1F:b1 ∉ (w3.heap.size+1)::b::(wkA x k).S:=by
  intro hy;rcases List.mem_cons.1 hy with hy | hy
  ·omega
  ·rcases List.mem_cons.1 hy with hy | hy
   ·have:=hs3.apart;simp [hy] at this
   ·exact hs3.rapart _ hb1m (List.mem_append_right _ hy)
 have hcell:∀ {y:Nat} {v:Value},y<w3.heap.size→w3.cell? ⟨y,0,none⟩=some v→(Sq w3 250 a3.tmps #[8,9] A B).cell? ⟨y,0,none⟩=some v:=fun {y v} hy hc=>by rw [World.cell?_of_block (loopW_old hy)];exact hc
 have hbx:w3.cell? ⟨bx,0,none⟩=some (.slice p l.length c):=by
  obtain ⟨t,ht⟩:=hR.a w3 hs3.res.1;simp [World.cell?,ht]
 have hb1c:w3.cell? ⟨b1,0,none⟩=some (pt b):=by rw [hs3.mine hb1m];rfl
 have hag:Ag 13 { tmps:=a3.tmps,defers:=[] } [(2,pt b1)]:=⟨ha3.room,rfl,ha3.has⟩
 have hLF:∀ y ∈ (w3.heap.size+1)::b::(wkA x k).S,y ∈ b::(wkA x k).S∨w.heap.size≤y:=fun y hy=>by
  rcases List.mem_cons.1 hy with rfl | hy
  ·exact .inr (by omega)
  ·exact .inl hy
 have hfr:∀ {w':World},Fr ((w3.heap.size+1)::b::(wkA x k).S) (Sq w3 250 a3.tmps #[8,9] A B) w'→Fr (b::(wkA x k).S) w w':=fun {w'} h =>
  (hs3.low.trans (Fr.of_below loopW_below []) (fun y hy=>by cases hy)).trans h hLF
 refine CallsIn.mono (backc_any (m:=1) u _ b (w3.heap.size+1) bx k.pos _ x k l _ _ hk J hbase (hcell hbxlt hbx) hbxF (fun w' hf=>hA w' (hfr hf)) (fun k' t i hk' hp' w' hs'=>takeAll_round (w3:=w3) hk' hp' hu1 hF1 (hcell hb1lt hb1c) hb1F hag J J J J J hr hs')) ?_;have hno:a3.defers=[]:=ha3.no
 have hDat:∀ {w':World},Fr ((w3.heap.size+1)::b::(wkA x k).S) (Sq w3 250 a3.tmps #[8,9] A B) w'→w'.heap[w3.heap.size]?=some (.deferred (some [])):=fun {w'} h=>by
  rw [h.block w3.heap.size (by rw [Rn];omega) hD];exact loopW_def
 rintro e w' (⟨v'',k',rfl,hs',hk',hp',ht'⟩ | ⟨rfl,hn,hf⟩)
 ·have s1:Sat w (b::(wkA x k).S) [(b,wkC x k')] (wkA x k') w':=Sat.rebase (hs'.leads (Asr.snd _ _)) (hfr hs'.low) (by rw [Rn];omega) hLF;have hLn:w3.heap.size+1 ∉ (wkA x k').S:=hs'.res.2.2 _ List.mem_cons_self
  have hDn:w3.heap.size ∉ (wkA x k').S:=fun h=>by
   rcases (hs'.rhi _ (List.mem_append_right _ h)).1 with h | h
   ·exact hD h
   ·rw [Rn] at h;omega
  have hH:∀ q ∈ [(b,wkC x k')],∀ y,w3.heap.size≤y→q.1≠y:=fun q hq y hy e=>by
   simp only [List.mem_singleton] at hq;subst hq;have:b=y:=e;omega
  refine ⟨_,run_endLoop (hs'.res.1) (by simp [loopR]),?_⟩
  have hd2:(w'.putObj (w3.heap.size+1) (.loop { loopR w3 250 a3.tmps #[8,9] A B with state:=.exhausted })).heap[w3.heap.size]?=some (.deferred (some [])):=by
   rw [World.putObj_heap_other (by omega)];exact hDat hs'.low
  have hleave:LeavesInM (Wd none) 0 Tryz.prog Tryz.f250 a3.tmps (RxZ b w (wkA x k) (okW x k (Xe x.c l)) (Vp x.n k.pos) (Xe x.c l (Vl k)=none)) ({ target:=.collected w3.heap.size,args:=#[] }::a3.defers) .returning (w'.putObj (w3.heap.size+1) (.loop { loopR w3 250 a3.tmps #[8,9] A B with state:=.exhausted })):=by
   rw [hno];refine ⟨by simp,.inl ⟨w3.heap.size,_,J,run_takeDeferred hd2,?_⟩⟩;refine ⟨.tuple #[],results_none J _ _ _,.inl ⟨_,wkC x k',wkA x k',J,⟨J,k',J,.refl _,hk',hp',ht'⟩,?_⟩⟩;exact (s1.putOther _ (fun q hq=>hH q hq _ (by omega)) hLn (.inr (by omega))).putOther _ (fun q hq=>hH q hq _ (by omega)) hDn (.inr (by omega))
  exact hleave
 ·have hleave:LeavesInM (Wd none) 0 Tryz.prog Tryz.f250 a3.tmps (RxZ b w (wkA x k) (okW x k (Xe x.c l)) (Vp x.n k.pos) (Xe x.c l (Vl k)=none)) ({ target:=.collected w3.heap.size,args:=#[] }::a3.defers) (.panicking (Vp x.n k.pos)) w':=by
   rw [hno];refine ⟨by simp,.inl ⟨w3.heap.size,_,J,run_takeDeferred (hDat hf),?_⟩⟩;exact .inr ⟨hn,J,(hfr hf).trans (putObj_fr _ _ _) (fun y hy=>by simp only [List.mem_singleton] at hy;exact .inr (by omega))⟩
  exact hleave
theorem wtakeAll_at (u:World) (b:Nat) (x:WkX) (k:WkM) (l:List Ty) (v:Value) (hk:WkOk x k):StepP 250 [v] u b x k (Xe x.c l) (fun w=>∀ w',Fr (b::(wkA x k).S) w w'→Yu w' v l):=by
 intro w hu hF hs0 hA;obtain ⟨p,c,rfl, -, -⟩:=(hA w (Fr.refl _ _)).shape;refine opensM hs0 Tryz.func250 J Tryz.ntmps250 fun a ha=>?_;refine onFn_seq (onFn_of (m:=0) ((Uc Tryz.f250 (fun _ _=>False) J (fun _ h=>h) (fun _ _ _ _ h=>h.elim) ?_).go w hs0 a ha));refine WL_boxV J J J ?_;intro b1 hb1;refine Ze ?_;refine Om ⟨fun w2 hs2 a2 ha2=>?_⟩;refine onFn_seq (onFn_of (m:=0) ((Uc Tryz.f250 (fun _ _=>False) J (fun _ h=>h) (fun _ _ _ _ h=>h.elim) ?_).go w2 hs2 a2 ha2));refine Za J (Zd J) (X8 fn325 J J (fun w' _=>back_any _ J w') (fun h=>h.elim) ?_);rintro v' R' ⟨bx,rfl,hR⟩;refine Ze ?_;refine Om ⟨fun w3 hs3 a3 ha3=>?_⟩;refine onFn_block (onFn_range (m:=1) fn359 (ha3.eval J) ?_);exact takeAll_call hk hA hu hF hR hs3 (ha3.sub ⟨J,trivial⟩) ⟨_,_,J⟩
theorem wtakeAll_any (u:World) (b:Nat) (x:WkX) (k:WkM) (l:List Ty) (v:Value) (hk:WkOk x k) (hA:∀ w',Below u.heap.size u w'→Yu w' v l):Rh 250 [v] u b x k (Xe x.c l) :=
 fun w hu hF hs0=>wtakeAll_at u b x k l v hk w hu hF hs0 fun w' hf=>hA w' (below_fr hu hF hf)
end
end Go.Proofs.YtpofmnfkdkmieaaGreat
