/- What is proved here: rules by which a function's code is gone -/
import Derived.WalkKit
import Derived.WalkSpells
import Derived.WalkLawsBesides
import Derived.Deep.Quiet
import Derived.Lib.AppendStr
import Derived.Defers
import Derived.Recover
import Derived.Test.YtpofmnfkdkmieaaGreatProg
import Derived.Laws.MakeOwn
import Derived.Lib.UnsafeStr
import Derived.Lib.BufferWrite
import Derived.Orders
import Derived.OrdersHeld
import Derived.Tactics2
import Derived.Test.YtpofmnfkdkmieaaGreatRows
import Derived.Deep.Slices
import Derived.Carry
import Derived.ProofKit
import Derived.OpenShut
import Derived.JoinedCond
set_option linter.unusedVariables false
set_option linter.unusedSimpArgs false
namespace Go.Proofs.YtpofmnfkdkmieaaGreat
section
universe u
abbrev pt (b : Nat) : Go.Value := .pointer (some ⟨b, 0, none⟩)
abbrev iN (k : Nat) : Go.Value := .int .i64 (k : Int)
theorem dTr {p : Prop} [Decidable p] (h : decide p = true) : p := of_decide_eq_true h
theorem dFa {p : Prop} [Decidable p] (h : decide p = false) : ¬ p := of_decide_eq_false h
theorem J {α : Sort u} {a : α} : a = a := rfl
end
namespace At
end At
namespace E
open Go Go.RowKit
abbrev Env:=List (Nat × Value)
def Qy:Env->Nat->Option Value
 | [],_=>none
 | (j,v)::r,i=>bif Nat.beq i j then some v else Qy r i
structure Ag (n:Nat) (a:Act) (E:Env):Prop where
 room:n<=a.tmps.size
 no:a.defers=[]
 has:∀ i v,Qy E i=some v->a.tmps[i]?=some v
def ev (E:Env):Operand->Option Value
 | .tmp t=>Qy E t
 | .const v=>some v
 | .global g=>some (pt g)
 | .func f=>some (.func (.func f) #[] #[])
theorem Ag.eval {n:Nat} {a:Act} {E:Env} {x:Operand} {v:Value} (h:Ag n a E) (hx:ev E x=some v):a.eval x=v:=by
 cases x with
 | tmp t =>
  have:=h.has t v hx;show a.tmps.getD t undef=v;rw [Array.getD_eq_getD_getElem?,this];rfl
 | const u=>exact Option.some.inj hx
 | global g=>exact Option.some.inj hx
 | func f=>exact Option.some.inj hx
theorem Ag.put {n:Nat} {a:Act} {E:Env} (h:Ag n a E) {d:Nat} (hd:Nat.blt d n=true) (v:Value):Ag n (a.put (some d) v) ((d,v)::E):=by
 have hd':d<n:=by simpa using hd
 refine ⟨?_,h.no,?_⟩
 ·show n<=(a.tmps.setIfInBounds d v).size;rw [Array.size_setIfInBounds];exact h.room
 ·intro i u hu;show (a.tmps.setIfInBounds d v)[i]?=some u;simp only [Qy] at hu;rw [Array.getElem?_setIfInBounds];by_cases hi:i=d
  ·subst hi;have e:Nat.beq i i=true:=Nat.beq_refl i;rw [e] at hu;rw [if_pos rfl,if_pos (Nat.lt_of_lt_of_le hd' h.room)];exact hu
  ·have e:Nat.beq i d=false:=by
    cases hb:Nat.beq i d with
    | true=>exact absurd (Nat.eq_of_beq_eq_true hb) hi
    | false=>rfl
   rw [e] at hu;rw [if_neg (fun e'=>hi e'.symm)];exact h.has i u hu
structure Asr where
 S:List Nat
 A:World->Prop
 st:∀ w w':World,A w->(∀ k ∈ S,w'.heap[k]?=w.heap[k]?)->A w'
def Asr.none:Asr:=⟨[],fun _=>True,fun _ _ _ _=>trivial⟩
abbrev Hp:=List (Nat × List Value)
structure Fr (F:List Nat) (w w':World):Prop where
 os:w'.os=w.os
 tape:w'.tape=w.tape
 output:w'.output=w.output
 size:w.heap.size<=w'.heap.size
 block:∀ k,k<w.heap.size->k ∉ F->w'.heap[k]?=w.heap[k]?
theorem Fr.refl (F:List Nat) (w:World):Fr F w w:=⟨rfl,rfl,rfl,Nat.le_refl _,fun _ _ _=>rfl⟩
theorem Fr.below {w w':World} (h:Fr [] w w'):Below w.heap.size w w':=⟨h.os,h.tape,h.output,h.size,fun k hk=>h.block k hk (by simp)⟩
theorem Fr.of_below {w w':World} (h:Below w.heap.size w w') (F:List Nat):Fr F w w':=⟨h.os,h.tape,h.output,h.size,fun k hk _=>h.block k hk⟩
theorem Fr.trans {F G:List Nat} {a b c:World} (h:Fr F a b) (k:Fr G b c) (hG:∀ x ∈ G,x ∈ F\/a.heap.size<=x):Fr F a c :=
 ⟨k.os.trans h.os,k.tape.trans h.tape,k.output.trans h.output,Nat.le_trans h.size k.size,fun i hi hF=>by
  rw [k.block i (Nat.lt_of_lt_of_le hi h.size) (fun hg=>(hG i hg).elim hF (by omega))];exact h.block i hi hF⟩
structure Sat (w0:World) (F:List Nat) (H:Hp) (R:Asr) (w:World):Prop where
 low:Fr F w0 w
 own:∀ p ∈ H,∃ t,w.heap[p.1]?=some (.cells p.2.toArray t (0,0))
 hi:∀ p ∈ H,p.1 ∈ F\/w0.heap.size<=p.1
 apart:(H.map (·.1)).Nodup
 res:R.A w
 rhi:∀ k ∈ R.S,(k ∈ F\/w0.heap.size<=k)/\k<w.heap.size
 rapart:∀ p ∈ H,p.1 ∉ R.S
theorem Sat.lt {w0:World} {F:List Nat} {H:Hp} {R:Asr} {w:World} (h:Sat w0 F H R w) {p:Nat × List Value} (hp:p ∈ H):p.1<w.heap.size:=by
 obtain ⟨t,ht⟩:=h.own p hp;rcases Nat.lt_or_ge p.1 w.heap.size with h' | h'
 ·exact h'
 ·rw [Array.getElem?_eq_none h'] at ht;cases ht
theorem Sat.keep {w0:World} {F:List Nat} {H:Hp} {R:Asr} {w w':World} (h:Sat w0 F H R w) (hb:Below w.heap.size w w'):Sat w0 F H R w' :=
 ⟨h.low.trans (G:=[]) (Fr.of_below hb _) (by simp),fun p hp=>by rw [hb.block _ (h.lt hp)];exact h.own p hp,h.hi,h.apart,
  R.st w w' h.res (fun k hk=>hb.block k (h.rhi k hk).2),fun k hk=>⟨(h.rhi k hk).1,Nat.lt_of_lt_of_le (h.rhi k hk).2 hb.size⟩,h.rapart⟩
variable {P:Program}
structure Kf where
 tag:Nat
 id:Nat
 c:Code
 inv:Act->World->Prop
def den (P:Program) (fn:Func) (Z:Ending->World->Prop):List Kf->Exit->Act->World->Prop
 | []=>bodyPost P fn Z
 | k::r=>match k.tag with
  | 0=>Exit.then (k.c.wp P (den P fn Z r)) (den P fn Z r)
  | 1=>Exit.inBlock k.id (den P fn Z r)
  | _=>Exit.then k.inv (den P fn Z r)
structure WC (P:Program) (n:Nat) (c:Code) (E:Env) (w0:World) (F:List Nat) (H:Hp) (R:Asr) (fn:Func) (Z:Ending->World->Prop) (κ:List Kf):Prop where
 go:∀ w,Sat w0 F H R w->∀ a,Ag n a E->c.wp P (den P fn Z κ) a w
structure WL (P:Program) (n:Nat) (all:Array Oper) (l:List Oper) (E:Env) (w0:World) (F:List Nat) (H:Hp) (R:Asr) (fn:Func) (Z:Ending->World->Prop) (κ:List Kf):Prop where
 go:∀ w,Sat w0 F H R w->∀ a,Ag n a E->wpList P all (den P fn Z κ) l a w
structure WQ (P:Program) (n:Nat) (e:Exit) (E:Env) (w0:World) (F:List Nat) (H:Hp) (R:Asr) (fn:Func) (Z:Ending->World->Prop) (κ:List Kf):Prop where
 go:∀ w,Sat w0 F H R w->∀ a,Ag n a E->den P fn Z κ e a w
structure Ex (P:Program) (n:Nat) (E:Env) (w0:World) (F:List Nat) (H:Hp) (R:Asr) (o:Op) (v:Value):Prop where
 go:∀ w,Sat w0 F H R w->∀ a,Ag n a E->∀ (d:Option Tmp) (t:TypeId) (p:String) (x:Array Edge) (g:Option (Nat × Bool)),(execOp a.eval ⟨d,o,t,p,x,g⟩).run P w=.ok (.value v) w
section
variable {n:Nat} {E:Env} {w0:World} {F:List Nat} {H:Hp} {R:Asr} {fn:Func} {Z:Ending->World->Prop} {κ:List Kf}
theorem Tx {x y:Code} (h:WC P n x E w0 F H R fn Z (⟨0,0,y,fun _ _=>True⟩::κ)):WC P n (.seq x y) E w0 F H R fn Z κ :=
 ⟨fun w hs a ha=>wp_seq (h.go w hs a ha)⟩
theorem WC_skip (h:WQ P n .normal E w0 F H R fn Z κ):WC P n .skip E w0 F H R fn Z κ:=⟨fun w hs a ha=>wp_skip (h.go w hs a ha)⟩
theorem Fm (h:WQ P n .ret E w0 F H R fn Z κ):WC P n .ret E w0 F H R fn Z κ:=⟨fun w hs a ha=>wp_ret (h.go w hs a ha)⟩
theorem Ag.known {a:Act} (ha:Ag n a E) {s:Nat} {v:Value} (hl:Qy E s=some v):Ag n a ((s,v)::E):=by
 refine ⟨ha.room,ha.no,fun i u hu=>?_⟩;simp only [Qy] at hu;cases hb:Nat.beq i s with
 | true =>
  rw [hb] at hu;have e1:=Nat.eq_of_beq_eq_true hb;subst e1;have e2:v=u:=Option.some.inj hu;rw [<- e2];exact ha.has _ _ hl
 | false=>rw [hb] at hu;exact ha.has _ _ hu
theorem WC_if {s:Nat} {x y:Code} {t:Bool} (hc:Qy E s=some (.bool t)) (ht:t=true->WC P n x ((s,.bool true)::E) w0 F H R fn Z κ) (hf:t=false->WC P n y ((s,.bool false)::E) w0 F H R fn Z κ) :
  WC P n (.cond (.tmp s) x y) E w0 F H R fn Z κ :=
 ⟨fun w hs a ha=>wp_cond_split (ha.eval (x:=.tmp s) hc) (fun h=>(ht h).go w hs a (ha.known (by rw [hc,h]))) (fun h=>(hf h).go w hs a (ha.known (by rw [hc,h])))⟩
theorem Vo {id:Nat} {l:List Oper} (h:WL P n l.toArray l E w0 F H R fn Z κ):WC P n (.region id l.toArray false) E w0 F H R fn Z κ :=
 ⟨fun w hs a ha=>wp_region_lit (h.go w hs a ha)⟩
theorem Ud {x:Code} {i:Act->World->Prop} {d:Nat} (h:WC P n x E w0 F H R fn Z κ):WQ P n .normal E w0 F H R fn Z (⟨0,d,x,i⟩::κ):=⟨h.go⟩
theorem WQ_ret {k:Kf} (h:WQ P n .ret E w0 F H R fn Z κ):WQ P n .ret E w0 F H R fn Z (k::κ) :=
 ⟨fun w hs a ha=>by
  have:=h.go w hs a ha;obtain ⟨tag,_,_,_⟩:=k
  match tag with
  | 0=>exact this
  | 1=>exact this
  | _+2=>exact this⟩
theorem WQ_end1 {t:Tmp} {v:Value} (hr:fn.results=#[.tmp t]) (hv:Qy E t=some v)
  (h:∀ w,Sat w0 F H R w->Z (.returned v) w):WQ P n .ret E w0 F H R fn Z [] :=
 ⟨fun w hs a ha=>bodyPost_ret (by rw [results_tmp hr];exact congrArg (fun u=>Result.ok u w) (ha.eval (x:=.tmp t) hv)) ha.no (h w hs)⟩
theorem Sj {all:Array Oper} (h:WQ P n .normal E w0 F H R fn Z κ):WL P n all [] E w0 F H R fn Z κ:=⟨fun w hs a ha=>wpList_nil (h.go w hs a ha)⟩
theorem Vu {all:Array Oper} {l:List Oper} {d:Nat} {o:Op} {t:TypeId} {p:String} {x:Array Edge} {v:Value} (hd:Nat.blt d n=true) (he:Ex P n E w0 F H R o v)
  (h:WL P n all l ((d,v)::E) w0 F H R fn Z κ):WL P n all (⟨some d,o,t,p,x,none⟩::l) E w0 F H R fn Z κ :=
 ⟨fun w hs a ha=>wpList_plain rfl fun K hK=>by
  unfold Oper.wp;rw [he.go w hs a ha];exact hK _ _ (h.go w hs _ (ha.put hd v))⟩
def Jd (P:Program) (f:FuncId) (args:Array Value) (w:World) (v:Value):Prop:=Calls P f args w fun e w'=>e=.returned v/\Below w.heap.size w w'
end
theorem enter {f:FuncId} {fn:Func} {c:Code} {args:Array Value} {w:World} {Z:Ending->World->Prop} {n:Nat} {E:Env} {F:List Nat} {H:Hp} {R:Asr}
  (hf:P.funcs[f]?=some fn) (hb:fn.body=some c) (hn:fn.ntmps=n) (hE:∀ i v,Qy E i=some v->args[i]?=some v) (hS:Sat w F H R w)
  (h:WC P n c E w F H R fn Z []):Calls P f args w Z:=by
 refine calls_of_wp hf hb (h.go w hS _ ⟨?_,J,?_⟩)
 ·simp only [Array.size_append,Array.size_replicate,hn];omega
 ·intro i v hv;have h1:=hE i v hv
  have hi:i<args.size:=by
   rcases Nat.lt_or_ge i args.size with h' | h'
   ·exact h'
   ·rw [Array.getElem?_eq_none h'] at h1;cases h1
  rw [Array.getElem?_append_left hi];exact h1
theorem Sat.first (w:World) (F:List Nat):Sat w F [] Asr.none w :=
 ⟨Fr.refl _ _,(fun p hp=>by cases hp),(fun p hp=>by cases hp),List.nodup_nil,trivial,(fun k hk=>by cases hk),(fun p hp=>by cases hp)⟩
def Qv:Nat->List Value->Env
 | _,[]=>[]
 | i,v::r=>(i,v)::Qv (i+1) r
theorem Pd:∀ (l:List Value) (k i:Nat) (v:Value),Qy (Qv k l) i=some v->k<=i/\l[i - k]?=some v
 | [],_,_,_,h=>by simp [Qv,Qy] at h
 | u::r,k,i,v,h=>by
  simp only [Qv,Qy] at h;cases hb:Nat.beq i k with
  | true =>
   rw [hb] at h;have e:=Nat.eq_of_beq_eq_true hb;subst e;have:u=v:=Option.some.inj h;subst this;simp
  | false =>
   rw [hb] at h;have ⟨h1,h2⟩:=Pd r (k+1) i v h;refine ⟨by omega,?_⟩;have e:i - k=(i - (k+1))+1:=by omega
   rw [e,List.getElem?_cons_succ];exact h2
theorem opens {f:FuncId} {fn:Func} {c:Code} {args:List Value} {w:World} {Z:Ending->World->Prop} {n:Nat}
  (hf:P.funcs[f]?=some fn) (hb:fn.body=some c) (hn:fn.ntmps=n)
  (h:WC P n c (Qv 0 args) w [] [] Asr.none fn Z []):Calls P f args.toArray w Z :=
 enter hf hb hn (fun i v hv=>by have:=(Pd args 0 i v hv).2;simpa using this) (Sat.first w []) h
theorem Fq {n:Nat} {E:Env} {w0:World} {H:Hp} {R:Asr} {fn:Func} {t:Tmp} {v v':Value} (hr:fn.results=#[.tmp t]) (hv:Qy E t=some v) (h:v=v') :
  WQ P n .ret E w0 [] H R fn (fun e w'=>e=.returned v'/\Below w0.heap.size w0 w') [] :=
 WQ_end1 hr hv fun _ hs=>⟨by rw [h],hs.low.below⟩
end E
namespace E
open Go Go.RowKit
def TS (P:Program) (t e n:Nat):Prop:=P.underlying t=some (.slice e)/\∀ w:World,(sizeOf e).run P w=.ok n w
def TStr (P:Program) (t:Nat):Prop:=P.underlying t=some .string
def TI (P:Program) (t:Nat) (k:IntKind):Prop:=P.underlying t=some (.int k)
def eqS (x y:ByteArray):Bool:=decide (x=y)
theorem eqS_beq (x y:ByteArray):(x.toList==y.toList)=eqS x y:=by
 unfold eqS;rw [ByteArray.toList_eq,ByteArray.toList_eq];by_cases h:x=y
 ·subst h;simp
 ·rw [decide_eq_false h];refine beq_eq_false_iff_ne.2 fun e=>h ?_;cases x;cases y;simp only at e;rw [Array.toList_inj] at e;rw [e]
section
variable {P:Program} {n:Nat} {E:Env} {w0:World} {F:List Nat} {H:Hp} {R:Asr}
theorem Tz {x:Operand} {v:Value} (hx:ev E x=some v):Ex P n E w0 F H R (.move x) v:=⟨fun w _ a ha _ _ _ _ _=>by
 simp only [execOp];rw [ha.eval hx];rfl⟩
theorem Ul {x:Operand} {v:Value} (hx:ev E x=some v):Ex P n E w0 F H R (.assign x) v:=⟨fun w _ a ha _ _ _ _ _=>by
 simp only [execOp];rw [ha.eval hx];rfl⟩
theorem Ex_bin {op:BinOp} {t t':TypeId} {x y:Operand} {k:IntKind} {i j:Int} {v:Value} (hx:ev E x=some (.int k i)) (hy:ev E y=some (.int k j))
  (h:∀ w:World,(binOp op t (.int k i) (.int k j)).run P w=.ok v w):Ex P n E w0 F H R (.binOp op t x y t') v:=⟨fun w _ a ha _ _ _ _ _=>by
 simp only [execOp];rw [ha.eval hx,ha.eval hy,eqGuard_at_int];have:=h w;simp [this]⟩
theorem Vz (k:Int) (h : -9223372036854775808<=k/\k<=9223372036854775807):IntKind.i64.wrap k=k:=by
 rw [IntWalk.i64_left];exact IntWalk.wrap64_in k h
theorem Ex_eql {t t':TypeId} {x y:Operand} {k:IntKind} {i j:Int} (hx:ev E x=some (.int k i)) (hy:ev E y=some (.int k j)):Ex P n E w0 F H R (.binOp .eql t x y t') (.bool (decide (i=j))) :=
 Ex_bin hx hy fun w=>by
  have e:(i==j)=decide (i=j):=by by_cases h:i=j<;>simp [h]
  simp [binOp,Op.intCmp,e]
theorem Dz {t:TypeId} {x:Operand} {s:ByteArray} (ht:TStr P t) (hx:ev E x=some (.string s)):Ex P n E w0 F H R (.call ⟨.builtin .len,#[x],#[t]⟩) (.int .i64 (s.size:Int)):=⟨fun w _ a ha _ _ _ _ _=>by
 simp only [execOp,resolve,invoke,builtin];simp [ha.eval hx,Builtin.len_,run_underlying ht,goInt]⟩
theorem Ex_lenL {t e k:TypeId} {x:Operand} {p:Option Addr} {l c:Nat} (ht:TS P t e k) (hx:ev E x=some (.slice p l c)):Ex P n E w0 F H R (.call ⟨.builtin .len,#[x],#[t]⟩) (.int .i64 (l:Int)):=⟨fun w _ a ha _ _ _ _ _=>by
 simp only [execOp,resolve,invoke,builtin];simp [ha.eval hx,Builtin.len_,run_underlying ht.1,goInt]⟩
theorem Ex_at {t e k:Nat} {x y:Operand} {b o l c i:Nat} (ht:TS P t e k) (hx:ev E x=some (.slice (some ⟨b,o,none⟩) l c)) (hy:ev E y=some (iN i)) (hi:i<l) :
  Ex P n E w0 F H R (.indexAddr t x y) (.pointer (some ⟨b,o+i*k,none⟩)):=⟨fun w _ a ha _ _ _ _ _=>by
 simp only [execOp];rw [ha.eval hx,ha.eval hy];have hz:(sizeOf e).run P w=.ok k w:=ht.2 w;simp [Instr.indexAt,run_underlying ht.1,asIntOf,hi,hz,Addr.add_lit]⟩
variable {fn:Func} {Z:Ending->World->Prop} {κ:List Kf}
def put (cs:List Value) (o:Nat) (vs:List Value):List Value:=cs.take o++vs++cs.drop (o+vs.length)
structure IsFn (P:Program) (f:FuncId):Prop where
 is:∃ fn,P.funcs[f]?=some fn/\fn.body.isNone=false/\(fn.name=="runtime.NumGoroutine")=false
theorem Zar {a:Act} {w:World} {o:Oper} {f:FuncId} {xs:Array Operand} {ts:Array TypeId} (ho:o.op=.call ⟨.value (.func f),xs,ts⟩) (hf:IsFn P f) :
  (execOp a.eval o).run P w=.ok (.enter f (xs.map a.eval)) w:=by
 obtain ⟨fn,hf,hb,hnm⟩:=hf.is;have e1:a.eval (.func f)=.func (.func f) #[] #[]:=rfl;simp [execOp,ho,resolve,e1,Deferred.ofValue,invoke,callFunc,hf];rw [if_neg (by simpa using hnm),if_neg (by intro h;rw [h] at hb;cases hb)]
def args (E:Env):List Operand->Option (List Value)
 | []=>some []
 | x::r=>match ev E x,args E r with | some v,some vs=>some (v::vs) | _,_=>none
theorem Hb {a:Act} (ha:Ag n a E):∀ (xs:List Operand) (vs:List Value),args E xs=some vs->(xs.toArray.map a.eval)=vs.toArray
 | [],vs,h=>by simp only [args] at h;cases h;simp
 | x::r,vs,h=>by
  simp only [args] at h;cases hx:ev E x with
  | none=>simp [hx] at h
  | some v =>
   cases hr:args E r with
   | none=>simp [hx,hr] at h
   | some us =>
    simp [hx,hr] at h;subst h;have ih:=Hb ha r us hr;have e:=ha.eval hx;have ih':r.map a.eval=us:=by simpa using ih
    simp [e,ih']
theorem WL_call {all:Array Oper} {l:List Oper} {d f:Nat} {xs:List Operand} {vs:List Value} {ts:Array TypeId} {t:TypeId} {p:String} {e:Array Edge} {v:Value} (hf:IsFn P f)
  (hd:Nat.blt d n=true) (hx:args E xs=some vs) (hc:∀ w,Sat w0 F H R w->Jd P f vs.toArray w v) (h:WL P n all l ((d,v)::E) w0 F H R fn Z κ) :
  WL P n all (⟨some d,.call ⟨.value (.func f),xs.toArray,ts⟩,t,p,e,none⟩::l) E w0 F H R fn Z κ :=
 ⟨fun w hs a ha=>wpList_plain rfl fun K hK=>by
  unfold Oper.wp;rw [Zar rfl hf,Hb ha xs vs hx];refine (hc w hs).mono ?_;rintro e w' ⟨rfl,hb'⟩;exact hK _ _ (h.go w' (hs.keep hb') _ (ha.put hd v))⟩
end
end E
namespace E
open Go Go.RowKit
def Asr.and (R1 R2:Asr):Asr:=⟨R1.S++R2.S,fun w=>R1.A w/\R2.A w/\∀ k ∈ R1.S,k ∉ R2.S,
 fun w w' h hk=>⟨R1.st w w' h.1 (fun k hm=>hk k (List.mem_append_left _ hm)),R2.st w w' h.2.1 (fun k hm=>hk k (List.mem_append_right _ hm)),h.2.2⟩⟩
structure TA (P:Program) (t e size bytes:Nat) (z:Value):Prop where
 sl:P.underlying t=some (.slice e)
 inf:(P.info? e).map (fun i=>(i.zero,i.size,i.bytes))=some (some z,size,bytes)
 zs:z.cells.size=size
 pos:0<size
section
variable {P:Program} {n:Nat} {E:Env} {w0:World} {F:List Nat} {H:Hp} {R:Asr} {fn:Func} {Z:Ending->World->Prop} {κ:List Kf}
theorem K6 {w w':World} {t ty e size bytes:Nat} {z v v':Value} {k m c:Nat} {xs news:List Value} {a:Addr} (ht:TA P t e size bytes z) (hown:w.ownsRow 0 e size v k xs)
  (hl:news.length=m*size) (hnews:∀ j u,news[j]?=some u->w.cell? (a.add j)=some u) (h1:∀ u ∈ news,u.oneCell'=true)
  (h63:k+m<=maxLen) (hbytes:(k+m)*bytes<=140737488355328) (hr:(Builtin.append_ #[t,t] ty #[v,.slice (some a) m c]).run P w=.ok v' w') :
  ∀ g,v'.ownBlock=some g->v.ownBlock=some g\/w.heap.size<=g:=by
 intro g hg;obtain ⟨i,hi,hz,hs,hb⟩:=info_parts ht.inf;subst hs;subst hb;have hsmall:k+m<=9223372036854775807:=by simp only [maxLen] at h63;omega
 rcases hown.2 with ⟨rfl,rfl⟩ | ⟨g0,cap,cur,rfl,_,hg0,hnc,hcm,hcs,htake⟩
 ·by_cases hm:m=0
  ·subst hm
   have hr':(Builtin.append_ #[t,t] ty #[.slice none 0 0,.slice (some a) 0 c]).run P w=.ok (.slice none 0 0) w:=by
    simp [Builtin.append_,run_underlying ht.sl,sizeOf,typeInfo,hi,Builtin.lenOf,Builtin.firstCells,loadCells,loadCellsFrom]
   rw [hr'] at hr;cases hr;simp [Value.ownBlock] at hg
  ·have hr':=run_append_nil (P:=P) w t ty e i z ht.sl hi hz a m c news hl hnews (by omega) (by omega) (by have hb:=hbytes;simp only [Nat.zero_add] at hb;omega);rw [hr] at hr';cases hr';simp only [Value.ownBlock,Option.some.injEq] at hg;exact .inr (by omega)
 ·by_cases hroom:k+m<=cap
  ·have hfit:k*i.size+news.length<=cur.size:=by rw [hl,hcs,<- Nat.add_mul];exact Nat.mul_le_mul_right _ hroom
   have hr':=run_append_room (P:=P) w t ty e i ht.sl hi g0 k cap cur hg0 a m c news hl hnews h1 hroom hfit;rw [hr] at hr';cases hr';exact .inl hg
  ·have holds:∀ j u,xs[j]?=some u->w.cell? ((⟨g0,0,none⟩:Addr).add j)=some u:=hown.cells (g:=g0) rfl;have hr':=run_append_grow (P:=P) w t ty e i z ht.sl hi hz ⟨g0,0,none⟩ k cap xs hown.1 holds a m c news hl hnews (by omega) (by omega) (growslice_fits (by omega) hbytes);rw [hr] at hr';cases hr';simp only [Value.ownBlock,Option.some.injEq] at hg;exact .inr (by omega)
end
end E
namespace E
open Go Go.RowKit
def Qh (place:Nat->Option (Nat × Nat)) (cells:List Value):List (Nat × Value)->Option (List Value)
 | []=>some cells
 | (i,v)::rest =>
  match place i with
  | none=>none
  | some (off,size)=>bif Nat.beq v.cells.toList.length size&&Nat.ble (off+v.cells.toList.length) cells.length then Qh place (put cells off v.cells.toList) rest else none
theorem Mo (off:Nat):∀ (l:List Value) (j:Nat) (cells:List Value),off+j+l.length<=cells.length ->
  (l.zipIdx j).foldl (fun (cs:Array Value) (x:Value × Nat)=>cs.setIfInBounds (off+x.2) x.1) cells.toArray=(put cells (off+j) l).toArray
 | [],j,cells,_=>by simp [put]
 | v::r,j,cells,h=>by
  simp only [List.length_cons] at h;rw [List.zipIdx_cons,List.foldl_cons];have e:cells.toArray.setIfInBounds (off+j) v=(cells.set (off+j) v).toArray:=by simp
  simp only [e];rw [Mo off r (j+1) (cells.set (off+j) v) (by rw [List.length_set];omega)];have:=list_seg_step cells (off+j) v r (by omega);unfold put;rw [List.length_cons,<- this];rw [Nat.add_assoc off j 1]
theorem Kn (place:Nat->Option (Nat × Nat)):∀ (parts:List (Nat × Value)) (cells cs:List Value),Qh place cells parts=some cs->Instr.fill place cells.toArray parts=some cs.toArray
 | [],cells,cs,h=>by simp only [Qh] at h;cases h;rfl
 | (i,v)::r,cells,cs,h=>by
  simp only [Qh] at h;unfold Instr.fill;cases hp:place i with
  | none=>rw [hp] at h;cases h
  | some q =>
   obtain ⟨off,size⟩:=q;rw [hp] at h;simp only at h ⊢;cases hb:Nat.beq v.cells.toList.length size&&Nat.ble (off+v.cells.toList.length) cells.length with
   | false=>rw [hb] at h;cases h
   | true =>
    rw [hb] at h;rw [Bool.and_eq_true] at hb;have e1:=Nat.eq_of_beq_eq_true hb.1;have e2:=Nat.le_of_ble_eq_true hb.2;rw [Array.length_toList] at e1 e2
    have hn:¬ ((decide (v.cells.size≠size) || decide (off+v.cells.size>cells.toArray.size))=true):=by
     simp only [List.size_toArray,Bool.or_eq_true,decide_eq_true_eq];omega
    rw [if_neg hn]
    have hz:v.cells.zipIdx.foldl (fun cs (x:Value × Nat)=>cs.setIfInBounds (off+x.2) x.1) cells.toArray=(put cells off v.cells.toList).toArray:=by
     rw [<- Array.foldl_toList,Array.toList_zipIdx];exact Mo off v.cells.toList 0 cells (by rw [Array.length_toList];omega)
    rw [show (v.cells.zipIdx.foldl (fun cs x=>match x with | (c,j)=>cs.setIfInBounds (off+j) c) cells.toArray)=(put cells off v.cells.toList).toArray from hz];exact Kn place r _ cs h
section
variable {P:Program} {n:Nat} {E:Env} {w0:World} {F:List Nat} {H:Hp} {R:Asr} {fn:Func} {Z:Ending->World->Prop} {κ:List Kf}
def Tl (zs:List Value):Nat->List Value
 | 0=>[]
 | k+1=>zs++Tl zs k
theorem Vm (zs:List Value):∀ k,(Tl zs k).length=k*zs.length
 | 0=>by simp [Tl]
 | k+1=>by rw [Tl,List.length_append,Vm zs k,Nat.add_mul];omega
theorem Jh (zs:List Value) (hz:0<zs.length):∀ (k i:Nat),i<k*zs.length->(Tl zs k)[i]?=zs[i % zs.length]?
 | 0,i,h=>by omega
 | k+1,i,h=>by
  rw [Tl];by_cases hi:i<zs.length
  ·rw [List.getElem?_append_left hi,Nat.mod_eq_of_lt hi]
  ·rw [List.getElem?_append_right (by omega),Jh zs hz k (i - zs.length) (by rw [Nat.add_mul] at h;omega)];rw [<- Nat.mod_eq_sub_mod (by omega)]
theorem Fv (zs:List Value) (hz:0<zs.length) (k:Nat):(Array.range (k*zs.length)).map (fun i=>zs.toArray[i % zs.toArray.size]!)=(Tl zs k).toArray:=by
 apply Array.ext_getElem?;intro i;rw [Array.getElem?_map];by_cases h:i<k*zs.length
 ·rw [Array.getElem?_range];rw [if_pos h];simp only [Option.map_some,List.getElem?_toArray];rw [Jh zs hz k i h];have hm:i % zs.length<zs.length:=Nat.mod_lt _ hz;simp [hm]
 ·rw [Array.getElem?_eq_none (by simp;omega)];simp only [Option.map_none];rw [List.getElem?_toArray,List.getElem?_eq_none (by rw [Vm];omega)]
theorem Oz:∀ (ns:List UInt8) (s:ByteArray),(ns.map fun b=>((b.toNat:Nat):Int)).foldl (fun r (n:Int)=>r.push (UInt8.ofNat n.toNat)) s=s++⟨ns.toArray⟩
 | [],s=>by
  cases s with
  | mk d=>show ByteArray.mk d=_;rw [show (ByteArray.mk d++ByteArray.mk ([]:List UInt8).toArray)=ByteArray.mk (d++([]:List UInt8).toArray) from ByteArray.ext (ByteArray.data_append ..)];simp
 | b::r,s=>by
  simp only [List.map_cons,List.foldl_cons];rw [Oz r];have e:UInt8.ofNat ((b.toNat:Nat):Int).toNat=b:=by simp
  rw [e];apply ByteArray.ext;rw [ByteArray.data_append,ByteArray.data_append,ByteArray.data_push];simp
def Pf (b:UInt8):Value:=.int .u8 ((b.toNat:Nat):Int)
end
end E
namespace E
open Go Go.RowKit
section
variable {P:Program} {n:Nat} {E:Env} {w0:World} {F:List Nat} {H:Hp} {R:Asr} {fn:Func} {Z:Ending->World->Prop} {κ:List Kf}
end
end E




namespace E
open Go Go.RowKit
def sTab:List (Nat × Nat × Nat):=[(22,128,4),(23,134,10),(64,5,1),(69,71,2),(76,75,7),(131,169,4),(132,176,3)]
theorem sTab_ok:∀ e ∈ sTab,TS Tryz.prog e.1 e.2.1 e.2.2:=by
 simp only [sTab,List.forall_mem_cons];refine ⟨?_,?_,?_,?_,?_,?_,?_,List.forall_mem_nil _⟩;all_goals (exact ⟨by kernel_rfl,fun w=>by kernel_rfl⟩)
def Hl:List (Nat):=[9]
theorem Cc:∀ e ∈ Hl,TStr Tryz.prog e:=by
 simp only [Hl,List.forall_mem_cons];refine ⟨?_,List.forall_mem_nil _⟩;all_goals (show _=_;kernel_rfl)
def aTab:List (Nat × Nat × Nat × Nat × Value):=[(22,128,4,48,.agg #[.string ⟨#[]⟩,.bool false,.int .i64 0,.string ⟨#[]⟩]),(23,134,10,160,.agg #[.string ⟨#[]⟩,.bool false,.slice none 0 0,.int .i64 0,.string ⟨#[]⟩,.int .i64 0,.int .i64 0,.slice none 0 0,.slice none 0 0,.slice none 0 0]),(64,5,1,1,.int .u8 0),(69,71,2,24,.agg #[.int .i64 0,.string ⟨#[]⟩]),(76,75,7,96,.agg #[.int .i64 0,.int .i64 0,.string ⟨#[]⟩,.string ⟨#[]⟩,.slice none 0 0,.int .i64 0,.string ⟨#[]⟩]),(131,169,4,40,.agg #[.int .i64 0,.int .i64 0,.int .i64 0,.string ⟨#[]⟩]),(132,176,3,56,.agg #[.int .i64 0,.slice none 0 0,.slice none 0 0])]
theorem aTab_ok:∀ e ∈ aTab,TA Tryz.prog e.1 e.2.1 e.2.2.1 e.2.2.2.1 e.2.2.2.2:=by
 simp only [aTab,List.forall_mem_cons];refine ⟨?_,?_,?_,?_,?_,?_,?_,List.forall_mem_nil _⟩;all_goals (exact ⟨by kernel_rfl,by kernel_rfl,by kernel_rfl,by decide⟩)
def iTab:List (Nat × IntKind):=[(2,IntKind.i64),(3,IntKind.i64),(5,IntKind.u8),(48,IntKind.i64),(103,IntKind.u64),(252,IntKind.u64),(362,IntKind.i64)]
theorem iTab_ok:∀ e ∈ iTab,TI Tryz.prog e.1 e.2:=by
 simp only [iTab,List.forall_mem_cons];refine ⟨?_,?_,?_,?_,?_,?_,?_,List.forall_mem_nil _⟩;all_goals (show _=_;kernel_rfl)
def Ir:List (Nat × Nat × Nat)->Nat->Option (Nat × Nat)
 | [],_=>none
 | (a,b,c)::r,s=>bif Nat.beq s a then some (b,c) else Ir r s
def getA:List (Nat × Nat × Nat × Nat × Value)->Nat->Option (Nat × Nat × Nat × Value)
 | [],_=>none
 | (a,b)::r,s=>bif Nat.beq s a then some b else getA r s
def getK:List (Nat × IntKind)->Nat->Option IntKind
 | [],_=>none
 | (a,b)::r,s=>bif Nat.beq s a then some b else getK r s
def get1:List Nat->Nat->Bool
 | [],_=>false
 | a::r,s=>bif Nat.beq s a then true else get1 r s
theorem Mn:∀ (l:List (Nat × Nat × Nat)) (s b c:Nat),Ir l s=some (b,c)->(s,b,c) ∈ l
 | [],_,_,_,h=>by simp [Ir] at h
 | (a,b',c')::r,s,b,c,h=>by
  simp only [Ir] at h;cases h1:Nat.beq s a with
  | true =>
   rw [h1] at h;have e1:=Nat.eq_of_beq_eq_true h1;have e2:(b',c')=(b,c):=Option.some.inj h;cases e2;subst e1;exact List.mem_cons_self
  | false=>rw [h1] at h;exact List.mem_cons_of_mem _ (Mn r s b c h)
theorem Ip:∀ (l:List (Nat × IntKind)) (s:Nat) (b:IntKind),getK l s=some b->(s,b) ∈ l
 | [],_,_,h=>by simp [getK] at h
 | (a,b')::r,s,b,h=>by
  simp only [getK] at h;cases h1:Nat.beq s a with
  | true =>
   rw [h1] at h;have e1:=Nat.eq_of_beq_eq_true h1;have e2:b'=b:=Option.some.inj h;subst e1;subst e2;exact List.mem_cons_self
  | false=>rw [h1] at h;exact List.mem_cons_of_mem _ (Ip r s b h)
theorem Iq:∀ (l:List (Nat × Nat × Nat × Nat × Value)) (s:Nat) (b:Nat × Nat × Nat × Value),getA l s=some b->(s,b) ∈ l
 | [],_,_,h=>by simp [getA] at h
 | (a,b')::r,s,b,h=>by
  simp only [getA] at h;cases h1:Nat.beq s a with
  | true =>
   rw [h1] at h;have e1:=Nat.eq_of_beq_eq_true h1;have e2:b'=b:=Option.some.inj h;subst e1;subst e2;exact List.mem_cons_self
  | false=>rw [h1] at h;exact List.mem_cons_of_mem _ (Iq r s b h)
theorem Is:∀ (l:List Nat) (s:Nat),get1 l s=true->s ∈ l
 | [],_,h=>by simp [get1] at h
 | a::r,s,h=>by
  simp only [get1] at h;cases h1:Nat.beq s a with
  | true =>
   have e1:=Nat.eq_of_beq_eq_true h1;subst e1;exact List.mem_cons_self
  | false=>rw [h1] at h;exact List.mem_cons_of_mem _ (Is r s h)
theorem ta {t e size bytes:Nat} {z:Value} (h:getA aTab t=some (e,size,bytes,z)):TA Tryz.prog t e size bytes z:=aTab_ok (t,e,size,bytes,z) (Iq _ _ _ h)
theorem ts {t e k:Nat} (h:Ir sTab t=some (e,k)):TS Tryz.prog t e k:=sTab_ok (t,e,k) (Mn _ _ _ _ h)
theorem tstr {t:Nat} (h:get1 Hl t=true):TStr Tryz.prog t:=Cc t (Is _ _ h)
theorem tint {t:Nat} {k:IntKind} (h:getK iTab t=some k):TI Tryz.prog t k:=iTab_ok (t,k) (Ip _ _ _ h)
theorem fn242:IsFn Tryz.prog 242:=⟨_,Tryz.func242,by kernel_rfl,by kernel_rfl⟩
end E
section
open Go Go.RowKit E
section
variable {P:Program} {n:Nat} {E:Env} {w0:World} {F:List Nat} {H:Hp} {fn:Func} {κ:List Kf}
end
end
section
open Go Go.RowKit E
section
variable {P:Program} {n:Nat} {E:Env} {w0:World} {F:List Nat} {H:Hp} {R:Asr} {fn:Func} {Z:Ending->World->Prop} {κ:List Kf}
end
end


section
open Go.RowKit At E
def Wy (n:Int):Prop := -9223372036854775808<=n/\n<=9223372036854775807
structure ListAt {α:Type} (k:Nat) (El:World->List Value->α->Prop) (w:World) (v:Value) (l:List α):Prop where
 is:∃ p c,v=.slice p l.length c/\(l.length<=1048576/\l.length<=c) /\
  ∀ i x,l[i]?=some x->∃ b o r,p=some ⟨b,o,none⟩/\b<w.heap.size/\El w r x/\∀ j u,r[j]?=some u->w.cell? ⟨b,o+i*k+j,none⟩=some u
end



















namespace E
open Go Go.RowKit
def Pj (b:Nat) (cs:List Value) (e:TypeId):Asr:=⟨[b],fun w=>w.heap[b]?=some (.cells cs.toArray e (0,0)),fun w w' h hk=>by rw [hk b List.mem_cons_self];exact h⟩
section
variable {P:Program} {n:Nat} {E:Env} {w0:World} {F:List Nat} {H:Hp} {R:Asr} {fn:Func} {Z:Ending->World->Prop} {κ:List Kf}
theorem Sat.allocR {w:World} (hs:Sat w0 F H R w) (cs:List Value) (e:TypeId):Sat w0 F H ((Pj w.heap.size cs e).and R) (w.alloc (.cells cs.toArray e)):=by
 have hk:=hs.keep (w':=w.alloc (.cells cs.toArray e)) ((Below.refl _ w).alloc (Nat.le_refl _) _);have hn:(w.alloc (.cells cs.toArray e)).heap[w.heap.size]?=some (.cells cs.toArray e (0,0)):=by show (w.heap.push _)[w.heap.size]?=_;rw [Array.getElem?_push,if_pos rfl]
 refine ⟨hk.low,hk.own,hk.hi,hk.apart,⟨hn,hk.res,?_⟩,?_,?_⟩
 ·intro k h1 h2;simp only [Pj,List.mem_singleton] at h1;have:=(hs.rhi k h2).2;omega
 ·intro k hm;rcases List.mem_append.1 hm with hm | hm
  ·simp only [Pj,List.mem_singleton] at hm;subst hm;exact ⟨.inr hs.low.size,by rcases Nat.lt_or_ge w.heap.size (w.alloc (.cells cs.toArray e)).heap.size with h | h;exact h;rw [Array.getElem?_eq_none h] at hn;cases hn⟩
  ·exact hk.rhi k hm
 ·intro q hq hm;rcases List.mem_append.1 hm with hm | hm
  ·simp only [Pj,List.mem_singleton] at hm;have:=hs.lt hq;omega
  ·exact hk.rapart q hq hm
theorem Sat.turnR {w w':World} {b:Nat} {cs:List Value} {e:TypeId} {R':Asr} (hs:Sat w0 F H ((Pj b cs e).and R) w) (ho:w'.os=w.os/\w'.tape=w.tape/\w'.output=w.output) (hsz:w'.heap.size=w.heap.size) (hne:∀ k,k≠b->w'.heap[k]?=w.heap[k]?)
  (hR:∀ k ∈ R'.S,k ∈ ((Pj b cs e).and R).S) (hA:R.A w'->(∀ k ∈ R.S,k≠b)->R'.A w'):Sat w0 F H R' w':=by
 have hbS:b ∈ ((Pj b cs e).and R).S:=List.mem_append_left _ List.mem_cons_self;have hRb:∀ k ∈ R.S,k≠b:=fun k hk e=>hs.res.2.2 k (by rw [e];exact List.mem_cons_self) hk;refine ⟨⟨ho.1.trans hs.low.os,ho.2.1.trans hs.low.tape,ho.2.2.trans hs.low.output,by rw [hsz];exact hs.low.size,fun k hk hF=>?_⟩,fun q hq=>?_,hs.hi,hs.apart,hA (R.st w w' hs.res.2.1 (fun k hk=>hne k (hRb k hk))) hRb,fun k hk=>?_,fun q hq hk=>hs.rapart q hq (hR _ hk)⟩
 ·rw [hne k (fun e=>(hs.rhi b hbS).1.elim (fun hb=>hF (by rw [e];exact hb)) (fun hb=>by omega))];exact hs.low.block k hk hF
 ·rw [hne _ (fun e=>hs.rapart q hq (by rw [e];exact hbS))];exact hs.own q hq
 ·rw [hsz];exact hs.rhi k (hR k hk)
theorem WL_make {all:Array Oper} {l:List Oper} {d t e:Nat} {x y:Operand} {ty:TypeId} {p:String} {g:Array Edge} {k:Nat} (hd:Nat.blt d n=true) (ht:TA P t e 1 1 (.int .u8 0)) (hx:ev E x=some (iN k)) (hy:ev E y=some (iN k)) (hk:k<=281474976710656)
  (h:∀ b M,M.length=k->WL P n all l ((d,.slice (some ⟨b,0,none⟩) k k)::E) w0 F H ((Pj b M e).and R) fn Z κ):WL P n all (⟨some d,.makeSlice t x y,ty,p,g,none⟩::l) E w0 F H R fn Z κ :=
 ⟨fun w hs a ha=>wpList_plain rfl fun K hK=>by
  obtain ⟨i,hi,hz,hsz,hb⟩:=info_parts ht.inf;have hr:=run_make (P:=P) w t e i (.int .u8 0) ht.sl hi hz .i64 .i64 (k:Int) (k:Int) (by omega) (by omega) (by rw [hb];omega) (by omega)
  have he:(execOp a.eval ⟨some d,.makeSlice t x y,ty,p,g,none⟩).run P w=.ok (.value (.slice (some ⟨w.heap.size,0,none⟩) k k)) (w.alloc (.cells (madeCells (Value.int .u8 0).cells (k*1)).toList.toArray e)):=by
   simp only [execOp];rw [ha.eval hx,ha.eval hy];rw [hsz] at hr;simp only [Int.toNat_natCast] at hr;simp [hr]
  unfold Oper.wp;rw [he];exact hK _ _ ((h w.heap.size (madeCells (Value.int .u8 0).cells (k*1)).toList (by rw [Array.length_toList,size_madeCells,Nat.mul_one])).go (w.alloc _) (hs.allocR _ e) _ (ha.put hd _))⟩
theorem Zev {all:Array Oper} {l:List Oper} {d t u e b:Nat} {x y:Operand} {ty:TypeId} {p:String} {g:Array Edge} {s:ByteArray} {M:List Value} (hd:Nat.blt d n=true) (ht:TA P t e 1 1 (.int .u8 0)) (hx:ev E x=some (.slice (some ⟨b,0,none⟩) s.size s.size)) (hy:ev E y=some (.string s)) (hM:M.length=s.size)
  (h:WL P n all l ((d,iN s.size)::E) w0 F H ((Pj b (Go.Lib.byteCells s.data.toList) e).and R) fn Z κ):WL P n all (⟨some d,.call ⟨.builtin .copy,#[x,y],#[t,u]⟩,ty,p,g,none⟩::l) E w0 F H ((Pj b M e).and R) fn Z κ :=
 ⟨fun w hs a ha=>wpList_plain rfl fun K hK=>by
  obtain ⟨i',hi,hz,hsz,hb⟩:=info_parts ht.inf;have htt:w.heap[b]?=some (.cells M.toArray e (0,0)):=hs.res.1;have hr:=Go.Lib.run_copy_row_string (P:=P) w t u ty e b 0 s.size s.size s M.toArray e ht.sl (by rw [hi];simp [hsz]) htt (Nat.le_refl _) (by simp [hM])
  have e1:(M.toArray.toList.take 0++Go.Lib.byteCells s.data.toList++M.toArray.toList.drop (0+s.size))=Go.Lib.byteCells s.data.toList:=by
   rw [List.take_zero,List.nil_append,List.drop_of_length_le (by simp [hM]),List.append_nil]
  rw [e1] at hr
  have he:(execOp a.eval ⟨some d,.call ⟨.builtin .copy,#[x,y],#[t,u]⟩,ty,p,g,none⟩).run P w=.ok (.value (iN s.size)) (w.setRow b (Go.Lib.byteCells s.data.toList).toArray):=by
   simp only [execOp,resolve,invoke,builtin];simp [ha.eval hx,ha.eval hy,hr,goInt]
  unfold Oper.wp;rw [he];refine hK _ _ (h.go _ (hs.turnR (w':=w.setRow b (Go.Lib.byteCells s.data.toList).toArray) ⟨J,J,J⟩ (by simp) (fun k hk=>setRow_other w b k _ (fun e=>hk e)) (fun k hk=>hk) (fun hA hb=>⟨setRow_heap w b _ _ e _ htt,hA,fun k h1 h2=>?_⟩)) _ (ha.put hd _));simp only [Pj,List.mem_singleton] at h1;exact hb k h2 h1⟩
theorem Fl {all:Array Oper} {l:List Oper} {d t it e b:Nat} {x y:Operand} {ty:TypeId} {p:String} {g:Array Edge} {s:ByteArray} (hd:Nat.blt d n=true) (ht:P.underlying t=some (.pointer e)) (hc:P.cellsOf e=1) (hx:ev E x=some (pt b)) (hy:ev E y=some (iN s.size)) (h0:s.size≠0) (h1:s.size<=281474976710656)
  (h:WL P n all l ((d,.string s)::E) w0 F H R fn Z κ):WL P n all (⟨some d,.call ⟨.builtin .unsafeString,#[x,y],#[t,it]⟩,ty,p,g,none⟩::l) E w0 F H ((Pj b (Go.Lib.byteCells s.data.toList) e).and R) fn Z κ :=
 ⟨fun w hs a ha=>wpList_plain rfl fun K hK=>by
  have hg:w.heap[b]?=some (.cells (Go.Lib.byteCells s.data.toList).toArray e (0,0)):=hs.res.1;have hsz:s.data.toList.length=s.size:=Array.length_toList
  have hr:=Go.Lib.run_unsafeString_row (P:=P) w t it ty e ht hc b s.size (by unfold World.shape?;rw [hg];simp [Go.Lib.byteCells_length,hsz]) s.data.toList (fun e=>h0 (by rw [<- hsz,e];rfl)) (by omega) (by omega)
   (fun j v hj=>by
    rw [Addr.add_lit,Nat.zero_add];simp [World.cell?,hg,Go.Lib.byteCells,hj])
  have e2:(⟨s.data.toList.toArray⟩:ByteArray)=s:=by cases s;simp
  rw [e2,hsz] at hr
  have hx':(execOp a.eval ⟨some d,.call ⟨.builtin .unsafeString,#[x,y],#[t,it]⟩,ty,p,g,none⟩).run P w=.ok (.value (.string s)) (w.freeze ⟨b,0,none⟩ s.size):=by
   simp only [execOp,resolve,invoke,builtin];simp [ha.eval hx,ha.eval hy,hr]
  unfold Oper.wp;rw [hx']
  have hne:∀ k,k≠b->(w.freeze ⟨b,0,none⟩ s.size).heap[k]?=w.heap[k]?:=fun k hk=>by
   unfold World.freeze;split
   ·rfl
   ·simp only [Array.getElem?_modify];rw [if_neg (fun e=>hk e.symm)]
  have hsize:(w.freeze ⟨b,0,none⟩ s.size).heap.size=w.heap.size:=by unfold World.freeze;split<;>simp
  have ho:(w.freeze ⟨b,0,none⟩ s.size).os=w.os/\(w.freeze ⟨b,0,none⟩ s.size).tape=w.tape/\(w.freeze ⟨b,0,none⟩ s.size).output=w.output:=by unfold World.freeze;split<;>exact ⟨rfl,rfl,rfl⟩
  exact hK _ _ (h.go _ (hs.turnR ho hsize hne (fun k hk=>List.mem_append_right _ hk) (fun hA _=>hA)) _ (ha.put hd _))⟩
end
end E
section
open Go.RowKit At E
theorem t1p:Tryz.prog.underlying 403=some (.pointer 5):=by kernel_rfl
theorem c1u8:Tryz.prog.cellsOf 5=1:=by kernel_rfl
theorem Ki (s:ByteArray) (w:World) (hs:s.size<=4000000):Jd Tryz.prog 242 #[.string s] w (.string s):=by
 refine opens (args:=[.string s]) Tryz.func242 J Tryz.ntmps242 ?_;refine Tx (Vo (Vu J (Ul J) (Sj (Ud (Tx (Tx (Vo (Vu J (Tz J) (Vu J (Dz (tstr J) J) (Vu J (Ex_eql J J) (Sj (Ud (WC_if J ?_ ?_)))))))))))))
 ·intro c1;try (first | replace c1:=dTr c1 | replace c1:=of_nd_true c1)
  refine Tx (Vo (Vu J (Ul J) (Sj (Ud (Fm (WQ_ret (Fq J J ?_)))))));have h9:s=⟨#[]⟩:=ByteArray.ext (Array.eq_empty_of_size_eq_zero (by show s.size=0;omega));rw [h9]
 ·intro c1;try (first | replace c1:=dFa c1 | replace c1:=of_nd_false c1)
  have hne:s.size≠0:=by omega
  refine WC_skip (Ud (Tx (Vo (Vu J (Tz J) (Vu J (Dz (tstr J) J) (WL_make J (ta J) J J (by omega) (fun b M hM=>?_)))))));refine Vu J (Ul J) (Sj (Ud (Tx (Vo (Vu J (Tz J) (Vu J (Tz J) (Zev J (ta J) J J hM (Sj (Ud (Tx (Vo (Vu J (Tz J) (Vu J (Ex_at (i:=0) (ts J) J J (by omega)) ?_)))))))))))));refine Vu J (Tz J) (Vu J (Ex_lenL (ts J) J) (Fl J t1p c1u8 J J hne (by omega) ?_));refine Vu J (Ul J) (Sj (Ud (Fm (Fq J J ?_))));rfl
theorem Uk (s:ByteArray) (w:World) (hs:s.size<=4000000):Jd Tryz.prog 131 #[.string s] w (.string s):=by
 refine opens (args:=[.string s]) Tryz.func131 J Tryz.ntmps131 ?_;refine Tx (Vo (Vu J (Ul J) (Sj (Ud (Tx (Vo (Vu J (Tz J) (WL_call fn242 J J (fun w _=>Ki s w hs) ?_))))))));refine Vu J (Ul J) (Sj (Ud (Fm (Fq J J ?_))));rfl
end









namespace E
open Go Go.RowKit
section
variable {P:Program} {n:Nat} {E:Env} {w0:World} {F:List Nat} {H:Hp} {R:Asr} {fn:Func} {Z:Ending->World->Prop} {κ:List Kf}
end
end E
namespace E
open Go Go.RowKit
section
variable {w1:World} {F1:List Nat} {H1:Hp} {R1:Asr} {P:Program} {n:Nat} {E:Env} {w0:World} {F:List Nat} {H:Hp} {R:Asr} {fn:Func} {Z:Ending->World->Prop} {κ:List Kf}
end
end E





















section
open Go Go.RowKit At E
theorem one_at {α:Type} {x y:α} {i:Nat} (h:[x][i]?=some y):i=0/\y=x:=by
 match i,h with
 | 0,h=>exact ⟨rfl,(Option.some.inj h).symm⟩
end

namespace Bu
open Go
theorem one_le {H:Type} (d:DataW H):1<=Rows.uptoBulk d:=by
 cases d with
 | lit l=>cases l<;>simp [Rows.uptoBulk]
 | nil=>simp [Rows.uptoBulk]
 | ptr d=>simp [Rows.uptoBulk]
 | slice elems spare=>simp [Rows.uptoBulk]
 | agg parts=>simp [Rows.uptoBulk]
 | iface t d=>simp [Rows.uptoBulk]
 | map entries=>simp [Rows.uptoBulk]
 | held h=>simp [Rows.uptoBulk]
theorem part_le {H:Type} {d:DataW H} {l:List (DataW H)} (h:d ∈ l):Rows.uptoBulk d<=Rows.uptoBulkAll l:=by
 induction l with
 | nil=>cases h
 | cons x r ih =>
  simp only [Rows.uptoBulkAll];cases List.mem_cons.1 h with
  | inl e=>subst e;omega
  | inr e=>have:=ih e;omega
theorem sum_le {H α:Type} (μ:α->Nat):∀ (l:List α) (ds:List (DataW H)),l.length=ds.length->(∀ (i:Nat) a d,l[i]?=some a->ds[i]?=some d->μ a<=Rows.uptoBulk d)->(l.map μ).sum<=Rows.uptoBulkAll ds
 | [],[],_,_=>by simp
 | [],_::_,h,_=>by simp at h
 | _::_,[],h,_=>by simp at h
 | a::l,d::ds,h,hm=>by
  have h0:=hm 0 a d rfl rfl;have:=sum_le μ l ds (by simpa using h) (fun i a' d' hi hd=>hm (i+1) a' d' (by simpa using hi) (by simpa using hd));simp only [List.map_cons,List.sum_cons,Rows.uptoBulkAll];omega
theorem sum_one {α:Type}:∀ l:List α,(l.map fun _=>1).sum=l.length
 | []=>rfl
 | _::l=>by rw [List.map_cons,List.sum_cons,sum_one l,List.length_cons];omega
end Bu
section
open Go Go.RowKit At E
section
variable {H:Type} {enc:TypeId × Value->H} {W:World}
abbrev Rd (enc:TypeId × Value->H) (W:World) (n:Nat) (t:TypeId) (cs:List Value) (y:DataW H × List MemPlace):Prop:=DataW.trod enc Tryz.prog W 0 (fun _=>true) true n t cs=some y
theorem Zax {t:TypeId} {n:Nat} {cs:List Value} {y:DataW H × List MemPlace} (ht:Tryz.prog.underlying t=some (.int .i64)) (h:Rd enc W n t cs y):∃ z:Int,cs=[.int .i64 z]/\Wy z/\Rows.uptoBulk y.1=1:=by
 obtain ⟨z,rfl,rfl,hw⟩:=DataW.trod_int ht h;refine ⟨z,J,?_,J⟩;simp only [Lit.wf,Bool.and_eq_true,decide_eq_true_eq] at hw;exact ⟨hw.1,hw.2⟩
theorem rd_list {α:Type} {k:Nat} {El:World->List Value->α->Prop} {Q:α->Prop} {μ:α->Nat} {t e:TypeId} {n:Nat} {cs:List Value} {x:DataW H × List MemPlace} (ht:Tryz.prog.underlying t=some (.slice e)) (hk:Tryz.prog.cellsOf e=k) (hk0:0<k)
  (rd:∀ m cs' y,Rd enc W m e cs' y->Rows.uptoBulk y.1<=1048576->∃ a,El W cs' a/\Q a/\μ a<=Rows.uptoBulk y.1) (h:Rd enc W n t cs x) (hb:Rows.uptoBulk x.1<=1048576) :
  ∃ v l,cs=[v]/\ListAt k El W v l/\(∀ a ∈ l,Q a)/\(l.map μ).sum+1<=Rows.uptoBulk x.1:=by
 rcases Deep.open_slice ht h with ⟨rfl,rfl⟩ | ⟨a,len,cap,m,nn,D,Pl,rfl, -,hlc, -,hm,rfl,hx⟩
 ·exact ⟨_,[],J,⟨none,0,J,⟨by simp,by simp⟩,fun i x hi=>by simp at hi⟩,by simp,by simp [Rows.uptoBulk]⟩
 ·have hlm:len<=m:=by rw [hm];split<;>omega
  simp only [Rows.uptoBulk] at hb ⊢
  have each:∀ i,i<len->∃ a':α,∃ cs',W.cells? 0 (a.add (i*Tryz.prog.cellsOf e)) (Tryz.prog.cellsOf e)=some cs'/\El W cs' a'/\Q a'/\μ a'<=Rows.uptoBulk (D i):=fun i hi=>by
   obtain ⟨cs',h1,h2⟩:=hx i (by omega);have hD:Rows.uptoBulk (D i)<=Rows.uptoBulkAll ((List.range len).map D):=Bu.part_le (List.mem_map_of_mem (List.mem_range.2 hi));obtain ⟨a',h3,h4,h5⟩:=rd nn cs' _ h2 (by show Rows.uptoBulk (D i)<=_;omega);exact ⟨a',cs',h1,h3,h4,h5⟩
  have hlist:∃ l:List α,l.length=len/\∀ i a',l[i]?=some a'->∃ cs',W.cells? 0 (a.add (i*Tryz.prog.cellsOf e)) (Tryz.prog.cellsOf e)=some cs'/\El W cs' a'/\Q a'/\μ a'<=Rows.uptoBulk (D i):=by
   have:∀ j,j<=len->∃ l:List α,l.length=j/\∀ i a',l[i]?=some a'->∃ cs',W.cells? 0 (a.add (i*Tryz.prog.cellsOf e)) (Tryz.prog.cellsOf e)=some cs'/\El W cs' a'/\Q a'/\μ a'<=Rows.uptoBulk (D i):=by
    intro j;induction j with
    | zero=>intro _;exact ⟨[],J,fun i a' hi=>by simp at hi⟩
    | succ j ih =>
     intro hj;obtain ⟨l,hl,hp⟩:=ih (by omega);obtain ⟨a',ha'⟩:=each j (by omega);refine ⟨l++[a'],by simp [hl],fun i b hi=>?_⟩;rcases Nat.lt_or_ge i l.length with h' | h'
     ·rw [List.getElem?_append_left h'] at hi;exact hp i b hi
     ·rw [List.getElem?_append_right h'] at hi;obtain ⟨h9,rfl⟩:=one_at hi;have:i=j:=by omega
      subst this;exact ha'
   exact this len (Nat.le_refl _)
  obtain ⟨l,hl,hp⟩:=hlist;subst hl
  have hsum:(l.map μ).sum<=Rows.uptoBulkAll ((List.range l.length).map D):=Bu.sum_le μ l _ (by simp) (fun i a' d hi hd=>by
   obtain ⟨cs', -, -, -,h5⟩:=hp i a' hi;rw [List.getElem?_map] at hd
   have hlt:i<l.length:=by
    rcases Nat.lt_or_ge i l.length with h' | h'
    ·exact h'
    ·rw [List.getElem?_eq_none h'] at hi;cases hi
   rw [List.getElem?_range hlt] at hd;cases hd;exact h5)
  have hlen:l.length<=Rows.uptoBulkAll ((List.range l.length).map D):=by
   have h9:=Bu.sum_le (fun _=>1) l ((List.range l.length).map D) (by simp) (fun i a' d _ _=>Bu.one_le d);have e:(l.map fun _=>1).sum=l.length:=Bu.sum_one l;omega
  refine ⟨_,l,J,⟨some a,cap,J,⟨by omega,hlc⟩,fun i b hi=>?_⟩,fun b hb'=>?_,by omega⟩
  ·obtain ⟨cs',h1,h2, -, -⟩:=hp i b hi;rw [hk] at h1;obtain ⟨-,hcl,hc⟩:=World.cells?_some h1
   have hpos:0<l.length:=by
    rcases Nat.lt_or_ge i l.length with h' | h'
    ·omega
    ·rw [List.getElem?_eq_none h'] at hi;cases hi
   obtain ⟨x0,hx0⟩:∃ x0,l[0]?=some x0:=⟨_,List.getElem?_eq_getElem hpos⟩;obtain ⟨cs0,h10, -, -, -⟩:=hp 0 x0 hx0;rw [hk] at h10;obtain ⟨-,hcl0,hc0⟩:=World.cells?_some h10;have h00:=hc0 0 hk0;rw [Nat.zero_mul,Addr.add_zero',Addr.add_zero',List.getElem?_eq_getElem (by omega)] at h00;have hsp:=World.cell?_spot h00;have hlt:=World.block_lt_of_cell? W a h00;obtain ⟨bb,oo,ss⟩:=a;dsimp only at hsp hlt;subst hsp;refine ⟨bb,oo,cs',J,hlt,h2,fun j u hj=>?_⟩
   have hjk:j<k:=by
    rcases Nat.lt_or_ge j k with h' | h'
    ·exact h'
    ·rw [List.getElem?_eq_none (by omega)] at hj;cases hj
   have:=hc j hjk;rw [Addr.add_lit,Addr.add_lit,hj] at this;exact this
  ·obtain ⟨i,hi⟩:=List.mem_iff_getElem?.1 hb';obtain ⟨cs', -, -,h4, -⟩:=hp i b hi;exact h4
end
end
section
open Go Go.RowKit At E
theorem ul_bool:Tryz.prog.underlying 4=some (.bool):=by kernel_rfl
end
namespace lined
open Go Go.RowKit Go.ChangeShapes Go.WideShapes Go.ChangeAt At E
theorem own:ownKnob Tryz.prog.godebug=none:=by kernel_rfl
theorem C9:laidOutB Tryz.prog=true:=by kernel_rfl
theorem pars:Tryz.f8.params=#[54,3]:=by kernel_rfl
theorem ress:Tryz.f8.resultTypes=#[4]:=by kernel_rfl
theorem Le:Tryz.prog.underlying 54=some (.slice 3):=by kernel_rfl
theorem ul_i:Tryz.prog.underlying 3=some (.int .i64):=by kernel_rfl
theorem ce_i:Tryz.prog.cellsOf 3=1:=by kernel_rfl
end lined
end Go.Proofs.YtpofmnfkdkmieaaGreat
