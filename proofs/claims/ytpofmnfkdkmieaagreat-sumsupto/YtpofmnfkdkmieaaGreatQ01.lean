/- What is proved here: rules by which a function's code is gone -/
import Derived.WalkKit
import Derived.WalkSpells
import Derived.WalkLawsBesides
import Derived.Deep.Quiet
set_option linter.unusedVariables false
set_option linter.unusedSimpArgs false
namespace Go.Proofs.YtpofmnfkdkmieaaGreat
section
universe u
abbrev pt (b : Nat) : Go.Value := .pointer (some ⟨b, 0, none⟩)
abbrev iN (k : Nat) : Go.Value := .int .i64 (k : Int)
theorem dTr {p : Prop} [Decidable p] (h : decide p = true) : p := of_decide_eq_true h
theorem dFa {p : Prop} [Decidable p] (h : decide p = false) : ¬ p := of_decide_eq_false h
theorem J {α : Sort u} {a : α} : a = a := rfl
end
namespace E
open Go Go.RowKit
abbrev Env:=List (Nat × Value)
def Uz:Env->Nat->Option Value
 | [],_=>none
 | (j,v)::r,i=>bif Nat.beq i j then some v else Uz r i
structure Ag (n:Nat) (a:Act) (E:Env):Prop where
 room:n<=a.tmps.size
 no:a.defers=[]
 has:∀ i v,Uz E i=some v->a.tmps[i]?=some v
def ev (E:Env):Operand->Option Value
 | .tmp t=>Uz E t
 | .const v=>some v
 | .global g=>some (pt g)
 | .func f=>some (.func (.func f) #[] #[])
theorem Ag.eval {n:Nat} {a:Act} {E:Env} {x:Operand} {v:Value} (h:Ag n a E) (hx:ev E x=some v):a.eval x=v:=by
 cases x with
 | tmp t =>
  have:=h.has t v hx;show a.tmps.getD t undef=v;rw [Array.getD_eq_getD_getElem?,this];rfl
 | const u=>exact Option.some.inj hx
 | global g=>exact Option.some.inj hx
 | func f=>exact Option.some.inj hx
theorem Ag.put {n:Nat} {a:Act} {E:Env} (h:Ag n a E) {d:Nat} (hd:Nat.blt d n=true) (v:Value):Ag n (a.put (some d) v) ((d,v)::E):=by
 have hd':d<n:=by simpa using hd
 refine ⟨?_,h.no,?_⟩
 ·show n<=(a.tmps.setIfInBounds d v).size;rw [Array.size_setIfInBounds];exact h.room
 ·intro i u hu;show (a.tmps.setIfInBounds d v)[i]?=some u;simp only [Uz] at hu;rw [Array.getElem?_setIfInBounds];by_cases hi:i=d
  ·subst hi;have e:Nat.beq i i=true:=Nat.beq_refl i;rw [e] at hu;rw [if_pos rfl,if_pos (Nat.lt_of_lt_of_le hd' h.room)];exact hu
  ·have e:Nat.beq i d=false:=by
    cases hb:Nat.beq i d with
    | true=>exact absurd (Nat.eq_of_beq_eq_true hb) hi
    | false=>rfl
   rw [e] at hu;rw [if_neg (fun e'=>hi e'.symm)];exact h.has i u hu
def Sub:Env->Env->Prop
 | [],_=>True
 | p::r,E=>Uz E p.1=some p.2/\Sub r E
theorem Rm {E:Env} {i:Nat} {v:Value} (h:Uz E i=some v):(i,v) ∈ E:=by
 induction E with
 | nil=>simp [Uz] at h
 | cons p r ih =>
  simp only [Uz] at h;cases hb:Nat.beq i p.1 with
  | true =>
   rw [hb] at h;have e1:=Nat.eq_of_beq_eq_true hb;have e2:p.2=v:=Option.some.inj h;have:p=(i,v):=by rw [e1,<- e2]
   rw [this];exact List.mem_cons_self
  | false=>rw [hb] at h;exact List.mem_cons_of_mem _ (ih h)
theorem Sub.mem {E E':Env} (h:Sub E' E):∀ p ∈ E',Uz E p.1=some p.2:=by
 induction E' with
 | nil=>intro p hp;cases hp
 | cons q r ih =>
  intro p hp;cases hp with
  | head=>exact h.1
  | tail _ hm=>exact ih h.2 p hm
theorem Ag.sub {n:Nat} {a:Act} {E E':Env} (h:Ag n a E) (hs:Sub E' E):Ag n a E' :=
 ⟨h.room,h.no,fun i v hv=>h.has i v (hs.mem (i,v) (Rm hv))⟩
structure Asr where
 S:List Nat
 A:World->Prop
 st:∀ w w':World,A w->(∀ k ∈ S,w'.heap[k]?=w.heap[k]?)->A w'
def Asr.none:Asr:=⟨[],fun _=>True,fun _ _ _ _=>trivial⟩
abbrev Hp:=List (Nat × List Value)
structure Fr (F:List Nat) (w w':World):Prop where
 os:w'.os=w.os
 tape:w'.tape=w.tape
 output:w'.output=w.output
 size:w.heap.size<=w'.heap.size
 block:∀ k,k<w.heap.size->k ∉ F->w'.heap[k]?=w.heap[k]?
theorem Fr.refl (F:List Nat) (w:World):Fr F w w:=⟨rfl,rfl,rfl,Nat.le_refl _,fun _ _ _=>rfl⟩
theorem Fr.below {w w':World} (h:Fr [] w w'):Below w.heap.size w w':=⟨h.os,h.tape,h.output,h.size,fun k hk=>h.block k hk (by simp)⟩
theorem Fr.of_below {w w':World} (h:Below w.heap.size w w') (F:List Nat):Fr F w w':=⟨h.os,h.tape,h.output,h.size,fun k hk _=>h.block k hk⟩
theorem Fr.trans {F G:List Nat} {a b c:World} (h:Fr F a b) (k:Fr G b c) (hG:∀ x ∈ G,x ∈ F\/a.heap.size<=x):Fr F a c :=
 ⟨k.os.trans h.os,k.tape.trans h.tape,k.output.trans h.output,Nat.le_trans h.size k.size,fun i hi hF=>by
  rw [k.block i (Nat.lt_of_lt_of_le hi h.size) (fun hg=>(hG i hg).elim hF (by omega))];exact h.block i hi hF⟩
structure Sat (w0:World) (F:List Nat) (H:Hp) (R:Asr) (w:World):Prop where
 low:Fr F w0 w
 own:∀ p ∈ H,∃ t,w.heap[p.1]?=some (.cells p.2.toArray t (0,0))
 hi:∀ p ∈ H,p.1 ∈ F\/w0.heap.size<=p.1
 apart:(H.map (·.1)).Nodup
 res:R.A w
 rhi:∀ k ∈ R.S,(k ∈ F\/w0.heap.size<=k)/\k<w.heap.size
 rapart:∀ p ∈ H,p.1 ∉ R.S
theorem Sat.lt {w0:World} {F:List Nat} {H:Hp} {R:Asr} {w:World} (h:Sat w0 F H R w) {p:Nat × List Value} (hp:p ∈ H):p.1<w.heap.size:=by
 obtain ⟨t,ht⟩:=h.own p hp;rcases Nat.lt_or_ge p.1 w.heap.size with h' | h'
 ·exact h'
 ·rw [Array.getElem?_eq_none h'] at ht;cases ht
theorem Sat.keep {w0:World} {F:List Nat} {H:Hp} {R:Asr} {w w':World} (h:Sat w0 F H R w) (hb:Below w.heap.size w w'):Sat w0 F H R w' :=
 ⟨h.low.trans (G:=[]) (Fr.of_below hb _) (by simp),fun p hp=>by rw [hb.block _ (h.lt hp)];exact h.own p hp,h.hi,h.apart,
  R.st w w' h.res (fun k hk=>hb.block k (h.rhi k hk).2),fun k hk=>⟨(h.rhi k hk).1,Nat.lt_of_lt_of_le (h.rhi k hk).2 hb.size⟩,h.rapart⟩
theorem Sat.drop {w0:World} {F:List Nat} {H:Hp} {R:Asr} {w:World} (h:Sat w0 F H R w) (j:Nat):Sat w0 F (H.drop j) R w :=
 ⟨h.low,fun p hp=>h.own p (List.mem_of_mem_drop hp),fun p hp=>h.hi p (List.mem_of_mem_drop hp),by rw [List.map_drop];exact h.apart.sublist (List.drop_sublist _ _),h.res,h.rhi,fun p hp=>h.rapart p (List.mem_of_mem_drop hp)⟩
theorem Sat.drawn {w0:World} {F:List Nat} {H:Hp} {R:Asr} {w:World} (h:Sat w0 F H R w) (d:Nat):Sat w0 F H R { w with drawn:=d } :=
 ⟨⟨h.low.os,h.low.tape,h.low.output,h.low.size,h.low.block⟩,h.own,h.hi,h.apart,R.st w _ h.res (fun _ _=>rfl),h.rhi,h.rapart⟩
theorem Sat.old {w0:World} {F:List Nat} {H:Hp} {R:Asr} {w:World} (h:Sat w0 F H R w) {a:Addr} {v:Value} (hc:w0.cell? a=some v) (hF:a.block ∉ F):w.cell? a=some v:=by
 have ha:a.block<w0.heap.size:=World.block_lt_of_cell? w0 a hc;rw [World.cell?_of_block (w:=w0) (h.low.block a.block ha hF)];exact hc
theorem Sat.mine {w0:World} {F:List Nat} {H:Hp} {R:Asr} {w:World} (h:Sat w0 F H R w) {b:Nat} {cs:List Value} (hp:(b,cs) ∈ H) (j:Nat):w.cell? ⟨b,j,none⟩=cs[j]?:=by
 obtain ⟨t,ht⟩:=h.own _ hp;simp only at ht;simp [World.cell?,ht]
theorem Sat.alloc {w0:World} {F:List Nat} {H:Hp} {R:Asr} {w:World} (h:Sat w0 F H R w) (cs:List Value) (t:TypeId) :
  Sat w0 F ((w.heap.size,cs)::H) R (w.alloc (.cells cs.toArray t)):=by
 have hk:=h.keep (w':=w.alloc (.cells cs.toArray t)) ((Below.refl _ w).alloc (Nat.le_refl _) _);refine ⟨hk.low,?_,?_,?_,hk.res,hk.rhi,?_⟩
 ·intro p hp;cases hp with
  | head=>exact ⟨t,by show (w.heap.push _)[w.heap.size]?=_;rw [Array.getElem?_push,if_pos rfl]⟩
  | tail _ hm=>exact hk.own p hm
 ·intro p hp;cases hp with
  | head=>exact .inr h.low.size
  | tail _ hm=>exact hk.hi p hm
 ·simp only [List.map_cons,List.nodup_cons];refine ⟨?_,h.apart⟩;intro hm;obtain ⟨p,hp,e⟩:=List.mem_map.1 hm;have:=h.lt hp;omega
 ·intro p hp;cases hp with
  | head=>intro hs;have:=(h.rhi _ hs).2;simp only at this;omega
  | tail _ hm=>exact hk.rapart p hm
variable {P:Program}
structure Kf where
 tag:Nat
 id:Nat
 c:Code
 inv:Act->World->Prop
def den (P:Program) (fn:Func) (Z:Ending->World->Prop):List Kf->Exit->Act->World->Prop
 | []=>bodyPost P fn Z
 | k::r=>match k.tag with
  | 0=>Exit.then (k.c.wp P (den P fn Z r)) (den P fn Z r)
  | 1=>Exit.inBlock k.id (den P fn Z r)
  | _=>Exit.then k.inv (den P fn Z r)
structure WC (P:Program) (n:Nat) (c:Code) (E:Env) (w0:World) (F:List Nat) (H:Hp) (R:Asr) (fn:Func) (Z:Ending->World->Prop) (κ:List Kf):Prop where
 go:∀ w,Sat w0 F H R w->∀ a,Ag n a E->c.wp P (den P fn Z κ) a w
structure WL (P:Program) (n:Nat) (all:Array Oper) (l:List Oper) (E:Env) (w0:World) (F:List Nat) (H:Hp) (R:Asr) (fn:Func) (Z:Ending->World->Prop) (κ:List Kf):Prop where
 go:∀ w,Sat w0 F H R w->∀ a,Ag n a E->wpList P all (den P fn Z κ) l a w
structure WQ (P:Program) (n:Nat) (e:Exit) (E:Env) (w0:World) (F:List Nat) (H:Hp) (R:Asr) (fn:Func) (Z:Ending->World->Prop) (κ:List Kf):Prop where
 go:∀ w,Sat w0 F H R w->∀ a,Ag n a E->den P fn Z κ e a w
structure WO (P:Program) (n:Nat) (all:Array Oper) (l:List Oper) (E:Env) (w0:World) (F:List Nat) (H:Hp) (R:Asr) (fn:Func) (Z:Ending->World->Prop) (κ:List Kf):Prop where
 go:∀ a,Ag n a E->wpQuiet P all (fun w=>Sat w0 F H R w) (fun a=>∀ w,Sat w0 F H R w->den P fn Z κ .normal a w) l a
structure Ex (P:Program) (n:Nat) (E:Env) (w0:World) (F:List Nat) (H:Hp) (R:Asr) (o:Op) (v:Value):Prop where
 go:∀ w,Sat w0 F H R w->∀ a,Ag n a E->∀ (d:Option Tmp) (t:TypeId) (p:String) (x:Array Edge) (g:Option (Nat × Bool)),(execOp a.eval ⟨d,o,t,p,x,g⟩).run P w=.ok (.value v) w
section
variable {n:Nat} {E:Env} {w0:World} {F:List Nat} {H:Hp} {R:Asr} {fn:Func} {Z:Ending->World->Prop} {κ:List Kf}
theorem Zt {x y:Code} (h:WC P n x E w0 F H R fn Z (⟨0,0,y,fun _ _=>True⟩::κ)):WC P n (.seq x y) E w0 F H R fn Z κ :=
 ⟨fun w hs a ha=>wp_seq (h.go w hs a ha)⟩
theorem Yy {id:Nat} {c:Code} (h:WC P n c E w0 F H R fn Z (⟨1,id,.skip,fun _ _=>True⟩::κ)):WC P n (.block id c) E w0 F H R fn Z κ :=
 ⟨fun w hs a ha=>wp_block (h.go w hs a ha)⟩
theorem Xe (h:WQ P n .normal E w0 F H R fn Z κ):WC P n .skip E w0 F H R fn Z κ:=⟨fun w hs a ha=>wp_skip (h.go w hs a ha)⟩
theorem Yz (h:WQ P n .ret E w0 F H R fn Z κ):WC P n .ret E w0 F H R fn Z κ:=⟨fun w hs a ha=>wp_ret (h.go w hs a ha)⟩
theorem Vd {id:Nat} (h:WQ P n (.exit id) E w0 F H R fn Z κ):WC P n (.exit id) E w0 F H R fn Z κ:=⟨fun w hs a ha=>wp_exit (h.go w hs a ha)⟩
theorem Ag.known {a:Act} (ha:Ag n a E) {s:Nat} {v:Value} (hl:Uz E s=some v):Ag n a ((s,v)::E):=by
 refine ⟨ha.room,ha.no,fun i u hu=>?_⟩;simp only [Uz] at hu;cases hb:Nat.beq i s with
 | true =>
  rw [hb] at hu;have e1:=Nat.eq_of_beq_eq_true hb;subst e1;have e2:v=u:=Option.some.inj hu;rw [<- e2];exact ha.has _ _ hl
 | false=>rw [hb] at hu;exact ha.has _ _ hu
theorem Iw {s:Nat} {x y:Code} {t:Bool} (hc:Uz E s=some (.bool t)) (ht:t=true->WC P n x ((s,.bool true)::E) w0 F H R fn Z κ) (hf:t=false->WC P n y ((s,.bool false)::E) w0 F H R fn Z κ) :
  WC P n (.cond (.tmp s) x y) E w0 F H R fn Z κ :=
 ⟨fun w hs a ha=>wp_cond_split (ha.eval (x:=.tmp s) hc) (fun h=>(ht h).go w hs a (ha.known (by rw [hc,h]))) (fun h=>(hf h).go w hs a (ha.known (by rw [hc,h])))⟩
theorem Xc {s:Nat} {x y:Code} {p:Prop} [Decidable p] (hc:Uz E s=some (.bool (decide p))) (ht:p->WC P n x ((s,.bool true)::E) w0 F H R fn Z κ) (hf:¬ p->WC P n y ((s,.bool false)::E) w0 F H R fn Z κ):WC P n (.cond (.tmp s) x y) E w0 F H R fn Z κ :=
 Iw hc (fun h=>ht (of_decide_eq_true h)) (fun h=>hf (of_decide_eq_false h))
theorem Zut {s:Nat} {x y:Code} {p:Prop} [Decidable p] (hc:Uz E s=some (.bool (!decide p))) (ht:¬ p->WC P n x ((s,.bool true)::E) w0 F H R fn Z κ) (hf:p->WC P n y ((s,.bool false)::E) w0 F H R fn Z κ):WC P n (.cond (.tmp s) x y) E w0 F H R fn Z κ :=
 Iw hc (fun h=>ht (fun hp=>by simp [hp] at h)) (fun h=>hf (by simpa using h))
theorem Qi {c:Operand} {x y:Code} (hc:ev E c=some (.bool true)) (h:WC P n x E w0 F H R fn Z κ):WC P n (.cond c x y) E w0 F H R fn Z κ :=
 ⟨fun w hs a ha=>wp_cond_true (ha.eval hc) (h.go w hs a ha)⟩
theorem Zd {id:Nat} {l:List Oper} (h:WL P n l.toArray l E w0 F H R fn Z κ):WC P n (.region id l.toArray false) E w0 F H R fn Z κ :=
 ⟨fun w hs a ha=>wp_region_lit (h.go w hs a ha)⟩
theorem WC_draw {id:Nat} {l:List Oper} (hm:P.follows .mixedOrders=true) (hB:Region.lexB .any l.toArray=true)
  (h:WO P n l.toArray l E w0 F H R fn Z κ):WC P n (.region id l.toArray true) E w0 F H R fn Z κ :=
 ⟨fun w hs a ha=>wp_region_quiet (C:=fun w=>Sat w0 F H R w) hm hB (hs.drawn _) (by simpa using h.go a ha)⟩
theorem WC_sub {c:Code} {E':Env} (hs:Sub E' E) (h:WC P n c E' w0 F H R fn Z κ):WC P n c E w0 F H R fn Z κ :=
 ⟨fun w hS a ha=>h.go w hS a (ha.sub hs)⟩
theorem Vb {c:Code} {E':Env} (h:WC P n c E' w0 F H R fn Z κ) (hs:Sub E' E):WC P n c E w0 F H R fn Z κ:=WC_sub hs h
theorem Zj {x:Code} {i:Act->World->Prop} {d:Nat} (h:WC P n x E w0 F H R fn Z κ):WQ P n .normal E w0 F H R fn Z (⟨0,d,x,i⟩::κ):=⟨h.go⟩
theorem Wa {k:Kf} (h:WQ P n .ret E w0 F H R fn Z κ):WQ P n .ret E w0 F H R fn Z (k::κ) :=
 ⟨fun w hs a ha=>by
  have:=h.go w hs a ha;obtain ⟨tag,_,_,_⟩:=k
  match tag with
  | 0=>exact this
  | 1=>exact this
  | _+2=>exact this⟩
theorem Z3 {k:Kf} {c:List PanicEntry} (h:WQ P n (.panic c) E w0 F H R fn Z κ):WQ P n (.panic c) E w0 F H R fn Z (k::κ) :=
 ⟨fun w hs a ha=>by
  have:=h.go w hs a ha;obtain ⟨tag,_,_,_⟩:=k
  match tag with
  | 0=>exact this
  | 1=>exact this
  | _+2=>exact this⟩
theorem Va {x:Code} {i:Act->World->Prop} {id d:Nat} (h:WQ P n (.exit id) E w0 F H R fn Z κ):WQ P n (.exit id) E w0 F H R fn Z (⟨0,d,x,i⟩::κ):=⟨h.go⟩
theorem Y3 {id:Nat} {x:Code} {i:Act->World->Prop} (h:WQ P n .normal E w0 F H R fn Z κ):WQ P n .normal E w0 F H R fn Z (⟨1,id,x,i⟩::κ):=⟨h.go⟩
theorem Wo {x:Code} {i:Act->World->Prop} {id d:Nat} (h:WQ P n (.exit id) E w0 F H R fn Z κ):WQ P n (.exit id) E w0 F H R fn Z (⟨2,d,x,i⟩::κ):=⟨h.go⟩
theorem W9 {id:Nat} {x:Code} {i:Act->World->Prop} (h:WQ P n .normal E w0 F H R fn Z κ):WQ P n (.exit id) E w0 F H R fn Z (⟨1,id,x,i⟩::κ) :=
 ⟨fun w hs a ha=>by show (if id=id then _ else _);rw [if_pos rfl];exact h.go w hs a ha⟩
theorem Zci {t:Tmp} {v:Value} (hr:fn.results=#[.tmp t]) (hv:Uz E t=some v)
  (h:∀ w,Sat w0 F H R w->Z (.returned v) w):WQ P n .ret E w0 F H R fn Z [] :=
 ⟨fun w hs a ha=>bodyPost_ret (by rw [results_tmp hr];exact congrArg (fun u=>Result.ok u w) (ha.eval (x:=.tmp t) hv)) ha.no (h w hs)⟩
theorem Zlo  (hr:fn.results=#[])
  (h:∀ w,Sat w0 F H R w->Z (.returned (.tuple #[])) w):WQ P n .normal E w0 F H R fn Z [] :=
 ⟨fun w hs a ha=>bodyPost_end (results_none hr _ _ _) ha.no (h w hs)⟩
theorem Zgb  (hr:fn.results=#[])
  (h:∀ w,Sat w0 F H R w->Z (.returned (.tuple #[])) w):WQ P n .ret E w0 F H R fn Z [] :=
 ⟨fun w hs a ha=>bodyPost_ret (results_none hr _ _ _) ha.no (h w hs)⟩
theorem WQ_end2 {t u:Tmp} {v x:Value} (hr:fn.results=#[.tmp t,.tmp u]) (hv:Uz E t=some v) (hx:Uz E u=some x)
  (h:∀ w,Sat w0 F H R w->Z (.returned (.tuple #[v,x])) w):WQ P n .ret E w0 F H R fn Z [] :=
 ⟨fun w hs a ha=>bodyPost_ret (v:=.tuple #[v,x]) (by
  have e1:a.tmps.getD t undef=v:=ha.eval (x:=.tmp t) hv;have e2:a.tmps.getD u undef=x:=ha.eval (x:=.tmp u) hx;rw [results_tmp2 hr,e1,e2]) ha.no (h w hs)⟩
theorem Zcj {fn:Func} {c:List PanicEntry} {Z:Ending->World->Prop}
  (h:∀ w,Sat w0 F H R w->Z (.panicked c) w):WQ P n (.panic c) E w0 F H R fn Z [] :=
 ⟨fun w hs _ ha=>⟨ha.no,h w hs⟩⟩
theorem Zo {all:Array Oper} (h:WQ P n .normal E w0 F H R fn Z κ):WL P n all [] E w0 F H R fn Z κ:=⟨fun w hs a ha=>wpList_nil (h.go w hs a ha)⟩
theorem Za {all:Array Oper} {l:List Oper} {d:Nat} {o:Op} {t:TypeId} {p:String} {x:Array Edge} {v:Value} (hd:Nat.blt d n=true) (he:Ex P n E w0 F H R o v)
  (h:WL P n all l ((d,v)::E) w0 F H R fn Z κ):WL P n all (⟨some d,o,t,p,x,none⟩::l) E w0 F H R fn Z κ :=
 ⟨fun w hs a ha=>wpList_plain rfl fun K hK=>by
  unfold Oper.wp;rw [he.go w hs a ha];exact hK _ _ (h.go w hs _ (ha.put hd v))⟩
theorem I2 {all:Array Oper} {a:Act} {o:Oper} {j dj:Nat} {want t:Bool} (hg:o.guard=some (j,want)) (hj:(all[j]?).bind (·.dst)=some dj) (ha:Ag n a E) (hl:Uz E dj=some (.bool t)) :
  Region.wanted o (yielded all a.tmps)=(t==want):=by
 have e:=ha.has dj _ hl;simp only [Region.wanted,hg,yielded,hj,Option.bind_some,e];cases t<;>cases want<;>rfl
theorem Zag {all:Array Oper} {a:Act} {o:Oper} {j dj:Nat} {want:Bool} (hg:o.guard=some (j,want)) (hj:(all[j]?).bind (·.dst)=some dj) (ha:Ag n a E) (hl:Uz E dj=some undef) :
  Region.wanted o (yielded all a.tmps)=false:=by
 have e:=ha.has dj _ hl;simp only [Region.wanted,hg,yielded,hj,Option.bind_some,e];cases want<;>rfl
theorem Yd {all:Array Oper} {l:List Oper} {d j dj:Nat} {want:Bool} {o:Op} {t:TypeId} {p:String} {x:Array Edge} {v:Value} (hj:(all[j]?).bind (·.dst)=some dj) (hl:Uz E dj=some (.bool want))
  (hd:Nat.blt d n=true) (he:Ex P n E w0 F H R o v) (h:WL P n all l ((d,v)::E) w0 F H R fn Z κ):WL P n all (⟨some d,o,t,p,x,some (j,want)⟩::l) E w0 F H R fn Z κ :=
 ⟨fun w hs a ha=>wpList_step fun K hK=>by
  rw [if_pos (by rw [I2 rfl hj ha hl];exact beq_self_eq_true want)];unfold Oper.wp;rw [he.go w hs a ha];exact hK _ _ (h.go w hs _ (ha.put hd v))⟩
theorem Yk {all:Array Oper} {l:List Oper} {d j dj:Nat} {want:Bool} {o:Op} {t:TypeId} {p:String} {x:Array Edge} (hj:(all[j]?).bind (·.dst)=some dj) (hl:Uz E dj=some (.bool (!want)))
  (hd:Nat.blt d n=true) (h:WL P n all l ((d,undef)::E) w0 F H R fn Z κ):WL P n all (⟨some d,o,t,p,x,some (j,want)⟩::l) E w0 F H R fn Z κ :=
 ⟨fun w hs a ha=>wpList_skip (by rw [I2 rfl hj ha hl];cases want<;>rfl) (h.go w hs _ (ha.put hd undef))⟩
theorem Zuo {all:Array Oper} {l:List Oper} {d j dj:Nat} {want:Bool} {o:Op} {t:TypeId} {p:String} {x:Array Edge} (hj:(all[j]?).bind (·.dst)=some dj) (hl:Uz E dj=some undef)
  (hd:Nat.blt d n=true) (h:WL P n all l ((d,undef)::E) w0 F H R fn Z κ):WL P n all (⟨some d,o,t,p,x,some (j,want)⟩::l) E w0 F H R fn Z κ :=
 ⟨fun w hs a ha=>wpList_skip (Zag rfl hj ha hl) (h.go w hs _ (ha.put hd undef))⟩
theorem Eb {all:Array Oper} {l:List Oper} {d j dj:Nat} {want:Bool} {o:Op} {t:TypeId} {p:String} {x:Array Edge} {b:Bool} (hj:(all[j]?).bind (·.dst)=some dj) (hl:Uz E dj=some (.bool b))
  (hd:Nat.blt dj n=true) (ht:b=true->WL P n all (⟨some d,o,t,p,x,some (j,want)⟩::l) ((dj,.bool true)::E) w0 F H R fn Z κ)
  (hf:b=false->WL P n all (⟨some d,o,t,p,x,some (j,want)⟩::l) ((dj,.bool false)::E) w0 F H R fn Z κ):WL P n all (⟨some d,o,t,p,x,some (j,want)⟩::l) E w0 F H R fn Z κ:=by
 refine ⟨?_⟩;intro w hs a ha
 have key:∀ b':Bool,b=b'->Ag n a ((dj,.bool b')::E):=by
  intro b' e;subst e;refine ⟨ha.room,ha.no,fun i v hv=>?_⟩;simp only [Uz] at hv;cases hb:Nat.beq i dj with
  | true =>
   rw [hb] at hv;have e1:=Nat.eq_of_beq_eq_true hb;subst e1;rw [<- hv] at *;exact ha.has _ _ hl
  | false=>rw [hb] at hv;exact ha.has _ _ hv
 cases hb:b with
 | true=>exact (ht hb).go w hs a (key _ hb)
 | false=>exact (hf hb).go w hs a (key _ hb)
theorem Xl {all:Array Oper} {l:List Oper} {d j dj:Nat} {want:Bool} {o:Op} {t:TypeId} {p:String} {x:Array Edge} {q:Prop} [Decidable q] (hj:(all[j]?).bind (·.dst)=some dj) (hl:Uz E dj=some (.bool (decide q)))
  (hd:Nat.blt dj n=true) (ht:q->WL P n all (⟨some d,o,t,p,x,some (j,want)⟩::l) ((dj,.bool true)::E) w0 F H R fn Z κ)
  (hf:¬ q->WL P n all (⟨some d,o,t,p,x,some (j,want)⟩::l) ((dj,.bool false)::E) w0 F H R fn Z κ):WL P n all (⟨some d,o,t,p,x,some (j,want)⟩::l) E w0 F H R fn Z κ:=Eb hj hl hd (fun h=>ht (of_decide_eq_true h)) (fun h=>hf (of_decide_eq_false h))
theorem WL_partN {all:Array Oper} {l:List Oper} {d j dj:Nat} {want:Bool} {o:Op} {t:TypeId} {p:String} {x:Array Edge} {q:Prop} [Decidable q] (hj:(all[j]?).bind (·.dst)=some dj) (hl:Uz E dj=some (.bool (!decide q)))
  (hd:Nat.blt dj n=true) (ht:¬ q->WL P n all (⟨some d,o,t,p,x,some (j,want)⟩::l) ((dj,.bool true)::E) w0 F H R fn Z κ)
  (hf:q->WL P n all (⟨some d,o,t,p,x,some (j,want)⟩::l) ((dj,.bool false)::E) w0 F H R fn Z κ):WL P n all (⟨some d,o,t,p,x,some (j,want)⟩::l) E w0 F H R fn Z κ:=Eb hj hl hd (fun h=>ht (fun hp=>by simp [hp] at h)) (fun h=>hf (by simpa using h))
theorem WO_nil {all:Array Oper} (h:WQ P n .normal E w0 F H R fn Z κ):WO P n all [] E w0 F H R fn Z κ:=⟨fun a ha w hw=>h.go w hw a ha⟩
theorem Zqf {o:Op} {d:Option Nat} {t:TypeId} {p:String} {x:Array Edge} {g:Option (Nat × Bool)} {v:Value} {a:Act} {K:Act->Prop} (he:Ex P n E w0 F H R o v) (ha:Ag n a E)
  (h:K (a.put d v)):Oper.quiet P ⟨d,o,t,p,x,g⟩ a (fun w=>Sat w0 F H R w) K :=
 ⟨v,fun w hw=>by unfold Oper.quietAt;rw [he.go w hw a ha];exact ⟨J,J⟩,h⟩
theorem Iv {all:Array Oper} {l:List Oper} {d:Nat} {o:Op} {t:TypeId} {p:String} {x:Array Edge} {v:Value} (hd:Nat.blt d n=true) (he:Ex P n E w0 F H R o v)
  (h:WO P n all l ((d,v)::E) w0 F H R fn Z κ):WO P n all (⟨some d,o,t,p,x,none⟩::l) E w0 F H R fn Z κ :=
 ⟨fun a ha=>wpQuiet_step fun _ hK=>by
  rw [if_pos (by rfl)];exact Zqf he ha (hK _ (h.go _ (ha.put hd v)))⟩
theorem Ea {all:Array Oper} {l:List Oper} {s:Nat} {v v':Value} (hl:Uz E s=some v) (hv:v=v') (h:WL P n all l ((s,v')::E) w0 F H R fn Z κ):WL P n all l E w0 F H R fn Z κ :=
 ⟨fun w hs a ha=>h.go w hs a (ha.known (by rw [hl,hv]))⟩
theorem WC_same {c:Code} {s:Nat} {v v':Value} (hl:Uz E s=some v) (hv:v=v') (h:WC P n c ((s,v')::E) w0 F H R fn Z κ):WC P n c E w0 F H R fn Z κ :=
 ⟨fun w hs a ha=>h.go w hs a (ha.known (by rw [hl,hv]))⟩
theorem Q5 {x:Exit} {s:Nat} {v v':Value} (hl:Uz E s=some v) (hv:v=v') (h:WQ P n x ((s,v')::E) w0 F H R fn Z κ):WQ P n x E w0 F H R fn Z κ :=
 ⟨fun w hs a ha=>h.go w hs a (ha.known (by rw [hl,hv]))⟩
theorem Py {c:Code} {R':Asr} (hR:R=R') (h:WC P n c E w0 F H R' fn Z κ):WC P n c E w0 F H R fn Z κ:=hR ▸ h
def Qd (P:Program) (f:FuncId) (args:Array Value) (w:World) (v:Value):Prop:=Calls P f args w fun e w'=>e=.returned v/\Below w.heap.size w w'
end
theorem Zho {p:Prop} [Decidable p] (h:(!decide p)=true):¬ p:=of_decide_eq_false (by rw [Bool.not_eq_true'] at h;exact h)
theorem Zea {p:Prop} [Decidable p] (h:(!decide p)=false):p:=of_decide_eq_true (by rw [Bool.not_eq_false'] at h;exact h)
theorem enter {f:FuncId} {fn:Func} {c:Code} {args:Array Value} {w:World} {Z:Ending->World->Prop} {n:Nat} {E:Env} {F:List Nat} {H:Hp} {R:Asr}
  (hf:P.funcs[f]?=some fn) (hb:fn.body=some c) (hn:fn.ntmps=n) (hE:∀ i v,Uz E i=some v->args[i]?=some v) (hS:Sat w F H R w)
  (h:WC P n c E w F H R fn Z []):Calls P f args w Z:=by
 refine calls_of_wp hf hb (h.go w hS _ ⟨?_,J,?_⟩)
 ·simp only [Array.size_append,Array.size_replicate,hn];omega
 ·intro i v hv;have h1:=hE i v hv
  have hi:i<args.size:=by
   rcases Nat.lt_or_ge i args.size with h' | h'
   ·exact h'
   ·rw [Array.getElem?_eq_none h'] at h1;cases h1
  rw [Array.getElem?_append_left hi];exact h1
theorem Sat.first (w:World) (F:List Nat):Sat w F [] Asr.none w :=
 ⟨Fr.refl _ _,(fun p hp=>by cases hp),(fun p hp=>by cases hp),List.nodup_nil,trivial,(fun k hk=>by cases hk),(fun p hp=>by cases hp)⟩
def K8:Nat->List Value->Env
 | _,[]=>[]
 | i,v::r=>(i,v)::K8 (i+1) r
theorem M5:∀ (l:List Value) (k i:Nat) (v:Value),Uz (K8 k l) i=some v->k<=i/\l[i - k]?=some v
 | [],_,_,_,h=>by simp [K8,Uz] at h
 | u::r,k,i,v,h=>by
  simp only [K8,Uz] at h;cases hb:Nat.beq i k with
  | true =>
   rw [hb] at h;have e:=Nat.eq_of_beq_eq_true hb;subst e;have:u=v:=Option.some.inj h;subst this;simp
  | false =>
   rw [hb] at h;have ⟨h1,h2⟩:=M5 r (k+1) i v h;refine ⟨by omega,?_⟩;have e:i - k=(i - (k+1))+1:=by omega
   rw [e,List.getElem?_cons_succ];exact h2
theorem V0 {f:FuncId} {fn:Func} {c:Code} {args:List Value} {w:World} {Z:Ending->World->Prop} {n:Nat}
  (hf:P.funcs[f]?=some fn) (hb:fn.body=some c) (hn:fn.ntmps=n)
  (h:WC P n c (K8 0 args) w [] [] Asr.none fn Z []):Calls P f args.toArray w Z :=
 enter hf hb hn (fun i v hv=>by have:=(M5 args 0 i v hv).2;simpa using this) (Sat.first w []) h
theorem Wy {f:FuncId} {fn:Func} {c:Code} {args:List Value} {w:World} {Z:Ending->World->Prop} {n:Nat} {F:List Nat} {H:Hp} {R:Asr} (hS:Sat w F H R w)
  (hf:P.funcs[f]?=some fn) (hb:fn.body=some c) (hn:fn.ntmps=n)
  (h:WC P n c (K8 0 args) w F H R fn Z []):Calls P f args.toArray w Z :=
 enter hf hb hn (fun i v hv=>by have:=(M5 args 0 i v hv).2;simpa using this) hS h
theorem X8 {n:Nat} {E:Env} {w0:World} {H:Hp} {R:Asr} {fn:Func} {t:Tmp} {v v':Value} (hr:fn.results=#[.tmp t]) (hv:Uz E t=some v) (h:v=v') :
  WQ P n .ret E w0 [] H R fn (fun e w'=>e=.returned v'/\Below w0.heap.size w0 w') [] :=
 Zci hr hv fun _ hs=>⟨by rw [h],hs.low.below⟩
theorem P_end2 {n:Nat} {E:Env} {w0:World} {H:Hp} {R:Asr} {fn:Func} {t u:Tmp} {v x:Value} {v':Value} (hr:fn.results=#[.tmp t,.tmp u]) (hv:Uz E t=some v) (hx:Uz E u=some x) (h:.tuple #[v,x]=v') :
  WQ P n .ret E w0 [] H R fn (fun e w'=>e=.returned v'/\Below w0.heap.size w0 w') [] :=
 WQ_end2 hr hv hx fun _ hs=>⟨by rw [h],hs.low.below⟩
theorem Vc {X:Type} {n:Nat} {c:Code} {fn:Func} {Z:Ending->World->Prop} {κ:List Kf} (E:X->Env) (w0:World) (F:List Nat) (H:X->Hp) (R:X->Asr) (I:X->Prop) (m:X->Nat) (x0:X) (hI:I x0)
  (h:∀ x,I x->WC P n c (E x) w0 F (H x) (R x) fn Z (⟨2,0,.skip,fun a w=>∃ y,m y<m x/\I y/\Sat w0 F (H y) (R y) w/\Ag n a (E y)⟩::κ)):WC P n (.loop c) (E x0) w0 F (H x0) (R x0) fn Z κ:=by
 refine ⟨?_⟩;intro w hs a ha b k cs
 have key:∀ N x a w,m x=N->I x->Sat w0 F (H x) (R x) w->Ag n a (E x) ->
   ∃ e a' w',den P fn Z κ e a' w'/\Arrives P (lone (b.at a (.code c::.inLoop c::k)) cs w) b k cs e a' w':=by
  intro N;induction N using Nat.strongRecOn with
  | _ N ih =>
   intro x a w hN hIx hs ha;obtain ⟨e,a₁,w₁,hq,harr⟩:=(h x hIx).go w hs a ha b (.inLoop c::k) cs;cases e with
   | normal =>
    obtain ⟨y,hlt,hIy,hs₁,ha₁⟩:=hq;obtain ⟨e₂,a₂,w₂,hq₂,harr₂⟩:=ih (m y) (hN ▸ hlt) y a₁ w₁ rfl hIy hs₁ ha₁;exact ⟨e₂,a₂,w₂,hq₂,.of_steps (Steps.trans harr (.one step_inLoop)) harr₂⟩
   | exit id=>exact ⟨_,a₁,w₁,hq,.pass (x:=.inLoop c) rfl (fun _ _=>.inl (by simp)) harr⟩
   | goto l=>exact ⟨_,a₁,w₁,hq,.pass (x:=.inLoop c) rfl (fun _ _=>.inl (by simp)) harr⟩
   | ret=>exact ⟨_,a₁,w₁,hq,.pass (x:=.inLoop c) rfl (fun _ _=>.inl (by simp)) harr⟩
   | panic ch=>exact ⟨_,a₁,w₁,hq,.pass (x:=.inLoop c) rfl (fun _ _=>.inl (by simp)) harr⟩
   | outgrown=>exact ⟨_,a₁,w₁,hq,.pass (x:=.inLoop c) rfl (fun _ _=>.inl (by simp)) harr⟩
 obtain ⟨e,a',w',hq,harr⟩:=key _ x0 a w rfl hI hs ha;exact ⟨e,a',w',hq,.of_steps (.one step_loop) harr⟩
theorem Wh {X:Type} {n:Nat} {E₀:Env} {w0:World} {F:List Nat} {H₀:Hp} {R₀:Asr} {fn:Func} {Z:Ending->World->Prop} {κ:List Kf} {E:X->Env} {H:X->Hp} {R:X->Asr} {I:X->Prop} {m:X->Nat} {x:X} (y:X) (hm:m y<m x) (hI:I y)
  (j:Nat) (hH:H y=H₀.drop j) (hR:R y=R₀) (hs:Sub (E y) E₀):WQ P n .normal E₀ w0 F H₀ R₀ fn Z (⟨2,0,.skip,fun a w=>∃ y,m y<m x/\I y/\Sat w0 F (H y) (R y) w/\Ag n a (E y)⟩::κ) :=
 ⟨fun _ hS _ ha=>⟨y,hm,hI,by rw [hH,hR];exact hS.drop j,ha.sub hs⟩⟩
end E
end Go.Proofs.YtpofmnfkdkmieaaGreat
