/- What is proved here: rules to say less of memory, and rules f -/
import Derived.Test.YtpofmnfkdkmieaaGreatQ02
import Derived.Defers
import Derived.Recover
set_option linter.unusedVariables false
set_option linter.unusedSimpArgs false
namespace Go.Proofs.YtpofmnfkdkmieaaGreat
namespace E
open Go Go.RowKit
structure Asr.Imp (R R':Asr):Prop where
 s:∀ k ∈ R'.S,k ∈ R.S
 a:∀ w,R.A w->R'.A w
theorem Asr.Imp.refl (R:Asr):R.Imp R:=⟨fun _ h=>h,fun _ h=>h⟩
theorem Asr.Imp.trans {A B C:Asr} (h:A.Imp B) (k:B.Imp C):A.Imp C:=⟨fun x hx=>h.s x (k.s x hx),fun w hw=>k.a w (h.a w hw)⟩
theorem Asr.Imp.and {A A' B B':Asr} (h:A.Imp A') (k:B.Imp B'):(A.and B).Imp (A'.and B') :=
 ⟨fun x hx=>(List.mem_append.1 hx).elim (fun hx=>List.mem_append_left _ (h.s x hx)) (fun hx=>List.mem_append_right _ (k.s x hx)),
  fun w hw=>⟨h.a w hw.1,k.a w hw.2.1,fun x hx hy=>hw.2.2 x (h.s x hx) (k.s x hy)⟩⟩
theorem Asr.Imp.left {A A' B:Asr} (h:A.Imp A'):(A.and B).Imp (A'.and B):=h.and (.refl B)
theorem Asr.Imp.right {A B B':Asr} (h:B.Imp B'):(A.and B).Imp (A.and B'):=(Asr.Imp.refl A).and h
theorem Asr.comm (A B:Asr):(A.and B).Imp (B.and A) :=
 ⟨fun x hx=>(List.mem_append.1 hx).elim (fun hx=>List.mem_append_right _ hx) (fun hx=>List.mem_append_left _ hx),fun w hw=>⟨hw.2.1,hw.1,fun x hx hy=>hw.2.2 x hy hx⟩⟩
theorem Asr.assoc (A B C:Asr):((A.and B).and C).Imp (A.and (B.and C)) :=
 ⟨fun x hx=>by simp only [Asr.and,List.mem_append] at hx ⊢;rcases hx with h | h | h<;>simp [h],
  fun w hw=>⟨hw.1.1,⟨hw.1.2.1,hw.2.1,fun x hx hy=>hw.2.2 x (List.mem_append_right _ hx) hy⟩,fun x hx hy=>(List.mem_append.1 hy).elim (fun hy=>hw.1.2.2 x hx hy) (fun hy=>hw.2.2 x (List.mem_append_left _ hx) hy)⟩⟩
theorem Asr.cossa (A B C:Asr):(A.and (B.and C)).Imp ((A.and B).and C) :=
 ⟨fun x hx=>by simp only [Asr.and,List.mem_append] at hx ⊢;rcases hx with (h | h) | h<;>simp [h],
  fun w hw=>⟨⟨hw.1,hw.2.1.1,fun x hx hy=>hw.2.2 x hx (List.mem_append_left _ hy)⟩,hw.2.1.2.1,fun x hx hy=>(List.mem_append.1 hx).elim (fun hx=>hw.2.2 x hx (List.mem_append_right _ hy)) (fun hx=>hw.2.1.2.2 x hx hy)⟩⟩
theorem Asr.fst (A B:Asr):(A.and B).Imp A:=⟨fun _ hx=>List.mem_append_left _ hx,fun _ hw=>hw.1⟩
theorem Asr.snd (A B:Asr):(A.and B).Imp B:=⟨fun _ hx=>List.mem_append_right _ hx,fun _ hw=>hw.2.1⟩
theorem Asr.toNone (A:Asr):A.Imp Asr.none:=⟨fun _ hx=>by simp [Asr.none] at hx,fun _ _=>trivial⟩
theorem Asr.noneAdd (A:Asr):A.Imp (Asr.none.and A):=⟨fun x hx=>by simpa [Asr.and,Asr.none] using hx,fun _ hw=>⟨trivial,hw,fun _ hx=>by simp [Asr.none] at hx⟩⟩
theorem Asr.swap (A B C:Asr):(A.and (B.and C)).Imp (B.and (A.and C)):=(Asr.cossa A B C).trans (((Asr.comm A B).left).trans (Asr.assoc B A C))
def P2:List Asr->Asr
 | []=>Asr.none
 | r::l=>r.and (P2 l)
theorem A3 (r:Asr):∀ l:List Asr,(r.and (P2 l)).Imp (P2 (l++[r]))
 | []=>Asr.Imp.refl _
 | a::l=>(Asr.swap r a (P2 l)).trans (Asr.Imp.right (A3 r l))
theorem A2:∀ (l:List Asr) (k:Nat) (r:Asr),l[k]?=some r->(P2 l).Imp r
 | [],_,_,h=>by simp at h
 | a::l,0,r,h=>by simp at h;subst h;exact Asr.fst _ _
 | a::l,k+1,r,h=>(Asr.snd a (P2 l)).trans (A2 l k r (by simpa using h))
theorem Sat.leads {w0 w:World} {F:List Nat} {H:Hp} {R R':Asr} (h:Sat w0 F H R w) (i:R.Imp R'):Sat w0 F H R' w :=
 ⟨h.low,h.own,h.hi,h.apart,i.a w h.res,fun k hk=>h.rhi k (i.s k hk),fun p hp hk=>h.rapart p hp (i.s _ hk)⟩
theorem lN {w0:World} {F:List Nat} {H:Hp} {R:Asr} (w:World) (hs:Sat w0 F H R w):Sat w0 F H Asr.none w:=hs.leads (Asr.toNone _)
section
variable {P:Program} {n:Nat} {E:Env} {w0:World} {F:List Nat} {H:Hp} {R R':Asr} {fn:Func} {Z:Ending->World->Prop} {κ:List Kf}
theorem V5 {all:Array Oper} {l:List Oper} (i:R.Imp R') (h:WL P n all l E w0 F H R' fn Z κ):WL P n all l E w0 F H R fn Z κ:=⟨fun w hs a ha=>h.go w (hs.leads i) a ha⟩
theorem Gh {c:Code} (i:R.Imp R') (h:WC P n c E w0 F H R' fn Z κ):WC P n c E w0 F H R fn Z κ:=⟨fun w hs a ha=>h.go w (hs.leads i) a ha⟩
theorem WQ_imp {x:Exit} (i:R.Imp R') (h:WQ P n x E w0 F H R' fn Z κ):WQ P n x E w0 F H R fn Z κ:=⟨fun w hs a ha=>h.go w (hs.leads i) a ha⟩
theorem Ud {all:Array Oper} {l:List Oper} {p:Prop} (hp:∀ w,Sat w0 F H R w->p) (h:p->WL P n all l E w0 F H R fn Z κ):WL P n all l E w0 F H R fn Z κ:=⟨fun w hs a ha=>(h (hp w hs)).go w hs a ha⟩
end
structure RcAt (u w:World) (b:Nat) (cs:List Value):Prop where
 base:Below u.heap.size u w
 hb:u.heap.size<=b
 cell:∃ t,w.heap[b]?=some (.cells cs.toArray t (0,0))
theorem RcAt.sat {u w:World} {b:Nat} {cs:List Value} (h:RcAt u w b cs):Sat w [b] [(b,cs)] Asr.none w:=by
 refine ⟨Fr.refl _ _,?_,?_,by simp,trivial,(by intro k hk;simp [Asr.none] at hk),(by intro p _ hk;simp [Asr.none] at hk)⟩
 ·intro p hp;simp only [List.mem_singleton] at hp;subst hp;exact h.cell
 ·intro p hp;simp only [List.mem_singleton] at hp;subst hp;exact .inl List.mem_cons_self
def RcZ (u:World) (b:Nat) (w:World) (ok:Value->List Value->Asr->Prop) (may:Prop):Ending->World->Prop:=fun e w' =>
 (∃ v cs' R',e=.returned v/\ok v cs' R'/\Sat w [b] [(b,cs')] R' w')\/(may/\e=.panicked Nb/\Below u.heap.size u w')
def RcP (P:Program) (f:FuncId) (args:Array Value) (u:World) (b:Nat) (cs:List Value) (ok:Value->List Value->Asr->Prop) (may:Prop):Prop :=
 ∀ w,RcAt u w b cs->Calls P f args w (RcZ u b w ok may)
theorem A4 {u w0 w:World} {F:List Nat} {H:Hp} {R:Asr} (hu:Below u.heap.size u w0) (hF:∀ x ∈ F,u.heap.size<=x) (hs:Sat w0 F H R w):Below u.heap.size u w :=
 ⟨hs.low.os.trans hu.os,hs.low.tape.trans hu.tape,hs.low.output.trans hu.output,Nat.le_trans hu.size hs.low.size,fun k hk=>by
  rw [hs.low.block k (Nat.lt_of_lt_of_le hk hu.size) (fun hm=>by have:=hF k hm;omega)];exact hu.block k hk⟩
theorem Zqd {u w0 w:World} {F:List Nat} {H:Hp} {R:Asr} {b i:Nat} {cs:List Value} (hu:Below u.heap.size u w0) (hF:∀ x ∈ F,u.heap.size<=x) (hs:Sat w0 F H R w) (hp:H[i]?=some (b,cs)):RcAt u w b cs:=by
 have hm:=List.mem_of_getElem? hp;refine ⟨A4 hu hF hs,(hs.hi _ hm).elim (hF b) (fun h=>Nat.le_trans hu.size h),hs.own _ hm⟩
theorem Sat.only {w0 w:World} {F:List Nat} {H:Hp} {R:Asr} {b i:Nat} {cs:List Value} (hs:Sat w0 F H R w) (hp:H[i]?=some (b,cs)):Sat w0 F [(b,cs)] R w:=by
 have hm:=List.mem_of_getElem? hp;have h1:∀ p ∈ [(b,cs)],p ∈ H:=fun p hq=>by simp only [List.mem_singleton] at hq;subst hq;exact hm
 exact ⟨hs.low,fun p hq=>hs.own p (h1 p hq),fun p hq=>hs.hi p (h1 p hq),by simp,hs.res,hs.rhi,fun p hq=>hs.rapart p (h1 p hq)⟩
theorem Zjs {w0 w w':World} {F:List Nat} {H:Hp} {R R':Asr} {b i:Nat} {cs cs':List Value} (hs:Sat w0 F H R w) (hp:H[i]?=some (b,cs)) (hw:Sat w [b] [(b,cs')] R' w'):Sat w0 F (H.set i (b,cs')) (R'.and R) w':=by
 have hm:=List.mem_of_getElem? hp
 have hmap:(H.set i (b,cs')).map (·.1)=H.map (·.1):=by
  rw [List.map_set];exact Ou (by rw [List.getElem?_map,hp];rfl)
 have hkeep:∀ p ∈ H.set i (b,cs'),p=(b,cs')\/(p ∈ H/\p.1≠b):=by
  intro p hpm;obtain ⟨j,hj⟩:=List.mem_iff_getElem?.1 hpm;rw [List.getElem?_set] at hj;split at hj
  ·split at hj
   ·cases hj;exact .inl J
   ·cases hj
  ·rename_i hij
   refine .inr ⟨List.mem_of_getElem? hj,fun e=>?_⟩;have h1:(H.map (·.1))[i]?=some b:=by rw [List.getElem?_map,hp];rfl
   have h2:(H.map (·.1))[j]?=some b:=by rw [List.getElem?_map,hj,<- e];rfl
   exact hij (L7 hs.apart h1 h2)
 have hnew:∀ k ∈ R'.S,w.heap.size<=k/\k<w'.heap.size:=by
  intro k hk;refine ⟨(hw.rhi k hk).1.elim (fun h=>?_) id,(hw.rhi k hk).2⟩;simp only [List.mem_singleton] at h;subst h;exact absurd hk (hw.rapart (k,cs') List.mem_cons_self)
 have hold:∀ k,k<w.heap.size->k≠b->w'.heap[k]?=w.heap[k]?:=fun k hk hne=>hw.low.block k hk (by simpa using hne);have hRb:∀ k ∈ R.S,k≠b:=fun k hk e=>hs.rapart _ hm (by rw [<- e];exact hk);refine ⟨hs.low.trans hw.low ?_,?_,?_,by rw [hmap];exact hs.apart,⟨hw.res,?_,?_⟩,?_,?_⟩
 ·intro x hx;simp only [List.mem_singleton] at hx;subst hx;exact hs.hi _ hm
 ·intro p hpm;rcases hkeep p hpm with rfl | ⟨hq,hne⟩
  ·exact hw.own _ List.mem_cons_self
  ·rw [hold p.1 (hs.lt hq) hne];exact hs.own p hq
 ·intro p hpm;rcases hkeep p hpm with rfl | ⟨hq,_⟩
  ·exact hs.hi (b,cs) hm
  ·exact hs.hi p hq
 ·exact R.st w w' hs.res (fun k hk=>hold k (hs.rhi k hk).2 (hRb k hk))
 ·intro k hk hk2;have:=(hnew k hk).1;have:=(hs.rhi k hk2).2;omega
 ·intro k hk;rcases List.mem_append.1 hk with hk | hk
  ·exact ⟨.inr (Nat.le_trans hs.low.size (hnew k hk).1),(hnew k hk).2⟩
  ·exact ⟨(hs.rhi k hk).1,Nat.lt_of_lt_of_le (hs.rhi k hk).2 hw.low.size⟩
 ·intro p hpm hk;rcases List.mem_append.1 hk with hk | hk
  ·rcases hkeep p hpm with rfl | ⟨hq,_⟩
   ·exact hw.rapart (b,cs') List.mem_cons_self hk
   ·have:=(hnew _ hk).1;have:=hs.lt hq;omega
  ·rcases hkeep p hpm with rfl | ⟨hq,_⟩
   ·exact hs.rapart (b,cs) hm hk
   ·exact hs.rapart p hq hk
structure WD (P:Program) (n:Nat) (E:Env) (u:World) (fn:Func) (Z:Ending->World->Prop) (κ:List Kf):Prop where
 go:∀ w,Below u.heap.size u w->∀ a,Ag n a E->den P fn Z κ (.panic Nb) a w
section
variable {P:Program} {n:Nat} {E:Env} {w0:World} {F:List Nat} {H:Hp} {R:Asr} {fn:Func} {Z:Ending->World->Prop} {κ:List Kf}
theorem Yt {u:World} {k:Kf} (h:WD P n E u fn Z κ):WD P n E u fn Z (k::κ) :=
 ⟨fun w hb a ha=>by
  have:=h.go w hb a ha;obtain ⟨tag,_,_,_⟩:=k
  match tag with
  | 0=>exact this
  | 1=>exact this
  | _+2=>exact this⟩
theorem Xi {u w:World} {b:Nat} {ok:Value->List Value->Asr->Prop} {may:Prop} (h:may):WD P n E u fn (RcZ u b w ok may) [] :=
 ⟨fun _ hb _ ha=>⟨ha.no,.inr ⟨h,rfl,hb⟩⟩⟩
theorem G5 {u:World} (hu:Below u.heap.size u w0) (hF:∀ x ∈ F,u.heap.size<=x) (h:WD P n E u fn Z κ):WQ P n (.panic Nb) E w0 F H R fn Z κ :=
 ⟨fun w hs a ha=>h.go w (A4 hu hF hs) a ha⟩
theorem Vk {u w:World} {b:Nat} {cs:List Value} (h0:RcAt u w b cs):∀ x ∈ [b],u.heap.size<=x:=fun x hx=>by simp only [List.mem_singleton] at hx;subst hx;exact h0.hb
theorem Tw {u w:World} {b:Nat} {cs':List Value} {ok:Value->List Value->Asr->Prop} {may:Prop} {t:Tmp} {v:Value} (hr:fn.results=#[.tmp t]) (hv:Uz E t=some v) (i:Nat) (hp:H[i]?=some (b,cs')) (h:ok v cs' R) :
  WQ P n .ret E w [b] H R fn (RcZ u b w ok may) [] :=
 Zci hr hv fun _ hs=>.inl ⟨v,cs',R,rfl,h,hs.only hp⟩
theorem T9 {all:Array Oper} {l:List Oper} {d f b:Nat} {xs:List Operand} {vs:List Value} {ts:Array TypeId} {t:TypeId} {p:String} {e:Array Edge} {cs:List Value} {u:World} {ok:Value->List Value->Asr->Prop} {may:Prop} (hf:IsFn P f)
  (hd:Nat.blt d n=true) (hx:args E xs=some vs) (i:Nat) (hp:H[i]?=some (b,cs)) (hu:Below u.heap.size u w0) (hF:∀ x ∈ F,u.heap.size<=x) (hc:RcP P f vs.toArray u b cs ok may)
  (hn:may->WD P n E u fn Z κ)
  (h:∀ v cs' R',ok v cs' R'->WL P n all l ((d,v)::E) w0 F (H.set i (b,cs')) (R'.and R) fn Z κ) :
  WL P n all (⟨some d,.call ⟨.value (.func f),xs.toArray,ts⟩,t,p,e,none⟩::l) E w0 F H R fn Z κ :=
 ⟨fun w hs a ha=>wpList_plain rfl fun K hK=>by
  unfold Oper.wp;rw [Pk rfl hf,Rv ha xs vs hx];refine (hc w (Zqd hu hF hs hp)).mono ?_;rintro e w' (⟨v,cs',R',rfl,hok,hw⟩ | ⟨hm,rfl,hb⟩)
  ·exact hK _ _ ((h v cs' R' hok).go w' (Zjs hs hp hw) _ (ha.put hd _))
  ·exact (hn hm).go w' hb _ ha⟩
theorem Y6 {all:Array Oper} {l:List Oper} {d f b:Nat} {xs:List Operand} {vs:List Value} {ts:Array TypeId} {t:TypeId} {p:String} {e:Array Edge} {cs:List Value} {u:World} {ok:Value->List Value->Asr->Prop} {may:Prop} (hf:IsFn P f)
  (hd:Nat.blt d n=true) (hx:args E xs=some vs) (i:Nat) (hp:H[i]?=some (b,cs)) (hu:Below u.heap.size u w0) (hF:∀ x ∈ F,u.heap.size<=x) (hc:RcP P f vs.toArray u b cs ok may)
  (hn:may->WD P n E u fn Z κ)
  (h:∀ v cs',(∃ R',ok v cs' R')->WL P n all l ((d,v)::E) w0 F (H.set i (b,cs')) R fn Z κ) :
  WL P n all (⟨some d,.call ⟨.value (.func f),xs.toArray,ts⟩,t,p,e,none⟩::l) E w0 F H R fn Z κ :=
 T9 hf hd hx i hp hu hF hc hn fun v cs' R' hok=>V5 (Asr.snd R' R) (h v cs' ⟨R',hok⟩)
end
def Zlp (P:Program) (f:FuncId) (args:Array Value) (w:World) (o:Option Value):Prop :=
 Calls P f args w fun e w'=>((∃ v,o=some v/\e=.returned v)\/(o=none/\e=.panicked Nb))/\Below w.heap.size w w'
theorem Zlq {P:Program} {n:Nat} {E:Env} {w0:World} {H:Hp} {R:Asr} {fn:Func} {t:Tmp} {v:Value} {o:Option Value} (hr:fn.results=#[.tmp t]) (hv:Uz E t=some v) (h:o=some v) :
  WQ P n .ret E w0 [] H R fn (fun e w'=>((∃ v,o=some v/\e=.returned v)\/(o=none/\e=.panicked Nb))/\Below w0.heap.size w0 w') [] :=
 Zci hr hv fun _ hs=>⟨.inl ⟨v,h,rfl⟩,hs.low.below⟩
theorem Zlr {P:Program} {n:Nat} {E:Env} {w0:World} {H:Hp} {R:Asr} {fn:Func} {o:Option Value} (h:o=none) :
  WQ P n (.panic Nb) E w0 [] H R fn (fun e w'=>((∃ v,o=some v/\e=.returned v)\/(o=none/\e=.panicked Nb))/\Below w0.heap.size w0 w') [] :=
 Zcj fun _ hs=>⟨.inr ⟨h,rfl⟩,hs.low.below⟩
end E
namespace E
open Go Go.RowKit
theorem Cn {u w w':World} (h:Below u.heap.size u w) (k:Below w.heap.size w w'):Below u.heap.size u w' :=
 ⟨k.os.trans h.os,k.tape.trans h.tape,k.output.trans h.output,Nat.le_trans h.size k.size,fun i hi=>(k.block i (Nat.lt_of_lt_of_le hi h.size)).trans (h.block i hi)⟩
def FnZ (w:World) (ok:Value->Asr->Prop) (may:Prop):Ending->World->Prop:=fun e w' =>
 (∃ v R',e=.returned v/\ok v R'/\Sat w [] [] R' w')\/(may/\e=.panicked Nb/\Below w.heap.size w w')
def FnP (P:Program) (f:FuncId) (args:Array Value) (w:World) (ok:Value->Asr->Prop) (may:Prop):Prop:=Calls P f args w (FnZ w ok may)
theorem Zkq {w0 w w':World} {F:List Nat} {H:Hp} {R R':Asr} (hs:Sat w0 F H R w) (hw:Sat w [] [] R' w'):Sat w0 F H (R'.and R) w':=by
 have hb:=hw.low.below;have hk:=hs.keep hb;have hnew:∀ k ∈ R'.S,w.heap.size<=k/\k<w'.heap.size:=fun k hk=>⟨(hw.rhi k hk).1.elim (fun h=>by cases h) id,(hw.rhi k hk).2⟩;refine ⟨hk.low,hk.own,hk.hi,hk.apart,⟨hw.res,hk.res,?_⟩,?_,?_⟩
 ·intro k h1 h2;have:=(hnew k h1).1;have:=(hs.rhi k h2).2;omega
 ·intro k hm;rcases List.mem_append.1 hm with hm | hm
  ·exact ⟨.inr (Nat.le_trans hs.low.size (hnew k hm).1),(hnew k hm).2⟩
  ·exact hk.rhi k hm
 ·intro p hp hm;rcases List.mem_append.1 hm with hm | hm
  ·have:=(hnew _ hm).1;have:=hs.lt hp;omega
  ·exact hk.rapart p hp hm
theorem Sat.bare {w0 w:World} {F:List Nat} {H:Hp} {R:Asr} (hs:Sat w0 F H R w):Sat w0 F [] R w :=
 ⟨hs.low,(fun p hp=>by cases hp),(fun p hp=>by cases hp),List.nodup_nil,hs.res,hs.rhi,(fun p hp=>by cases hp)⟩
section
variable {P:Program} {n:Nat} {E:Env} {w0:World} {F:List Nat} {H:Hp} {R:Asr} {fn:Func} {Z:Ending->World->Prop} {κ:List Kf}
theorem Cr {all:Array Oper} {l:List Oper} {d f:Nat} {xs:List Operand} {vs:List Value} {ts:Array TypeId} {t:TypeId} {p:String} {e:Array Edge} {ok:Value->Asr->Prop} {may:Prop} (hf:IsFn P f)
  (hd:Nat.blt d n=true) (hx:args E xs=some vs) (hc:∀ w,Sat w0 F H R w->FnP P f vs.toArray w ok may) (hn:may->WQ P n (.panic Nb) E w0 F H R fn Z κ)
  (h:∀ v R',ok v R'->WL P n all l ((d,v)::E) w0 F H (R'.and R) fn Z κ) :
  WL P n all (⟨some d,.call ⟨.value (.func f),xs.toArray,ts⟩,t,p,e,none⟩::l) E w0 F H R fn Z κ :=
 ⟨fun w hs a ha=>wpList_plain rfl fun K hK=>by
  unfold Oper.wp;rw [Pk rfl hf,Rv ha xs vs hx];refine Calls.mono (hc w hs) ?_;rintro e w' (⟨v,R',rfl,hok,hw⟩ | ⟨hm,rfl,hb⟩)
  ·exact hK _ _ ((h v R' hok).go w' (Zkq hs hw) _ (ha.put hd _))
  ·exact (hn hm).go w' (hs.keep hb) _ ha⟩
theorem Zus {all:Array Oper} {l:List Oper} {d f:Nat} {xs:List Operand} {vs:List Value} {ts:Array TypeId} {t:TypeId} {p:String} {e:Array Edge} {o:Option Value} (hf:IsFn P f)
  (hd:Nat.blt d n=true) (hx:args E xs=some vs) (hc:∀ w,Sat w0 F H R w->Zlp P f vs.toArray w o) (hn:o=none->WQ P n (.panic Nb) E w0 F H R fn Z κ)
  (h:∀ v,o=some v->WL P n all l ((d,v)::E) w0 F H R fn Z κ) :
  WL P n all (⟨some d,.call ⟨.value (.func f),xs.toArray,ts⟩,t,p,e,none⟩::l) E w0 F H R fn Z κ :=
 ⟨fun w hs a ha=>wpList_plain rfl fun K hK=>by
  unfold Oper.wp;rw [Pk rfl hf,Rv ha xs vs hx];refine Calls.mono (hc w hs) ?_;rintro e w' ⟨⟨v,hv,rfl⟩ | ⟨hv,rfl⟩,hb⟩
  ·exact hK _ _ ((h v hv).go w' (hs.keep hb) _ (ha.put hd _))
  ·exact (hn hv).go w' (hs.keep hb) _ ha⟩
theorem FnP.of_Q {f:FuncId} {args:Array Value} {w:World} {o:Option Value} (h:Zlp P f args w o):FnP P f args w (fun v R'=>o=some v/\R'=Asr.none) (o=none):=by
 refine Calls.mono h ?_;rintro e w' ⟨⟨v,hv,rfl⟩ | ⟨hv,rfl⟩,hb⟩
 ·exact .inl ⟨v,Asr.none,J,⟨hv,J⟩,(Sat.first w []).keep hb⟩
 ·exact .inr ⟨hv,J,hb⟩
theorem Zvr {g:Nat} {x:Operand} {v:Value} (hx:ev E x=some v):Ex P n E w0 F H R (.makeFunc (.func g) #[] #[x]) (.func (.func g) #[] #[v]):=⟨fun w _ a ha _ _ _ _ _=>by
 simp only [execOp];simp [ha.eval hx,Instr.makeFunc]⟩
structure Res (P:Program) (n:Nat) (E:Env) (w0:World) (F:List Nat) (H:Hp) (R:Asr) (fn:Func) (v:Value):Prop where
 go:∀ w,Sat w0 F H R w->∀ a:Act,Ag n a E->(results fn a.tmps).run P w=.ok v w
def rvIs (P:Program) (a:Act) (w:World) (v:Value):ResultVar->Prop
 | .tmp t=>a.tmps.getD t undef=v
 | .cell x t=>∃ b,a.tmps.getD x undef=.pointer (some b)/\(loadVar t b).run P w=.ok v w
structure RV (P:Program) (n:Nat) (E:Env) (w0:World) (F:List Nat) (H:Hp) (R:Asr) (r:ResultVar) (v:Value):Prop where
 go:∀ w,Sat w0 F H R w->∀ a:Act,Ag n a E->rvIs P a w v r
theorem Ziw {t:Nat} {v:Value} (h:Uz E t=some v):RV P n E w0 F H R (.tmp t) v:=⟨fun w _ a ha=>ha.eval (x:=.tmp t) h⟩
theorem W8 {x t k b o:Nat} {vs:List Value} (ht:TN P t k) (h:Uz E x=some (.pointer (some ⟨b,o,none⟩))) (hc:Row w0 F H R b o vs) (hl:vs.length=k):RV P n E w0 F H R (.cell x t) (.agg vs.toArray):=⟨fun w hs a ha=>by
 have h1:=(ht w).1;have h2:=(ht w).2
 have h3:(loadCells ⟨b,o,none⟩ k).run P w=.ok vs.toArray w:=by
  rw [<- hl];exact run_loadCells_list w ⟨b,o,none⟩ vs fun j v hj=>by rw [Addr.add_lit];exact hc.go w hs j v hj
 exact ⟨_,ha.eval (x:=.tmp x) h,by simp [loadVar,h1,h2,h3]⟩⟩
theorem Zmw {a:Act} {w:World} {r:ResultVar} {v:Value} (hr:fn.results=#[r]) (h:rvIs P a w v r):(results fn a.tmps).run P w=.ok v w:=by
 unfold results;rw [hr];simp only [List.mapM_toArray,Sem.run_bind,List.mapM_cons,List.mapM_nil];cases r with
 | tmp t=>simp only [rvIs] at h;simp only [h];simp
 | cell x t =>
  obtain ⟨b,h1,h2⟩:=h;simp only [h1];simp [asAddr,h2]
theorem Ox {a:Act} {w:World} {r s:ResultVar} {v x:Value} (hr:fn.results=#[r,s]) (h:rvIs P a w v r) (k:rvIs P a w x s):(results fn a.tmps).run P w=.ok (.tuple #[v,x]) w:=by
 unfold results;rw [hr];simp only [List.mapM_toArray,Sem.run_bind,List.mapM_cons,List.mapM_nil];cases r with
 | tmp t =>
  simp only [rvIs] at h;cases s with
  | tmp t'=>simp only [rvIs] at k;simp only [h,k];simp
  | cell x t' =>
   obtain ⟨b,h1,h2⟩:=k;simp only [h,h1];simp [asAddr,h2]
 | cell x t =>
  obtain ⟨b,h1,h2⟩:=h;cases s with
  | tmp t'=>simp only [rvIs] at k;simp only [h1,k];simp [asAddr,h2]
  | cell x t' =>
   obtain ⟨b',k1,k2⟩:=k;simp only [h1,k1];simp [asAddr,h2,k2]
theorem Pz {r:ResultVar} {v:Value} (hr:fn.results=#[r]) (h:RV P n E w0 F H R r v):Res P n E w0 F H R fn v:=⟨fun w hs a ha=>Zmw hr (h.go w hs a ha)⟩
theorem Zuv {r s:ResultVar} {v x:Value} (hr:fn.results=#[r,s]) (h:RV P n E w0 F H R r v) (k:RV P n E w0 F H R s x):Res P n E w0 F H R fn (.tuple #[v,x]):=⟨fun w hs a ha=>Ox hr (h.go w hs a ha) (k.go w hs a ha)⟩
theorem Zch {v:Value} (hr:Res P n E w0 F H R fn v) (h:∀ w,Sat w0 F H R w->Z (.returned v) w):WQ P n .ret E w0 F H R fn Z [] :=
 ⟨fun w hs a ha=>bodyPost_ret (hr.go w hs a ha) ha.no (h w hs)⟩
theorem Zja {w:World} {ok:Value->Asr->Prop} {may:Prop} {v:Value} (hr:Res P n E w [] H R fn v) (h:ok v R):WQ P n .ret E w [] H R fn (FnZ w ok may) [] :=
 Zch hr fun _ hs=>.inl ⟨v,R,rfl,h,hs.bare⟩
theorem Ec {w:World} {ok:Value->Asr->Prop} {may:Prop} (h:may):WQ P n (.panic Nb) E w [] H R fn (FnZ w ok may) [] :=
 Zcj fun _ hs=>.inr ⟨h,rfl,hs.low.below⟩
theorem Zuw {v v':Value} (hr:Res P n E w0 [] H R fn v) (h:v=v'):WQ P n .ret E w0 [] H R fn (fun e w'=>e=.returned v'/\Below w0.heap.size w0 w') [] :=
 Zch hr fun _ hs=>⟨by rw [h],hs.low.below⟩
theorem Sf {u w:World} {b:Nat} {cs':List Value} {ok:Value->List Value->Asr->Prop} {may:Prop} {v:Value} (hr:Res P n E w [b] H R fn v) (i:Nat) (hp:H[i]?=some (b,cs')) (h:ok v cs' R) :
  WQ P n .ret E w [b] H R fn (RcZ u b w ok may) [] :=
 Zch hr fun _ hs=>.inl ⟨v,cs',R,rfl,h,hs.only hp⟩
theorem Zdi {w:World} {b:Nat} {old v:Value} {t:TypeId} (h:w.heap[b]?=some (.cells #[old] t (0,0))):w.setCell ⟨b,0,none⟩ v=w.setRow b #[v]:=by
 unfold World.setCell World.setRow;congr 1;apply Array.ext_getElem?;intro i;rw [Array.getElem?_modify,Array.getElem?_modify];split
 ·rename_i e;subst e;rw [h];rfl
 ·rfl
theorem Sat.set1 {w:World} (h:Sat w0 F H R w) {i b:Nat} {old v:Value} (hp:H[i]?=some (b,[old])):Sat w0 F (H.set i (b,[v])) R (w.setCell ⟨b,0,none⟩ v):=by
 obtain ⟨t,ht⟩:=h.own _ (List.mem_of_getElem? hp);rw [Zdi ht];exact h.store (new:=[v]) hp
theorem Sat.cell1 {w:World} (h:Sat w0 F H R w) {i b:Nat} {old:Value} (hp:H[i]?=some (b,[old])):w.cell? ⟨b,0,none⟩=some old/\w.frozen? ⟨b,0,none⟩=false:=by
 obtain ⟨t,ht⟩:=h.own _ (List.mem_of_getElem? hp);refine ⟨by rw [h.mine (List.mem_of_getElem? hp)];rfl,?_⟩;unfold World.frozen?;simp only at ht;simp [ht]
structure AgD (D:List Deferred) (n:Nat) (a:Act) (E:Env):Prop where
 ag:Ag n { a with defers:=[] } E
 no:a.defers=D
structure WLD (P:Program) (n:Nat) (all:Array Oper) (l:List Oper) (E:Env) (w0:World) (F:List Nat) (H:Hp) (R:Asr) (D:List Deferred) (Q:Exit->Act->World->Prop):Prop where
 go:∀ w,Sat w0 F H R w->∀ a,AgD D n a E->wpList P all Q l a w
variable {D:List Deferred} {Q:Exit->Act->World->Prop}
theorem AgD.put {a:Act} (h:AgD D n a E) {d:Nat} (hd:Nat.blt d n=true) (v:Value):AgD D n (a.put (some d) v) ((d,v)::E):=⟨h.ag.put hd v,h.no⟩
theorem Kj {all:Array Oper} (h:∀ w,Sat w0 F H R w->∀ a,AgD D n a E->Q .normal a w):WLD P n all [] E w0 F H R D Q:=⟨fun w hs a ha=>wpList_nil (h w hs a ha)⟩
theorem Gf {all:Array Oper} {l:List Oper} {d:Nat} {o:Op} {t:TypeId} {p:String} {x:Array Edge} {v:Value} (hd:Nat.blt d n=true) (he:Ex P n E w0 F H R o v)
  (h:WLD P n all l ((d,v)::E) w0 F H R D Q):WLD P n all (⟨some d,o,t,p,x,none⟩::l) E w0 F H R D Q :=
 ⟨fun w hs a ha=>wpList_plain rfl fun K hK=>by
  have hr:(execOp a.eval ⟨some d,o,t,p,x,none⟩).run P w=.ok (.value v) w:=he.go w hs _ ha.ag (some d) t p x none;unfold Oper.wp;rw [hr];exact hK _ _ (h.go w hs _ (ha.put hd v))⟩
theorem Gg {all:Array Oper} {l:List Oper} {d:Nat} {s:TypeId} {t:TypeId} {p:String} {e:Array Edge} {cs:List Value} (hd:Nat.blt d n=true) (hz:TZ P s cs)
  (h:∀ b,w0.heap.size<=b->WLD P n all l ((d,pt b)::E) w0 F ((b,cs)::H) R D Q):WLD P n all (⟨some d,.alloc s,t,p,e,none⟩::l) E w0 F H R D Q :=
 ⟨fun w hs a ha=>wpList_plain rfl fun K hK=>by
  have hz':∃ v,(zeroValue s).run P w=.ok v w/\v.cells=cs.toArray:=by
   have h1:=hz w;cases hq:(zeroValue s).run P w with
   | ok v w'=>simp [hq] at h1;exact ⟨v,by rw [h1.2],h1.1⟩
   | halt x w'=>simp [hq] at h1
  obtain ⟨v,hv,hc⟩:=hz'
  have hr:(execOp a.eval ⟨some d,.alloc s,t,p,e,none⟩).run P w=.ok (.value (.pointer (some ⟨w.heap.size,0,none⟩))) (w.alloc (.cells cs.toArray s)):=by
   simp only [execOp];simp [Instr.alloc,hv,newVar,newRow,hc]
  unfold Oper.wp;rw [hr];exact hK _ _ ((h w.heap.size hs.low.size).go (w.alloc _) (hs.alloc cs s) _ (ha.put hd _))⟩
theorem Ge {all:Array Oper} {l:List Oper} {t ty k:TypeId} {x y:Operand} {p:String} {e:Array Edge} {b o:Nat} {cs vs:List Value} {v:Value} (ht:∀ w:World,(sizeOf t).run P w=.ok k w) (hx:ev E x=some (.pointer (some ⟨b,o,none⟩))) (hy:ev E y=some v)
  (hv:v.cells=vs.toArray) (hl:vs.length=k) (h1:vs.all (·.oneCell')=true)
  (i:Nat) (hp:H[i]?=some (b,cs)) (hf:Nat.ble (o+vs.length) cs.length=true) (h:WLD P n all l E w0 F (H.set i (b,put cs o vs)) R D Q):WLD P n all (⟨none,.store t x y,ty,p,e,none⟩::l) E w0 F H R D Q :=
 ⟨fun w hs a ha=>wpList_plain rfl fun K hK=>by
  have hr:=Ob (P:=P) (d:=none) (ty:=ty) (p:=p) (e:=e) (g:=none) ht (ha.ag.eval hx) (ha.ag.eval hy) hv hl h1 hs hp hf;unfold Oper.wp;rw [show (execOp a.eval ⟨none,.store t x y,ty,p,e,none⟩).run P w=.ok .skip (w.setRow b (put cs o vs).toArray) from hr];exact hK _ _ (h.go _ (hs.store hp) _ ha)⟩
theorem A7 {all:Array Oper} {l:List Oper} {t ty:TypeId} {ts:Array TypeId} {p:String} {e:Array Edge} {fv:Fn} {cap:Array Value} (hx:Uz E t=some (.func fv #[] cap))
  (h:WLD P n all l E w0 F H R (⟨.fn fv cap,#[]⟩::D) Q):WLD P n all (⟨none,.defer ⟨.value (.tmp t),#[],ts⟩,ty,p,e,none⟩::l) E w0 F H R D Q :=
 ⟨fun w hs a ha=>wpList_plain rfl fun K hK=>by
  have he:a.eval (.tmp t)=.func fv #[] cap:=ha.ag.eval (x:=.tmp t) hx
  have hr:(execOp a.eval ⟨none,.defer ⟨.value (.tmp t),#[],ts⟩,ty,p,e,none⟩).run P w=.ok (.defer ⟨.fn fv cap,#[]⟩) w:=by
   simp [execOp,resolve,he,Deferred.ofValue]
  unfold Oper.wp;rw [hr];exact hK _ _ (h.go w hs _ ⟨ha.ag,by show _::a.defers=_;rw [ha.no]⟩)⟩
theorem Zgc {all:Array Oper} {l:List Oper} {d t g:Nat} {ts:Array TypeId} {ty:TypeId} {p:String} {e:Array Edge} {cap:Value} {ok:Value->Asr->Prop} {may:Prop} (hf:IsFn P g)
  (hd:Nat.blt d n=true) (hx:Uz E t=some (.func (.func g) #[] #[cap])) (hc:∀ w,Sat w0 F H R w->FnP P g #[cap] w ok may) (hn:may->∀ w,Sat w0 F H R w->∀ a,AgD D n a E->Q (.panic Nb) a w)
  (h:∀ v R',ok v R'->WLD P n all l ((d,v)::E) w0 F H (R'.and R) D Q) :
  WLD P n all (⟨some d,.call ⟨.value (.tmp t),#[],ts⟩,ty,p,e,none⟩::l) E w0 F H R D Q :=
 ⟨fun w hs a ha=>wpList_plain rfl fun K hK=>by
  unfold Oper.wp;rw [I9 rfl (show a.eval (.tmp t)=_ from ha.ag.eval (x:=.tmp t) hx) hf];refine Calls.mono (P:=P) (f:=g) (by have:=hc w hs;simpa [FnP] using this) ?_;rintro e w' (⟨v,R',rfl,hok,hw⟩ | ⟨hm,rfl,hb⟩)
  ·exact hK _ _ ((h v R' hok).go w' (Zkq hs hw) _ (ha.put hd _))
  ·exact hn hm w' (hs.keep hb) _ ha⟩
end
end E


end Go.Proofs.YtpofmnfkdkmieaaGreat
