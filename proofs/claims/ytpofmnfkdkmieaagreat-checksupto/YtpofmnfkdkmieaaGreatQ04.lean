/- What is proved here: rules for methods that own their receive -/
import Derived.Test.YtpofmnfkdkmieaaGreatQ03
set_option linter.unusedVariables false
set_option linter.unusedSimpArgs false
namespace Go.Proofs.YtpofmnfkdkmieaaGreat
namespace E
open Go Go.RowKit
def RkZ (b:Nat) (w:World) (Rin:Asr) (ok:Value→List Value→Asr→Prop):Ending→World→Prop:=fun e w'=>∃ v cs' R',e=.returned v∧ok v cs' R'∧Sat w (b::Rin.S) [(b,cs')] R' w'
def RkP (P:Program) (f:FuncId) (args:Array Value) (b:Nat) (cs:List Value) (Rin:Asr) (ok:Value→List Value→Asr→Prop):Prop:=∀ w,Sat w (b::Rin.S) [(b,cs)] Rin w→Calls P f args w (RkZ b w Rin ok)
theorem rk_now {w0 w:World} {F:List Nat} {H:Hp} {R Rin:Asr} {b i:Nat} {cs:List Value} (hs:Sat w0 F H (Rin.and R) w) (hp:H[i]?=some (b,cs)):Sat w (b::Rin.S) [(b,cs)] Rin w:=by
 have hm:=List.mem_of_getElem? hp;refine ⟨Fr.refl _ _,?_,?_,by simp,hs.res.1,fun k hk=>⟨.inl (List.mem_cons_of_mem _ hk),(hs.rhi k (List.mem_append_left _ hk)).2⟩,?_⟩
 ·intro p hq;simp only [List.mem_singleton] at hq;subst hq;exact hs.own _ hm
 ·intro p hq;simp only [List.mem_singleton] at hq;subst hq;exact .inl List.mem_cons_self
 ·intro p hq hk;simp only [List.mem_singleton] at hq;subst hq;exact hs.rapart _ hm (List.mem_append_left _ hk)
theorem Oz {w0 w w':World} {F:List Nat} {H:Hp} {R R' Rin:Asr} {b i:Nat} {cs cs':List Value} (hs:Sat w0 F H (Rin.and R) w) (hp:H[i]?=some (b,cs)) (hw:Sat w (b::Rin.S) [(b,cs')] R' w'):Sat w0 F (H.set i (b,cs')) (R'.and R) w':=by
 have hm:=List.mem_of_getElem? hp
 have hmap:(H.set i (b,cs')).map (·.1)=H.map (·.1):=by
  rw [List.map_set];exact set_same (by rw [List.getElem?_map,hp];rfl)
 have hkeep:∀ p ∈ H.set i (b,cs'),p=(b,cs')∨(p ∈ H∧p.1≠b):=by
  intro p hpm;obtain ⟨j,hj⟩:=List.mem_iff_getElem?.1 hpm;rw [List.getElem?_set] at hj;split at hj
  ·split at hj
   ·cases hj;exact .inl J
   ·cases hj
  ·rename_i hij
   refine .inr ⟨List.mem_of_getElem? hj,fun e=>?_⟩;have h1:(H.map (·.1))[i]?=some b:=by rw [List.getElem?_map,hp];rfl
   have h2:(H.map (·.1))[j]?=some b:=by rw [List.getElem?_map,hj,← e];rfl
   exact hij (Pv hs.apart h1 h2)
 have hin:∀ k ∈ Rin.S,(k ∈ F∨w0.heap.size≤k)∧k<w.heap.size:=fun k hk=>hs.rhi k (List.mem_append_left _ hk)
 have hnew:∀ k ∈ R'.S,(k ∈ Rin.S∨w.heap.size≤k)∧k<w'.heap.size:=by
  intro k hk;refine ⟨(hw.rhi k hk).1.elim (fun h=>?_) .inr,(hw.rhi k hk).2⟩;rcases List.mem_cons.1 h with h | h
  ·subst h;exact absurd hk (hw.rapart (k,cs') List.mem_cons_self)
  ·exact .inl h
 have hold:∀ k,k<w.heap.size→k≠b→k ∉ Rin.S→w'.heap[k]?=w.heap[k]?:=fun k hk hne hni=>hw.low.block k hk (fun h=>(List.mem_cons.1 h).elim hne hni);have hRb:∀ k ∈ R.S,k≠b∧k ∉ Rin.S:=fun k hk=>⟨fun e=>hs.rapart _ hm (List.mem_append_right _ (by rw [← e];exact hk)),fun h=>hs.res.2.2 k h hk⟩;have hRr:∀ k ∈ R.S,(k ∈ F∨w0.heap.size≤k)∧k<w.heap.size:=fun k hk=>hs.rhi k (List.mem_append_right _ hk);refine ⟨hs.low.trans hw.low ?_,?_,?_,by rw [hmap];exact hs.apart,⟨hw.res,?_,?_⟩,?_,?_⟩
 ·intro x hx;rcases List.mem_cons.1 hx with rfl | hx
  ·exact hs.hi _ hm
  ·exact (hin x hx).1
 ·intro p hpm;rcases hkeep p hpm with rfl | ⟨hq,hne⟩
  ·exact hw.own _ List.mem_cons_self
  ·rw [hold p.1 (hs.lt hq) hne (fun h=>hs.rapart p hq (List.mem_append_left _ h))];exact hs.own p hq
 ·intro p hpm;rcases hkeep p hpm with rfl | ⟨hq,_⟩
  ·exact hs.hi (b,cs) hm
  ·exact hs.hi p hq
 ·exact R.st w w' hs.res.2.1 (fun k hk=>hold k (hRr k hk).2 (hRb k hk).1 (hRb k hk).2)
 ·intro k hk hk2;rcases (hnew k hk).1 with h | h
  ·exact (hRb k hk2).2 h
  ·have:=(hRr k hk2).2;omega
 ·intro k hk;rcases List.mem_append.1 hk with hk | hk
  ·refine ⟨?_,(hnew k hk).2⟩;rcases (hnew k hk).1 with h | h
   ·exact (hin k h).1
   ·exact .inr (Nat.le_trans hs.low.size h)
  ·exact ⟨(hRr k hk).1,Nat.lt_of_lt_of_le (hRr k hk).2 hw.low.size⟩
 ·intro p hpm hk;rcases List.mem_append.1 hk with hk | hk
  ·rcases hkeep p hpm with rfl | ⟨hq,_⟩
   ·exact hw.rapart (b,cs') List.mem_cons_self hk
   ·rcases (hnew _ hk).1 with h | h
    ·exact hs.rapart p hq (List.mem_append_left _ h)
    ·have:=hs.lt hq;omega
  ·rcases hkeep p hpm with rfl | ⟨hq,_⟩
   ·exact hs.rapart (b,cs) hm (List.mem_append_right _ hk)
   ·exact hs.rapart p hq (List.mem_append_right _ hk)
section
variable {P:Program} {n:Nat} {E:Env} {w0:World} {F:List Nat} {H:Hp} {R:Asr} {fn:Func} {Z:Ending→World→Prop} {κ:List Kf}
theorem Pa {all:Array Oper} {l:List Oper} {d f b:Nat} {xs:List Operand} {vs:List Value} {ts:Array TypeId} {t:TypeId} {p:String} {e:Array Edge} {cs:List Value} {Rin:Asr} {ok:Value→List Value→Asr→Prop} (hf:IsFn P f)
  (hd:Nat.blt d n=true) (hx:args E xs=some vs) (i:Nat) (hp:H[i]?=some (b,cs)) (hc:RkP P f vs.toArray b cs Rin ok)
  (h:∀ v cs' R',ok v cs' R'→WL P n all l ((d,v)::E) w0 F (H.set i (b,cs')) (R'.and R) fn Z κ) :
  WL P n all (⟨some d,.call ⟨.value (.func f),xs.toArray,ts⟩,t,p,e,none⟩::l) E w0 F H (Rin.and R) fn Z κ :=
 ⟨fun w hs a ha=>wpList_plain rfl fun K hK=>by
  unfold Oper.wp;rw [V8 rfl hf,Ve ha xs vs hx];refine Calls.mono (hc w (rk_now hs hp)) ?_;rintro e w' ⟨v,cs',R',rfl,hok,hw⟩;exact hK _ _ ((h v cs' R' hok).go w' (Oz hs hp hw) _ (ha.put hd _))⟩
theorem Xa {w:World} {b:Nat} {cs':List Value} {Rin:Asr} {ok:Value→List Value→Asr→Prop} (hr:fn.results=#[]) (i:Nat) (hp:H[i]?=some (b,cs')) (h:ok (.tuple #[]) cs' R) :
  WQ P n .normal E w (b::Rin.S) H R fn (RkZ b w Rin ok) [] :=
 WQ_end0 hr fun _ hs=>⟨_,cs',R,rfl,h,hs.only hp⟩
theorem Wp {w:World} {b:Nat} {cs':List Value} {Rin:Asr} {ok:Value→List Value→Asr→Prop} {v:Value} (hr:Res P n E w (b::Rin.S) H R fn v) (i:Nat) (hp:H[i]?=some (b,cs')) (h:ok v cs' R) :
  WQ P n .ret E w (b::Rin.S) H R fn (RkZ b w Rin ok) [] :=
 WQ_res' hr fun _ hs=>⟨v,cs',R,rfl,h,hs.only hp⟩
theorem put_take {cs vs:List Value} {o N:Nat} (h1:o+vs.length≤N) (h2:N≤cs.length):(put cs o vs).take N=put (cs.take N) o vs:=by
 unfold put;rw [List.take_take,Nat.min_eq_left (by omega),List.take_append,List.take_of_length_le (by simp only [List.length_append,List.length_take];omega)];congr 1;rw [List.drop_take];congr 1;simp only [List.length_append,List.length_take];omega
theorem put_length {cs vs:List Value} {o:Nat} (h:o+vs.length≤cs.length):(put cs o vs).length=cs.length:=by
 unfold put;simp only [List.length_append,List.length_take,List.length_drop];omega
theorem Un {all:Array Oper} {l:List Oper} {t ty k e sz:TypeId} {x y:Operand} {p:String} {ed:Array Edge} {g o cnt cap:Nat} {xs vs:List Value} (ht:TN P t k) (hx:ev E x=some (.pointer (some ⟨g,o,none⟩))) (hy:ev E y=some (.agg vs.toArray))
  (hl:vs.length=k) (h1:vs.all (·.oneCell')=true) (hf:o+vs.length≤cnt*sz) (h:WL P n all l E w0 F H ((Y0 e sz (.slice (some ⟨g,0,none⟩) cnt cap) cnt (put xs o vs)).and R) fn Z κ) :
  WL P n all (⟨none,.store t x y,ty,p,ed,none⟩::l) E w0 F H ((Y0 e sz (.slice (some ⟨g,0,none⟩) cnt cap) cnt xs).and R) fn Z κ :=
 ⟨fun w hs a ha=>wpList_plain rfl fun K hK=>by
  have hown:w.ownsRow 0 e sz (.slice (some ⟨g,0,none⟩) cnt cap) cnt xs:=hs.res.1;have hxl:=hown.1;rcases hown.2 with ⟨hc,_⟩ | ⟨g',cap',cur,hc,h0,hg,hnc,hcm,hcs,htake⟩
  ·cases hc
  ·cases hc;have hcl:cnt*sz≤cur.size:=by rw [hcs];exact Nat.mul_le_mul_right _ hnc
   have hst:=run_storeCells_at P g o e vs 0 cur w hg (by simpa using (by omega:o+vs.length≤cur.size)) (Pj h1);have hz:=(ht w).2
   have hr:(execOp a.eval ⟨none,.store t x y,ty,p,ed,none⟩).run P w=.ok .skip (w.setRow g (put cur.toList o vs).toArray):=by
    simp only [execOp];rw [ha.eval hx,ha.eval hy];simp only [Instr.storeAt,Instr.sureAddr,storeVar,Value.cells];simp [hz,hl,hst,put]
   unfold Oper.wp;rw [hr];refine hK _ _ (h.go _ (hs.turn (w':=w.setRow g (put cur.toList o vs).toArray) ⟨J,J,J⟩ (by simp) (fun q _ hn=>setRow_other w g q _ (fun e'=>hn (by rw [e'];simp [Y0,Value.ownBlock]))) ?_ (fun q hq=>?_)) _ ha)
   ·refine ⟨by rw [put_length (by rw [hxl];omega)];exact hxl,.inr ⟨g,cap,(put cur.toList o vs).toArray,J,h0,setRow_heap w g cur _ e _ hg,hnc,hcm,?_,?_⟩⟩
    ·rw [List.size_toArray,put_length (by have h9:=Array.length_toList (xs:=cur);omega),Array.length_toList];exact hcs
    ·show (put cur.toList o vs).take (cnt*sz)=put xs o vs;rw [put_take hf (by have h9:=Array.length_toList (xs:=cur);omega),htake]
   ·refine ⟨?_,.inl hq⟩;have:(w.setRow g (put cur.toList o vs).toArray).heap.size=w.heap.size:=by simp
    rw [this];exact (hs.rhi q (List.mem_append_left _ hq)).2⟩
theorem Mz {m xs:List Value} {i:Nat} (hm:(i+1)*m.length≤xs.length):put (rep m i++xs.drop (i*m.length)) (i*m.length) m=rep m (i+1)++xs.drop ((i+1)*m.length):=by
 unfold put;have h1:(rep m i).length=i*m.length:=Oa m i;rw [List.take_append,List.take_of_length_le (by omega),h1,Nat.sub_self,List.take_zero,List.append_nil,rep,List.drop_append,List.drop_of_length_le (by omega),List.nil_append,List.drop_drop,h1];congr 2;rw [Nat.add_mul];omega
end
end E
end Go.Proofs.YtpofmnfkdkmieaaGreat
